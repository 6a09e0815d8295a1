import PyProof.Rows.All
import Wide.All
import OpenK.AllK
import Wide.FinOn
import Lean
import PyProof.EqAt
import PyProof.EqKinds
import PyProof.TupleCall
import PyProof.P3Statements
import PyProof.P3Eq
import PyProof.NeData
import PyProof.IsiPairs
import PyProof.IsiHeapPairs
import KE.LcSums
import PyProof.IsiNone
import PyProof.DictRoadsH
import PyProof.Rows.SetFrom
import PyProof.DictWalks
import PyProof.Rows.MinMaxN
import PyProof.Rows.SumAny
import PyProof.WalkInts
import PySem.Challenge.RW_halfseen_k12_traps
set_option Elab.async false
set_option linter.all false
set_option maxRecDepth 100000
open PySem renaming wpAny_bind->ZxZ,wpAny_pure->Zx5,starEach->Zyc,mainGlobals->ZyK,bootBuiltins->ZyX,wpAny_newObj_type->Zy0,compareOp->Zy6,behindInMarks->Zy7,wpAny_holding->Zzc,wpAny_mono->Zzg,codeAny_builtin->Zzk,wpAny_call_entry->Zzm,sizeLine_eq->Zzo,mem_of_lookup->Zzw,sysModules->Zzy,foldedSetIterable->ZzI,lookup_relabel_local->ZzW,wpAny_truthy_bool->ZzX,wpAny_typeNameOfWhole_keyiter->ZzY,swapsWith->Zz3,codeAny_mono->Zz4,wpAny_Call_Name_kw->Zz5,wpAny_passesOwn->Zz6,wpAny_ite_split->Zz7,attributeBase->Zz9,plainId_quiet->ZAb,wpAny_typeNameOf_keyiter->ZAl,tupleKind_room_in1->ZAv,wpAny_askSetting->ZAI,sliceBounds->ZAK,assignEach->ZAU,wpAny_setField->ZAZ,wpAny_tryCatch->ZA0,wpAny_dictEntries->ZA2,wpAny_setState_of->ZA4,keywordEach->ZA9,binaryOp->ZBg,tupleKind->ZBj,wpAny_execs_nil->ZBm,letOwnedTupleGo->ZBn,wpAny_newFunctionEnv->ZBr,wpAny_setEntries_of->ZBw,wpAny_fieldsOf->ZBB,firstArgMember->ZBC,codeAmong->ZBG,wpAny_attempt->ZBN,wpAny_pyIter_list->ZBT,wpAny_pyIter_slot->ZBV,builtinsNs->ZBZ,call_meets->ZB0,intKind_is->ZB3,backToKw->ZB8,wpAny_isInstance->ZCa,pickOrder->ZCj,wpAny_dictEpoch->ZCk,wpAny_updateSeq->ZCm,subscripted->ZCp,wpAny_of_eq->ZCq,wpAny_letGo->ZCr
open PySem.W renaming Frag->Zx0,fnOf->Zzj,keepIn->Zzp,codeHdIn->ZzE,codeIn->Zz1,nsIn->ZAm,tabObj->ZAD,envX->ZAS,mg_of->ZBf,kla_obj->ZBs,methodObj->ZBS,OpenLaw->ZCn,cellsFrom_some->ZCo,codeHd_of_K->ZCJ,callWith_K->ZCM,FnAt->ZCO
open List renaming length_map->Zx1,mem_cons_self->Zx3,mem_cons_of_mem->Zx4,map_cons->Zx6,range->Zx8,all_eq_true->Zx9,getElem?_eq_some_iff->Zyd,getElem?_eq_getElem->Zye,mem_map->Zyf,length_cons->Zyg,size_toArray->Zyj,length_append->Zyl,mem_singleton->Zym,map_map->Zyn,mem_cons->Zyo,mem_range->Zyq,getElem?_map->Zyr,mem_of_getElem?->Zyu,mem_append_right->Zyw,mem_filter->Zyx,mem_append->Zyy,getElem?_set_ne->Zyz,replicate->ZyA,getElem?_append_left->ZyB,getElem?_cons_succ->ZyD,map_append->ZyE,mem_append_left->ZyF,length_filter_le->ZyH,append_nil->ZyJ,getElem?_append_right->ZyM,length->ZyN,length_replicate->ZyP,pairwise_cons->ZyQ,getElem?_set_self->ZyR,nodup_cons->ZyV,find?_cons->ZyW,foldl_cons->Zy8,any_eq_true->Zy9,length_set->Zzd,filterMap_cons->Zzf,append_assoc->Zzh,all_cons->Zzi,mem_filterMap->Zzl,contains_eq_mem->Zzn,getD->Zzv,map_congr_left->Zzx,length_singleton->ZzA,length_take->ZzB,filter_cons->ZzF,any_cons->ZzG,nodup_nil->ZzH,replicate_succ->ZzK,lookup_cons->ZzN,getElem_mem->ZzO,map_nil->ZzU,getElem?_cons_zero->ZzZ,flatten_cons->ZAc,length_range->ZAd,nodup_append->ZAe,mem_flatMap->ZAj,getElem_of_mem->ZAn,filter_eq_self->ZAo,getElem?_replicate->ZAq,pairwise_mergeSort->ZAs,nil_append->ZAu,filter_eq_nil_iff->ZAx,eq_nil_of_length_eq_zero->ZAy,set_getElem_self->ZAB,length_drop->ZAF,mergeSort_perm->ZAL,mem_of_find?_eq_some->ZAN,min?_eq_some_iff->ZBl,set_set->ZBo,filter_map->ZBv,length_pos_iff->ZBy,map->ZBz,range'->ZBE,ne_nil_of_mem->ZBK,nodup_iff_pairwise_ne->ZBQ,exists_cons_of_ne_nil->ZBR,find?_append->ZBU,pairwise_map->ZBX,find?_isSome->ZBY,drop_eq_getElem_cons->ZB1,pairwise_iff_getElem->ZB2,getElem?_take_of_lt->ZB7,set_eq_of_length_le->ZB9,cons_append->ZCc,length_filterMap_le->ZCd,filter_cons_of_pos->ZCe,filter_cons_of_neg->ZCf,of_mem_zip->ZCg,length_nil->ZCh,pairwise_lt_range->ZCs,getElem?_eq_none->ZCt,max?_eq_some_iff->ZCy,dropLast_eq_take->ZCz,min?_eq_none_iff->ZCA,max?_eq_none_iff->ZCB,all_nil->ZCP
open Option renaming map_eq_some_iff->Zx2,isSome_iff_exists->ZyL,map->Zze,isSome_map->Zzu,isSome->ZAJ,bind_eq_some_iff->ZA1
open PySem.Heap renaming get?_push_of_some->Zx7,lt_size->Zyh,get?_push_size->Zyi,get?_update_self->Zzb,get?_update_other->Zzq,SameBut->ZzT,size_push->ZAC,get?_push_ne->ZA7,size_update->ZBi
open PySem.SetTable renaming below->Zya,insertAt->Zys,insertAt_perm->ZzL,tooFull->ZAH,toList_insertAt->ZAR,fits->ZBc,fill->ZBd,turns->ZCu,bits->ZCE
open Nat renaming le_refl->Zyb,ne_of_lt->Zyp,lt_of_lt_of_le->Zyv,le_trans->ZyO,zero_le->Zzr,lt_irrefl->ZzM,le_of_lt->ZzS,lt_trans->ZzV,lt_succ_self->ZAi,lt_succ_of_lt->ZAA,le_of_not_lt->ZAG,ne_of_gt->ZAO,blt_eq->ZAX,le_of_eq->ZBq,pow_le_pow_right->ZBu,min_le_left->ZCi
open Bool renaming and_eq_true->Zyk,false_ne_true->ZyI,or_eq_true->ZzJ,false_eq_true->ZzR,eq_iff_iff->ZAM,false_or->ZBM,true_and->ZCG
open Array renaming length_toList->Zyt,getElem?_toList->ZyS,getD->Zz2,toList_push->ZAf,getElem?_eq_getElem->ZAg,getElem?_eq_none->ZBa,perm_iff_toList_perm->ZBO
open Or renaming inr->ZyC,inl->ZyY
open PySem.PyData renaming int->ZyG,tuple->ZyT,eqv->Zy4,bool->Zzt,canLayAll0->ZAz,depthAll->ZBt,eqvAll->ZBP,dict->ZCR
open Option.some renaming inj->ZyU
open PySem.Value renaming ref->ZyZ,none->Zy2,int->ZzQ,type->ZAT
open Ne renaming symm->Zy1
open False renaming elim->Zy3
open PySem.Around renaming under_plainId->Zy5,frames_deeper->ZCC
open PySem.Heap.SameBut renaming update->Zza,refl->ZCQ
open PySem.F renaming plain_min_loop->Zzs,called_set->ZzC,plainAttrs_list->Zz0,plain_list_iadd->ZAr,slot_list_append->ZAP,type_list_append->ZAQ,entry_min_loop->ZBb,slot_dict_setdefault->ZBA,plain_proto_collect->ZBI,plain_set_new->ZCv,slot_set_iter->ZCw
open List.Nodup renaming length_le_of_subset->Zzz
open PySem.Obj renaming data_mapFields->ZzD,mapSeq->ZAV,putSet->ZAY,isFreed_of_fields->ZBk,cls_mapFields->ZBW,mapFields->ZCF
open Sum renaming inl->ZzP,inr->ZB6
open PyProof.Rows.KeyOrd renaming kle_of_not_klt->Zz8,kle_refl->ZAw,kle_of_klt->ZA6,kle_trans->ZBh,kle_antisymm->ZCH
open PySem.NameKind renaming free->ZAa
open PySem.Builtin.List renaming listTooLong->ZAh,listLengthHint->ZBH,listExtendWith->ZBJ
open PySem.Str renaming ofString->ZAk
open PySem.Builtin.Range renaming rangeSize->ZAp,small->ZCI
open PySem.Paired renaming length->ZAt
open PyProof.Rows renaming callWith_type1->ZAE,entry_list_sort->ZCl
open True renaming intro->ZAW
open PySem.SetTable.below renaming go->ZA3
open Int renaming toNat_natCast->ZA5,toNat_of_nonneg->ZBx
open PySem.Calls renaming callWith_builtin->ZA8,spliced_cons->ZBF,Name_function_global->ZBL,call_function_entry->ZB4,evalArgs_plain->ZCD
open Function renaming comp->ZBe
open ForInStep renaming yield->ZBp
open PySem.Builtin.Dict_items renaming ownsTuple->ZBD
open Classical renaming byContradiction->ZB5
open PySem.Builtin.Tuple renaming tupleExact->ZCb
open PySem.Builtin.Dict renaming showsAll->ZCx
open PySem.SeqAt.EqAt renaming int_str->ZCK,str_int->ZCL
open PySem.Expr renaming Call->ZCN
namespace L2
open PySem PySem.Spec PyProof.Rows
abbrev Key:=Sum Int Str
def ZhX:Key->Value->Bool
 | .inl k,v=>Value.isInt k v
 | .inr x,v=>Value.isStrOf x v
def ZxO(w:World):Key->Int
 | .inl k=>hashInt k
 | .inr x=>hashStr w x
theorem Zbi:∀{k:Key} {v:Value},ZhX k v=true->(∃i t,k=ZzP i/\v=ZzQ i t)\/(∃x t,k=ZB6 x/\v=Value.str x t)
 | .inl i,v,h=>by obtain⟨t,e⟩:=Value.isInt_shape (k:=i) (v:=v) h;exact .inl ⟨i,t,rfl,e⟩
 | .inr x,v,h=>by obtain⟨t,e⟩:=Value.isStrOf_shape (x:=x) (v:=v) h;exact .inr ⟨x,t,rfl,e⟩
theorem Zsf(i:Int)(t:Tok):ZhX (.inl i) (.int i t)=true:=by simp[ZhX,Value.isInt]
theorem Zsu(x:Str)(t:Tok):ZhX (.inr x) (.str x t)=true:=by simp[ZhX,Value.isStrOf]
theorem Zvy(a b:Int):decide ((ZzP a:Key)=ZzP b)=(a==b):=by
 by_cases e:a=b
 ·subst e; simp
 ·have h:¬(ZzP a:Key)=ZzP b:=λq=>e (Sum.inl.inj q)
  rw[decide_eq_false h];exact(beq_eq_false_iff_ne.mpr e).symm
theorem ZvW(a b:Str):decide ((ZB6 a:Key)=ZB6 b)=decide (a=b):=by
 by_cases e:a=b
 ·subst e; simp
 ·have h:¬(ZB6 a:Key)=ZB6 b:=λq=>e (Sum.inr.inj q)
  rw[decide_eq_false h,decide_eq_false e]
theorem Zvi(a:Int)(b:Str):decide ((ZzP a:Key)=ZB6 b)=false:=decide_eq_false (λq=>nomatch q)
theorem ZvU(a:Str)(b:Int):decide ((ZB6 a:Key)=ZzP b)=false:=decide_eq_false (λq=>nomatch q)
def ZaG(prog:Program)(w:World):PySem.KeyKind prog w Key where
 is:=ZhX
 hash:=ZxO w
 inj:=λv a b ha hb=>by
  rcases Zbi ha with⟨i,t,rfl,rfl⟩ | ⟨x,t,rfl,rfl⟩
  ·rcases Zbi hb with⟨j,u,rfl,e⟩ | ⟨y,u,rfl,e⟩
   ·injection e with e1 _; rw[e1]
   ·exact nomatch e
  ·rcases Zbi hb with⟨j,u,rfl,e⟩ | ⟨y,u,rfl,e⟩
   ·exact nomatch e
   ·injection e with e1 _; rw[e1]
 byValue:=λk v h=>by rcases Zbi h with⟨i,t,rfl,rfl⟩ | ⟨x,t,rfl,rfl⟩<;>rfl
 pyHash:=λhv h=>by
  rcases Zbi hv with⟨i,t,rfl,rfl⟩ | ⟨x,t,rfl,rfl⟩
  ·exact wpAny_pyHash_int h
  ·exact wpAny_pyHash_str h
 eqBool:=λhu hv h=>by
  rcases Zbi hu with⟨i,t,rfl,rfl⟩ | ⟨x,t,rfl,rfl⟩
  ·rcases Zbi hv with⟨j,u,rfl,rfl⟩ | ⟨y,u,rfl,rfl⟩
   ·rw[Zvy]at h; exact wpAny_eqBool_int h
   ·rw[Zvi]at h; exact ZCK i t y u _ _ _ _ h
  ·rcases Zbi hv with⟨j,u,rfl,rfl⟩ | ⟨y,u,rfl,rfl⟩
   ·rw[ZvU]at h; exact ZCL x t j u _ _ _ _ h
   ·rw[ZvW]at h; exact wpAny_eqBool_str h
 «strs»:=λk x t v h=>by
  rcases Zbi h with⟨i,u,rfl,e⟩ | ⟨y,u,rfl,e⟩
  ·exact nomatch e
  ·injection e with e1 _
   subst e1;cases v<;>rfl
theorem ZqG(prog:Program)(w:World)(k:Key)(v:Value):(ZaG prog w).is k v=ZhX k v:=rfl
theorem Zpw(prog:Program)(w:World)(i:Int)(t:Tok):(ZaG prog w).is (.inl i) (.int i t)=true:=Zsf i t
theorem Zpr(prog:Program)(w:World)(x:Str)(t:Tok):(ZaG prog w).is (.inr x) (.str x t)=true:=Zsu x t
end L2
namespace L2
open PySem PySem.Spec PyProof.Rows
inductive V where
 | non | bl (b:Bool) | int (i:Int) | str (x:Str) | byt (b:Array UInt8) | flt (b:UInt64) | ref (a:Addr) | ty (n:String)
 deriving DecidableEq
def RelV:V->Value->Prop
 | .non,u=>u=Zy2
 | .bl b,u=>u=Value.bool b
 | .int i,u=>∃t,u=ZzQ i t
 | .str x,u=>∃t,u=Value.str x t
 | .byt b,u=>∃t,u=Value.bytes b t
 | .flt b,u=>∃t,u=Value.float b t
 | .ref a,u=>u=ZyZ a
 | .ty n,u=>u=ZAT n
abbrev Vals:List V->List Value->Prop:=Paired RelV
theorem Vals.length{xs:List V}{us:List Value}(r:Vals xs us):xs.length=us.length:=ZAt r
theorem Vals.get:∀{xs:List V} {us:List Value} {i:Nat} {x:V},Vals xs us->xs[i]?=some x->∃u,us[i]?=some u/\RelV x u
 | _,_,_,_,.nil,e=>by simp at e
 | _,_,0,_,.cons r _,e=>by simp at e; subst e; exact⟨_,rfl,r⟩
 | _,_,i+1,x,.cons _ t,e=>by obtain⟨u,h1,h2⟩:=Vals.get (i:=i) (x:=x) t (by simpa using e);exact⟨u,by simpa using h1,h2⟩
theorem Vals.set{x:V}{u:Value}(r:RelV x u):∀{xs:List V} {us:List Value} (i:Nat),Vals xs us->Vals (xs.set i x) (us.set i u)
 | _,_,_,.nil=>.nil
 | _,_,0,.cons _ t=>.cons r t
 | _,_,i+1,.cons q t=>.cons q (Vals.set r i t)
theorem Vals.append:∀{xs ys:List V} {us ws:List Value},Vals xs us->Vals ys ws->Vals (xs++ys) (us++ws)
 | _,_,_,_,.nil,s=>s
 | _,_,_,_,.cons r t,s=>.cons r (Vals.append t s)
theorem Vals.take:∀{xs:List V} {us:List Value} (n:Nat),Vals xs us->Vals (xs.take n) (us.take n)
 | _,_,0,_=>.nil
 | _,_,_+1,.nil=>.nil
 | _,_,n+1,.cons r t=>.cons r (Vals.take n t)
theorem Vals.drop:∀{xs:List V} {us:List Value} (n:Nat),Vals xs us->Vals (xs.drop n) (us.drop n)
 | _,_,0,r=>r
 | _,_,_+1,.nil=>.nil
 | _,_,n+1,.cons _ t=>Vals.drop n t
def ZgT:Option V->Option Value->Prop
 | some v,some u=>RelV v u
 | none,none=>True
 | _,_=>False
def KV{κ:Type}:List (κ × V)->List (κ × Value)->Prop:=Paired λ(p:κ × V) (q:κ × Value)=>p.1=q.1/\RelV p.2 q.2
def kV:Key->V
 | .inl i=>.int i
 | .inr x=>.str x
inductive HO where
 | lst (xs:List V)
 | tup (xs:List V)
 | dK (kvs:List (Key × V)) | dT (kvs:List (List Key × V))
 | set (S:Int->Bool) (n:Nat)
 | ins (C dx:Addr) (fs:List (Str × V))
 | own (x:Addr)
 | xd (fs:List (Str × V))
 | met (f x:Addr)
 | rng (lo hi:Int)
 | frz (o:Obj) (u:HO)
 | tbl (ps:Array Value)
 | ext (φ:Heap->Prop)
abbrev Hp:=Addr->Option HO
def upd(H:Hp)(a:Addr)(o:HO):Hp:=λb=>if b=a then some o else H b
theorem ZE{H:Hp}{a:Addr}{o:HO}:upd H a o a=some o:=by unfold upd; rw[if_pos rfl]
theorem ZB{H:Hp}{a b:Addr}{o:HO}(h:b≠a):upd H a o b=H b:=by unfold upd; rw[if_neg h]
theorem Zt3{H:Hp}{a b:Addr}{o u:HO}(h:H a=some o)(h':H b=some u)(d:o≠u):a≠b:=by intro e; subst e; rw[h]at h'; exact d (ZyU h')
theorem Zau{H:Hp}{a b:Addr}{o:HO}(h:H a=some o)(h':H b=none):a≠b:=by intro e; subst e; rw[h]at h'; cases h'
section
variable(P:Program)(w:World)
def Z8(H:Hp)(h:Heap)(a:Addr):HO->Prop
 | .lst xs=>xs.length<=sizeLine/\∃(its:List Value) (n:Nat),Vals xs its/\h.get? a=some { cls:=.type "list",data:=.seq its.toArray n }
 | .tup xs=>xs.length<=sizeLine/\∃its:List Value,Vals xs its/\IsTup h a its.toArray
 | .dK kvs=>kvs.length<=sizeLine/\(a==Zzy)=false/\∃vs,KV kvs vs/\h.DictOf (ZaG P w) a vs
 | .dT kvs=>kvs.length<=sizeLine/\(a==Zzy)=false/\∃xs:List (List Key × Addr × Value),
   Paired (λ(p:List Key × V) (q:List Key × Addr × Value)=>p.1=q.1/\H q.2.1=some (.tup (p.1.map kV))/\RelV p.2 q.2.2) kvs xs /\
   ∃o es ep,h.get? a=some o/\o.ExactDict/\o.data=.dict es ep/\es.toList=xs.map (entryOfKey (ZBj (ZaG P w)))/\(xs.map (·.1)).Nodup
 | .set S n=>h.SetOf (intKind P w) a S n
 | .ins C dx fs=>H dx=some (.own a)/\fs.length<=1000/\dx≠a/\h.get? a=some (PySem.W.instObj C dx) /\
   ∃mA,h.Ns1 dx mA/\(∀f,ZgT (fs.lookup f) (mA f))/\PySem.Within mA (fs.map (·.1))
 | .own _=>∃o,h.get? a=some o
 | .xd fs=>∃mA,h.Ns1 a mA/\∀f,ZgT (fs.lookup f) (mA f)
 | .rng lo hi=>∃t u v,h.get? a=some { cls:=.type "range",data:=.fields #[.int lo t,.int hi u,.int 1 v] }
 | .frz o u=>h.get? a=some o/\Z8 H h a u
 | .tbl ps=>h.get? a=some { cls:=.none,data:=.fields ps }
 | .met f x=>h.get? a=some (ZBS (.ref f) (.ref x))
 | .ext φ=>φ h/\(∃o,h.get? a=some o)/\∀h1 h2:Heap,φ h1->(∀o,h1.get? a=some o->h2.get? a=some o)->φ h2
def HOk(H:Hp)(h:Heap):Prop:=∀a o,H a=some o->Z8 P w H h a o
end
section
variable{P:Program}{w:World}{H H':Hp}{h h':Heap}{a:Addr}{o:HO}
theorem Z8.lt(x:Z8 P w H h a o):a<h.objs.size:=by
 cases o with
 | lst xs=>obtain⟨_,_,_,_,e⟩:=x; exact Zyh e
 | tup xs=>obtain⟨_,_,_,p⟩:=x; exact p.lt
 | dK kvs=>obtain⟨_,_,_,_,o,_,_,e,_⟩:=x; exact Zyh e
 | dT kvs=>obtain⟨_,_,_,_,o,_,_,e,_⟩:=x; exact Zyh e
 | set S n=>obtain⟨o,_,_,_,e,_⟩:=x; exact Zyh e
 | ins C dx fs=>obtain⟨_,_,_,e,_⟩:=x; exact Zyh e
 | own y=>obtain⟨_,e⟩:=x; exact Zyh e
 | xd fs=>obtain⟨_,⟨_,_,_,e,_⟩,_⟩:=x; exact Zyh e
 | rng lo hi=>obtain⟨_,_,_,e⟩:=x; exact Zyh e
 | frz ob u=>obtain⟨e,_⟩:=x; exact Zyh e
 | tbl ps=>exact Zyh (show h.get? a=some _ from x)
 | met f y=>exact Zyh (show h.get? a=some _ from x)
 | ext φ=>obtain⟨_,⟨_,e⟩,_⟩:=x; exact Zyh e
theorem Paired.mapP{α β:Type}{F G:α->β->Prop}:∀{l₁:List α} {l₂:List β},Paired F l₁ l₂->(∀a b,F a b->G a b)->Paired G l₁ l₂
 | _,_,.nil,_=>.nil
 | _,_,.cons r t,f=>.cons (f _ _ r) (Paired.mapP t f)
theorem Z8.stay(x:Z8 P w H h a o)(k:∀b u,(b=a\/H b=some (.own a))->h.get? b=some u->h'.get? b=some u)
  (ho:∀b,H b=some (.own a)->H' b=some (.own a)) (ht:∀b xs,H b=some (.tup xs)->H' b=some (.tup xs)):Z8 P w H' h' a o:=by
 induction o with
 | lst xs=>obtain⟨z,its,n,r,e⟩:=x; exact⟨z,its,n,r,k _ _ (.inl rfl) e⟩
 | tup xs=>obtain⟨z,its,r,ob,e,c⟩:=x; exact⟨z,its,r,ob,k _ _ (.inl rfl) e,c⟩
 | dK kvs=>obtain⟨z,y,vs,r,ob,es,ep,e,c⟩:=x; exact⟨z,y,vs,r,ob,es,ep,k _ _ (.inl rfl) e,c⟩
 | dT kvs=>obtain⟨z,y,xs,r,ob,es,ep,e,c⟩:=x;exact⟨z,y,xs,Paired.mapP r λp q z=>⟨z.1,ht _ _ z.2.1,z.2.2⟩,ob,es,ep,k _ _ (.inl rfl) e,c⟩
 | set S n=>obtain⟨ob,es,ep,t,e,c⟩:=x; exact⟨ob,es,ep,t,k _ _ (.inl rfl) e,c⟩
 | ins C dx fs=>obtain⟨d,z,ne,e,mA,⟨od,es,ep,e2,c⟩,r⟩:=x;exact⟨ho _ d,z,ne,k _ _ (.inl rfl) e,mA,⟨od,es,ep,k _ _ (.inr d) e2,c⟩,r⟩
 | own y=>obtain⟨ob,e⟩:=x; exact⟨ob,k _ _ (.inl rfl) e⟩
 | xd fs=>obtain⟨mA,⟨od,es,ep,e,c⟩,r⟩:=x; exact⟨mA,⟨od,es,ep,k _ _ (.inl rfl) e,c⟩,r⟩
 | rng lo hi=>obtain⟨t,u,v,e⟩:=x; exact⟨t,u,v,k _ _ (.inl rfl) e⟩
 | frz ob u ih=>obtain⟨e,q⟩:=x; exact⟨k _ _ (.inl rfl) e,ih q⟩
 | tbl ps=>have e:h.get? a=some { cls:=.none,data:=.fields ps }:=x;show h'.get? a=some { cls:=.none,data:=.fields ps };exact k a _ (.inl rfl) e
 | met f y=>have e:h.get? a=some (ZBS (.ref f) (.ref y)):=x;show h'.get? a=some (ZBS (.ref f) (.ref y));exact k a _ (.inl rfl) e
 | ext φ=>obtain⟨p,⟨o,e⟩,st⟩:=x; exact⟨st _ _ p λo q=>k _ _ (.inl rfl) q,⟨o,k _ _ (.inl rfl) e⟩,st⟩
theorem HOk.lt(x:HOk P w H h)(e:H a=some o):a<h.objs.size:=(x a o e).lt
theorem HOk.fresh(x:HOk P w H h)(e:h.objs.size<=a):H a=none:=by
 cases q:H a with
 | none=>rfl
 | some u=>exact absurd (Zyv (x.lt q) e) (ZzM _)
theorem HOk.kept(x:HOk P w H h)(k:∀b u,h.get? b=some u->h'.get? b=some u):HOk P w H h':=λa o e=>(x a o e).stay (λb u _ q=>k b u q) (λ_ q=>q) λ_ _ q=>q
theorem HOk.laid(x:HOk P w H h)(k:∀b u,h.get? b=some u->h'.get? b=some u)(hp:h.objs.size<=a)(new:Z8 P w (upd H a o) h' a o):HOk P w (upd H a o) h':=λb u e=>by
 have hn:=x.fresh hp
 by_cases hb:b=a
 ·subst hb; rw[ZE]at e; cases e; exact new
 ·rw[ZB hb]at e
  exact(x b u e).stay (λc v _ q=>k c v q) (λc q=>by rw[ZB (Zau q hn)]; exact q) λc xs q=>by rw[ZB (Zau q hn)]; exact q
end
def Rd(H:Hp)(a:Addr)(u:HO):Prop:=H a=some u\/∃o,H a=some (.frz o u)
theorem Rd.ok{P:Program}{w:World}{H:Hp}{h:Heap}{a:Addr}{u:HO}(r:Rd H a u)(x:HOk P w H h):Z8 P w H h a u:=by
 rcases r with r | ⟨o,r⟩
 ·exact x a u r
 ·obtain⟨_,q⟩:=x a _ r
  exact q
def Mut:Option HO->Prop
 | some (.lst _)=>True
 | some (.dK _)=>True
 | some (.dT _)=>True
 | some (.set _ _)=>True
 | some (.ins _ _ _)=>True
 | some (.ext _)=>True
 | _=>False
section
variable{P:Program}{w:World}{H:Hp}{h h':Heap}{x e:Addr}{o':HO}
theorem HOk.write(ok:HOk P w H h)(mu:Mut (H x))(he:e=x\/H e=some (.own x))(k:∀b u,b≠e->h.get? b=some u->h'.get? b=some u)(heo:∃u,h'.get? e=some u)
  (new:Z8 P w (upd H x o') h' x o'):HOk P w (upd H x o') h':=λb u q=>by
 have nown:∀c y,H c=some (.own y)->c≠x:=λc y r z=>by subst z; rw[r]at mu; exact mu
 have ntup:∀c xs,H c=some (.tup xs)->c≠x:=λc xs r z=>by subst z; rw[r]at mu; exact mu
 by_cases hb:b=x
 ·subst hb; rw[ZE]at q; cases q; exact new
 ·rw[ZB hb]at q
  by_cases hbe:b=e
  ·have q':H b=some (.own x):=by
    rcases he with z | z
    ·exact absurd (hbe.trans z) hb
    ·rw[hbe]; exact z
   rw[q]at q'; cases q';obtain⟨v,hv⟩:=heo;exact⟨v,by rw[hbe]; exact hv⟩
  ·refine(ok b u q).stay (λc v hc r=>k c v ?_ r) (λc r=>by rw[ZB (nown c b r)]; exact r) λc xs r=>by rw[ZB (ntup c xs r)]; exact r
   rcases hc with rfl | hc
   ·exact hbe
   ·rintro rfl
    rcases he with z | z
    ·exact nown c b hc z
    ·rw[hc]at z; cases z; exact hb rfl
end
structure Un(fs ex:List Addr)(H H':Hp)(h h':Heap):Prop where
 keep:∀b o,h.get? b=some o->H b=none->b ∉ fs->b ∉ ex->h'.get? b=some o
 slot:∀b o,h.get? b=some o->H b=none->b∈fs->b ∉ ex->∃sl,h'.get? b=some { o with slots:=sl }
 free:∀b o,h.get? b=some o->H b=none->b ∉ ex->H' b=none
 there:∀b o,h.get? b=some o->b ∉ ex->∃o',h'.get? b=some o'
 tups:∀b xs,H b=some (.tup xs)->H' b=some (.tup xs)
 frzs:∀b o u,H b=some (.frz o u)->H' b=some (.frz o u)
 tbls:∀b ps,H b=some (.tbl ps)->∃more,H' b=some (.tbl (ps++more))
section
variable{fs fs' ex ex':List Addr}{H H1 H2:Hp}{h h1 h2 h':Heap}{a x e:Addr}{o:HO}
theorem Un.any(u:Un fs ex H H1 h h1){b:Addr}{ob:Obj}(q:h.get? b=some ob)(n:H b=none)(hx:b ∉ ex):∃sl,h1.get? b=some { ob with slots:=sl }:=by
 by_cases hb:b∈fs
 ·exact u.slot b ob q n hb hx
 ·exact⟨ob.slots,u.keep b ob q n hb hx⟩
theorem Un.kept(k:∀b u,h.get? b=some u->h'.get? b=some u):Un fs ex H H h h' :=
 ⟨λb ob q _ _ _=>k b ob q,λb ob q _ _ _=>⟨ob.slots,k b ob q⟩,λ_ _ _ n _=>n,λb ob q _=>⟨ob,k b ob q⟩,λ_ _ q=>q,λ_ _ _ q=>q,λ_ ps q=>⟨#[],by rw[q]; simp⟩⟩
theorem Un.refl:Un fs ex H H h h:=Un.kept λ_ _ q=>q
theorem Un.laid(k:∀b u,h.get? b=some u->h'.get? b=some u)(hp:h.objs.size<=a)(hn:H a=none):Un fs ex H (upd H a o) h h' where
 keep:=λb u q _ _ _=>k b u q
 slot:=λb u q _ _ _=>⟨u.slots,k b u q⟩
 free:=λb u q n _=>by rw[ZB (Zyp (Zyv (Zyh q) hp))]; exact n
 there:=λb u q _=>⟨u,k b u q⟩
 tups:=λb xs q=>by rw[ZB (Zau q hn)]; exact q
 frzs:=λb u xs q=>by rw[ZB (Zau q hn)]; exact q
 tbls:=λb ps q=>⟨#[],by rw[ZB (Zau q hn),q]; simp⟩
theorem Un.write(mu:Mut (H x))(he:e=x\/H e=some (.own x))(k:∀b u,b≠e->h.get? b=some u->h'.get? b=some u)(heo:∃u,h'.get? e=some u):Un fs ex H (upd H x o) h h':=by
 have hx:∀b,H b=none->b≠x:=λb n z=>by subst z; rw[n]at mu; exact mu
 have hb:∀b,H b=none->b≠e:=λb n z=>by
  subst z;rcases he with r | r
  ·exact hx b n r
  ·rw[n]at r; cases r
 have hm:∀b u,H b=some u->¬Mut (some u)->b≠x:=λb u q nm z=>by subst z; rw[q]at mu; exact nm mu
 refine⟨λb u q n _ _=>k b u (hb b n) q,λb u q n _ _=>⟨u.slots,k b u (hb b n) q⟩,λb u q n _=>by rw[ZB (hx b n)]; exact n,λb u q _=>?_,
  λb xs q=>by rw[ZB (hm b _ q λz=>z)]; exact q,λb u xs q=>by rw[ZB (hm b _ q λz=>z)]; exact q,λb ps q=>⟨#[],by rw[ZB (hm b _ q λz=>z),q]; simp⟩⟩
 by_cases hbe:b=e
 ·subst hbe; exact heo
 ·exact⟨u,k b u hbe q⟩
end
def trk(h:Heap)(H:Hp):List Addr:=(Zx8 h.objs.size).filter λa=>(H a).isSome
def ZgX(h:Heap)(H:Hp):Heap:=PySem.W.hideAll h (trk h H)
theorem Zsw(h:Heap)(H:Hp):(ZgX h H).objs.size=h.objs.size:=PySem.W.hideAll_size _ _
theorem ZsJ{h:Heap}{H:Hp}{b:Addr}{o:Obj}(e:h.get? b=some o)(n:H b=none):(ZgX h H).get? b=some o :=
 PySem.W.hideAll_get _ e λhm=>by have q:(H b).isSome=true:=(Zyx.mp hm).2;rw[n]at q; simp at q
theorem ZuS{h:Heap}{H:Hp}{b:Addr}{o:Obj}(e:(ZgX h H).get? b=some o):h.get? b=some o/\H b=none:=by
 have e':h.get? b=some o:=PySem.W.of_hideAll (trk h H) e;refine⟨e',?_⟩;cases q:H b with
 | none=>rfl
 | some x=>have hm:b∈trk h H:=Zyx.mpr ⟨Zyq.mpr (Zyh e'),by simp[q]⟩;have z:(ZgX h H).get? b=none:=PySem.W.hideAll_none (trk h H) hm;rw[z]at e; cases e
end L2
namespace L2
open PySem PySem.Spec PyProof.Rows
structure Mod(K:Zx0)(mg:Str->Option Value)(base:Heap):Prop where
 kin:K.In base
 glob:base.Ns ZyK mg
 blt:∃mb,base.Ns ZBZ mb/\∀x:Str,x ≠ "__name__"->mb x=ZyX x
 nolimit:base.NoLimit
structure Cx where
 prog:Program
 w:World
 K:Zx0
 mg:Str->Option Value
 base:Heap
 A:Around
 N:List Str
 s₀:Shared
 H₀:Hp
 env:Env
 outer:List Env
 stack:List Env
 ex:List Addr
 fn:Str->Bool
 calm:Bool
 pn:List (Addr × Obj)
 xe:Value->Shared->Prop
def frs(l:List Env):List Addr:=l.filterMap (·.frame)
abbrev Cx.fs(X:Cx):List Addr:=frs X.outer
def Vis(sc:Scope)(x:Str):Prop:=sc.names.lookup x=some .local\/sc.names.lookup x=some .cell\/sc.names.lookup x=some .free
def Loc(sc:Scope)(x:Str):Prop:=sc.names.lookup x=some .local\/sc.names.lookup x=some .cell
def Look(env:Env)(h:Heap)(m:Str->Option Value)(x:Str)(u:Value):Prop :=
 (env.kindOf x=some .local/\m x=some u)\/((env.kindOf x=some .cell\/env.kindOf x=some .free)/\∃c,env.cells.lookup x=some c/\h.IsCell c (some u))
structure Cx.Ok(X:Cx):Prop where
 mod:Mod X.K X.mg X.base
 kind:X.env.scope.kind=.function
 glob:X.env.globals=ZyK
 blt:X.env.builtins=ZBZ
 above:X.s₀.heap.objs.size<=X.env.locals
 inj:∀x y c,X.env.cells.lookup x=some c->X.env.cells.lookup y=some c->x=y
 has:∀x,(X.env.kindOf x=some .cell\/X.env.kindOf x=some .free)->∃c,X.env.cells.lookup x=some c
 cab:∀x c,X.fn x=true->X.env.cells.lookup x=some c->X.s₀.heap.objs.size<=c
 hd:X.calm=true->X.A.handled=none
 frames:X.A.frames=some X.stack
 stk:X.stack=X.outer\/(X.stack=X.env::X.outer/\X.env.frame=some X.env.locals)
 exf:∀b∈X.ex,b≠X.env.locals/\∀x c,X.env.cells.lookup x=some c->c≠b
 bs:∀b o,X.base.get? b=some o->X.s₀.heap.get? b=some o/\X.H₀ b=none
 bsz:X.base.objs.size<=X.s₀.heap.objs.size
 noex:∀b o,X.base.get? b=some o->b ∉ X.ex
 exfs:∀b∈X.ex,b ∉ X.fs
 funs:X.s₀.heap.FunFrames X.base X.outer
 frf:∀b∈X.fs,X.H₀ b=none
structure Inv(X:Cx)(pins:List (Addr × Obj))(σ:List (Option V))(H:Hp)(s:Shared):Prop where
 ok:X.Ok
 os:s.os=X.s₀.os
 bare:AllBare s.gens
 base:Un X.fs X.ex X.H₀ H X.s₀.heap s.heap
 loc:∃m,s.heap.Ns X.env.locals m/\∀(i:Nat) (x:Str) (v:V),X.N[i]?=some x->σ[i]?=some (some v)->Vis X.env.scope x->∃u,RelV v u/\Look X.env s.heap m x u
 cell:∀x c,X.env.cells.lookup x=some c->∃v,s.heap.IsCell c v
 free:H X.env.locals=none
 freeC:∀x c,X.env.cells.lookup x=some c->H c=none
 pin:∀p∈X.pn++pins,s.heap.get? p.1=some p.2/\H p.1=none/\p.1≠X.env.locals/\p.1 ∉ X.fs/\∀v,p.2.data≠.cell v
 hok:HOk X.prog X.w H s.heap
 len:σ.length=X.N.length
section
variable{X:Cx}{pins:List (Addr × Obj)}{σ:List (Option V)}{H H':Hp}{s:Shared}{h':Heap}
theorem Cx.Ok.nofr(ok:X.Ok){b:Addr}{o:Obj}(e:X.base.get? b=some o):b ∉ X.fs:=λhb=>by have:=(ok.funs.mem hb).1;rw[e]at this; cases this
theorem Inv.bs(I:Inv X pins σ H s):∀b o,X.base.get? b=some o->s.heap.get? b=some o/\H b=none:=λb o e=>⟨I.base.keep b o (I.ok.bs b o e).1 (I.ok.bs b o e).2 (I.ok.nofr e) (I.ok.noex b o e),I.base.free b o (I.ok.bs b o e).1 (I.ok.bs b o e).2 (I.ok.noex b o e)⟩
theorem Inv.bk(I:Inv X pins σ H s):∀b o,X.base.get? b=some o->s.heap.get? b=some o:=λb o e=>(I.bs b o e).1
theorem Inv.mod(I:Inv X pins σ H s):Mod X.K X.mg X.base:=I.ok.mod
theorem Inv.kIn(I:Inv X pins σ H s):X.K.In s.heap:=I.ok.mod.kin.keeps I.bk
theorem Inv.lt(I:Inv X pins σ H s):X.env.locals<s.heap.objs.size:=let ⟨_,hn,_⟩:=I.loc; hn.lt
theorem Inv.sz(I:Inv X pins σ H s):X.s₀.heap.objs.size<=s.heap.objs.size:=ZyO I.ok.above (ZzS I.lt)
theorem Inv.nofs(I:Inv X pins σ H s){a:Addr}(h:s.heap.objs.size<=a):a ∉ X.fs:=λhb=>by obtain⟨_,o,ho,_⟩:=I.ok.funs.mem hb;exact absurd (Zyv (Zyh ho) (ZyO I.sz h)) (ZzM _)
theorem Inv.cne(I:Inv X pins σ H s):∀x c,X.env.cells.lookup x=some c->c≠X.env.locals:=λx c e z=>by obtain⟨v,o,ho,hd⟩:=I.cell x c e;obtain⟨m,⟨o',es,ep,ho',hd',_⟩,_⟩:=I.loc;rw[z,ho']at ho; cases ho; rw[hd']at hd; cases hd
theorem Inv.funs(I:Inv X pins σ H s):s.heap.FunFrames X.base X.outer:=by
 have all:∀(l:List Env),(∀b∈frs l,b∈X.fs)->X.s₀.heap.FunFrames X.base l->s.heap.FunFrames X.base l:=by
  intro l
  induction l with
  | nil=>intro _ _; trivial
  | cons env r ih=>intro hs hl;obtain⟨hk,⟨L,o,hf,hn,ho,hd⟩,hr⟩:=hl;have hL:L∈X.fs:=hs L (by unfold frs; rw[Zzf,hf]; exact Zx3);obtain⟨sl,e⟩:=I.base.slot L o ho (I.ok.frf L hL) hL λz=>I.ok.exfs L z hL;exact⟨hk,⟨L,_,hf,hn,e,hd⟩,ih (λb hb=>hs b (by unfold frs; rw[Zzf,hf]; exact Zx4 _ hb)) hr⟩
 exact all X.outer (λ_ hb=>hb) I.ok.funs
theorem Inv.stack(I:Inv X pins σ H s):s.heap.FunFrames X.base X.stack:=by
 rcases I.ok.stk with e | ⟨e,hf⟩
 ·rw[e]; exact I.funs
 ·rw[e]
  obtain⟨m,hn,_⟩:=I.loc;refine .cons (by rw[I.ok.kind]; decide) hf hn ?_ I.funs;exact Heap.get?_none_of_le (ZyO I.ok.bsz I.ok.above)
theorem Inv.stkSub(I:Inv X pins σ H s):∀b∈frs X.stack,b∈X.env.locals::X.fs:=λb hb=>by
 rcases I.ok.stk with e | ⟨e,hf⟩
 ·rw[e]at hb; exact Zx4 _ hb
 ·rw[e]at hb
  unfold frs at hb;rw[Zzf,hf]at hb;exact hb
theorem Inv.stkFree(I:Inv X pins σ H s):∀b∈frs X.stack,H b=none:=λb hb=>by
 rcases Zyo.mp (I.stkSub b hb)with e | hb
 ·rw[e]; exact I.free
 ·obtain⟨_,o,ho,_⟩:=I.ok.funs.mem hb
  exact I.base.free b o ho (I.ok.frf b hb) λz=>I.ok.exfs b z hb
theorem Inv.step{g':Array GenState}{t':Nat}{d':Drawn}{ch:List Addr}(I:Inv X pins σ H s)
  (hch:∀b∈ch,(b∈X.ex\/X.s₀.heap.objs.size<=b)/\b≠X.env.locals/\(∀x c,X.env.cells.lookup x=some c->c≠b)/\∀p∈X.pn++pins,p.1≠b)
  (keep:∀b o,b≠X.env.locals->b ∉ X.fs->b ∉ ch->s.heap.get? b=some o->H b=none->h'.get? b=some o)
  (slot:∀b o,b≠X.env.locals->b∈X.fs->b ∉ ch->s.heap.get? b=some o->H b=none->∃sl,h'.get? b=some { o with slots:=sl }) (free:∀b o,b ∉ ch->s.heap.get? b=some o->H b=none->H' b=none)
  (there:∀b o,b ∉ ch->s.heap.get? b=some o->∃o',h'.get? b=some o')
  (tups:∀b xs,H b=some (.tup xs)->H' b=some (.tup xs)) (frzs:∀b o u,H b=some (.frz o u)->H' b=some (.frz o u)) (tbls:∀b ps,H b=some (.tbl ps)->∃more,H' b=some (.tbl (ps++more)))
  (ns:∀m,s.heap.Ns X.env.locals m->h'.Ns X.env.locals m) (hok:HOk X.prog X.w H' h') (hg:AllBare g') :
  Inv X pins σ H' { s with heap:=h',gens:=g',drawn:=d',toks:=t' }:=by
 have neL:∀b o,X.s₀.heap.get? b=some o->b≠X.env.locals:=λb o e=>Zyp (Zyv (Zyh e) I.ok.above);have neC:∀b o,X.s₀.heap.get? b=some o->b ∉ X.ex->b ∉ ch:=λb o e hx hb=>by
  rcases(hch b hb).1 with z | z
  ·exact hx z
  ·exact absurd (Zyv (Zyh e) z) (ZzM _)
 have cellK:∀x c,X.env.cells.lookup x=some c->∀v,s.heap.IsCell c v->h'.IsCell c v:=λx c e v ⟨o,ho,hd⟩=>by
  have nch:c ∉ ch:=λz=>(hch c z).2.2.1 x c e rfl
  by_cases hc:c∈X.fs
  ·obtain⟨sl,q⟩:=slot c o (I.cne x c e) hc nch ho (I.freeC x c e)
   exact⟨_,q,hd⟩
  ·exact⟨o,keep c o (I.cne x c e) hc nch ho (I.freeC x c e),hd⟩
 refine⟨I.ok,I.os,hg,⟨λb o e n hb hx=>?_,λb o e n hb hx=>?_,λb o e n hx=>?_,λb o e hx=>?_,λb xs e=>tups b xs (I.base.tups b xs e),λb o xs e=>frzs b o xs (I.base.frzs b o xs e),λb ps e=>?_⟩,?_,λx c e=>?_,?_,λx c e=>?_,λp hp=>?_,hok,I.len⟩
 ·exact keep b o (neL b o e) hb (neC b o e hx) (I.base.keep b o e n hb hx) (I.base.free b o e n hx)
 ·obtain⟨sl,e1⟩:=I.base.slot b o e n hb hx
  obtain⟨sl',e2⟩:=slot b _ (neL b o e) hb (neC b o e hx) e1 (I.base.free b o e n hx);exact⟨sl',e2⟩
 ·obtain⟨o',e1⟩:=I.base.there b o e hx
  exact free b o' (neC b o e hx) e1 (I.base.free b o e n hx)
 ·obtain⟨o',e1⟩:=I.base.there b o e hx
  exact there b o' (neC b o e hx) e1
 ·obtain⟨m1,e1⟩:=I.base.tbls b ps e
  obtain⟨m2,e2⟩:=tbls b _ e1;exact⟨m1++m2,by rw[e2,Array.append_assoc]⟩
 ·obtain⟨m,hn,hl⟩:=I.loc
  refine⟨m,ns m hn,λi x v e1 e2 e3=>?_⟩;obtain⟨u,r,l⟩:=hl i x v e1 e2 e3;refine⟨u,r,?_⟩;rcases l with l | ⟨k,c,e,z⟩
  ·exact .inl l
  ·exact .inr ⟨k,c,e,cellK x c e _ z⟩
 ·obtain⟨v,z⟩:=I.cell x c e
  exact⟨v,cellK x c e v z⟩
 ·obtain⟨m,⟨o,_,_,ho,_⟩,_⟩:=I.loc
  exact free _ o (λz=>(hch _ z).2.1 rfl) ho I.free
 ·obtain⟨v,o,ho,hd⟩:=I.cell x c e
  exact free c o (λz=>(hch c z).2.2.1 x c e rfl) ho (I.freeC x c e)
 ·obtain⟨e,n,ne,nf,d⟩:=I.pin p hp
  have nch:p.1 ∉ ch:=λz=>(hch p.1 z).2.2.2 p hp rfl;exact⟨keep p.1 p.2 ne nf nch e n,free p.1 p.2 nch e n,ne,nf,d⟩
theorem Inv.un{t':Nat}(I:Inv X pins σ H s)(u:Un X.fs [] H H' s.heap h')(hok:HOk X.prog X.w H' h'):Inv X pins σ H' { s with heap:=h',toks:=t' }:=by obtain⟨m,⟨o,es,ep,ho,r⟩,_⟩:=id I.loc;obtain⟨sl,hL⟩:=u.any ho I.free (by simp);exact I.step (g':=s.gens) (d':=s.drawn) (ch:=[]) (λ_ z=>nomatch z) (λb o _ hb _ e n=>u.keep b o e n hb (by simp)) (λb o _ hb _ e n=>u.slot b o e n hb (by simp)) (λb o _ e n=>u.free b o e n (by simp)) (λb o _ e=>u.there b o e (by simp)) u.tups u.frzs u.tbls (λm' hm=>by obtain⟨o',es',ep',ho',r'⟩:=hm;rw[ho]at ho'; cases ho';exact⟨_,es',ep',hL,r'⟩) hok I.bare
theorem Inv.call{g':Array GenState}{t':Nat}{d':Drawn}{ch:List Addr}(I:Inv X pins σ H s)(u:Un (frs X.stack) ch H H' s.heap h')(hok:HOk X.prog X.w H' h')(hg:AllBare g')
  (hch:∀b∈ch,(b∈X.ex\/X.s₀.heap.objs.size<=b)/\b≠X.env.locals/\(∀x c,X.env.cells.lookup x=some c->c≠b)/\∀p∈X.pn++pins,p.1≠b) :
  Inv X pins σ H' { s with heap:=h',gens:=g',drawn:=d',toks:=t' }:=by
 obtain⟨m,⟨o,es,ep,ho,r⟩,_⟩:=id I.loc;obtain⟨sl,hL⟩:=u.any ho I.free λz=>(hch _ z).2.1 rfl;exact I.step (ch:=ch) hch (λb o hL hb hc e n=>u.keep b o e n (λz=>(Zyo.mp (I.stkSub b z)).elim hL hb) hc) (λb o _ _ hc e n=>u.any e n hc) (λb o hc e n=>u.free b o e n hc) (λb o hc e=>u.there b o e hc) u.tups u.frzs u.tbls (λm' hm=>by obtain⟨o',es',ep',ho',r'⟩:=hm;rw[ho]at ho'; cases ho';exact⟨_,es',ep',hL,r'⟩) hok hg
theorem Inv.turned{t':Nat}{it:Addr}(I:Inv X pins σ H s)(k:∀b o,b≠it->s.heap.get? b=some o->h'.get? b=some o)(hn:H it=none)(hL:it≠X.env.locals)
  (h1:it∈X.ex\/X.s₀.heap.objs.size<=it) (h2:∀x c,X.env.cells.lookup x=some c->c≠it) (h3:∀p∈X.pn++pins,p.1≠it):Inv X pins σ H { s with heap:=h',toks:=t' }:=by
 have nit:∀b u,H b=some u->b≠it:=λb u e z=>by rw[z,hn]at e; cases e
 refine I.step (g':=s.gens) (d':=s.drawn) (ch:=[it]) (λb hb=>?_) (λb o _ _ hc e _=>k b o (λz=>hc (by simp[z])) e) (λb o _ _ hc e _=>⟨o.slots,k b o (λz=>hc (by simp[z])) e⟩) (λ_ _ _ _ n=>n)
  (λb o hc e=>⟨o,k b o (λz=>hc (by simp[z])) e⟩) (λ_ _ e=>e) (λ_ _ _ e=>e) (λb ps e=>⟨#[],by rw[e]; simp⟩) (λm hm=>?_) (λb u e=>?_) I.bare
 ·have e:b=it:=by simpa using hb
  subst e;exact⟨h1,hL,h2,h3⟩
 ·obtain⟨o,es,ep,ho,r⟩:=hm
  exact⟨o,es,ep,k _ o (Zy1 hL) ho,r⟩
 ·refine(I.hok b u e).stay (λc v hc q=>k c v ?_ q) (λ_ q=>q) λ_ _ q=>q
  rcases hc with z | z
  ·rw[z]; exact nit b u e
  ·exact nit c _ z
theorem Inv.tok(I:Inv X pins σ H s)(t:Nat):Inv X pins σ H { s with toks:=t }:=I.un (h':=s.heap) (t':=t) Un.refl I.hok
theorem Inv.kept{t':Nat}(I:Inv X pins σ H s)(k:∀b u,s.heap.get? b=some u->h'.get? b=some u):Inv X pins σ H { s with heap:=h',toks:=t' }:=I.un (Un.kept k) (I.hok.kept k)
theorem Inv.laid{a:Addr}{o:HO}{t':Nat}(I:Inv X pins σ H s)(k:∀b u,s.heap.get? b=some u->h'.get? b=some u)(hp:s.heap.objs.size<=a)(new:Z8 X.prog X.w (upd H a o) h' a o) :
  Inv X pins σ (upd H a o) { s with heap:=h',toks:=t' }:=I.un (Un.laid k hp (I.hok.fresh hp)) (I.hok.laid k hp new)
theorem Inv.write{x e:Addr}{o:HO}{t':Nat}(I:Inv X pins σ H s)(mu:Mut (H x))(he:e=x\/H e=some (.own x))(k:∀b u,b≠e->s.heap.get? b=some u->h'.get? b=some u)(heo:∃u,h'.get? e=some u)
  (new:Z8 X.prog X.w (upd H x o) h' x o):Inv X pins σ (upd H x o) { s with heap:=h',toks:=t' }:=I.un (Un.write mu he k heo) (I.hok.write mu he k heo new)
theorem Inv.weak{σ':List (Option V)}(I:Inv X pins σ H s)(hl:σ'.length=σ.length)(w:∀(i:Nat) v,σ'[i]?=some (some v)->σ[i]?=some (some v)):Inv X pins σ' H s :=
 ⟨I.ok,I.os,I.bare,I.base,let ⟨m,hn,hl'⟩:=I.loc; ⟨m,hn,λi x v e1 e2 e3=>hl' i x v e1 (w i v e2) e3⟩,I.cell,I.free,I.freeC,I.pin,I.hok,hl.trans I.len⟩
theorem Inv.pins_of{pins':List (Addr × Obj)}(I:Inv X pins σ H s)(h:∀p∈pins',s.heap.get? p.1=some p.2/\H p.1=none/\p.1≠X.env.locals/\p.1 ∉ X.fs/\∀v,p.2.data≠.cell v):Inv X pins' σ H s :=
 ⟨I.ok,I.os,I.bare,I.base,I.loc,I.cell,I.free,I.freeC,λp hp=>(Zyy.mp hp).elim (λz=>I.pin p (ZyF _ z)) (h p),I.hok,I.len⟩
theorem ZoE{N:List Str}(hN:N.Nodup){i j:Nat}{x:Str}(a:N[i]?=some x)(b:N[j]?=some x):i=j:=by obtain⟨h1,e1⟩:=Zyd.mp a;obtain⟨h2,e2⟩:=Zyd.mp b;exact(List.getElem_inj hN).mp (e1.trans e2.symm)
theorem ZlH{M:Model}{A:Around}{E:Value->Shared->Prop}{i:Nat}{x:Str}{v:V}{u:Value}{Q:Unit->Shared->Prop}(I:Inv X pins σ H s)(hN:X.N.Nodup)(hi:X.N[i]?=some x)(hx:Loc X.env.scope x)(r:RelV v u)
  (h:∀s',Inv X pins (σ.set i (some v)) H s'->(∃a,ZzT a s.heap s'.heap/\(a=X.env.locals\/X.env.cells.lookup x=some a))->Q () s') (hf:X.fn x=true\/X.env.scope.names.lookup x=some .local:=by first | exact .inl rfl | exact .inr rfl | assumption):wpAny M A (storeName X.env x u) Q E s:=by
 obtain⟨m,hn,hl⟩:=id I.loc;have hcls:(X.env.scope.kind==.class||(X.env.scope.kind==.module&&X.env.locals != X.env.globals))=false:=by rw[I.ok.kind]; rfl
 have hiσ:i<σ.length:=by rw[I.len]; exact(Zyd.mp hi).1
 have cne:=I.cne;have tracked:∀{a:Addr} {h':Heap},(∃o,s.heap.get? a=some o/\H a=none)->ZzT a s.heap h'->HOk X.prog X.w H h':=λ{a h'} ha hs b ob e=>by
  obtain⟨_,_,hfree⟩:=ha;refine(I.hok b ob e).stay (λc w' hc q=>(hs.2 c ?_).trans q) (λ_ q=>q) λ_ _ q=>q
  rintro rfl
  rcases hc with rfl | hc
  ·rw[hfree]at e; cases e
  ·rw[hfree]at hc; cases hc
 rcases hx with hk | hk
 ·refine wpAny_storeName_local hk hn (λh' hn' hs=>?_) hcls
  obtain⟨oL,_,_,hoL,_⟩:=id hn;refine h _ ⟨I.ok,I.os,I.bare,⟨λb o e n hb hx=>?_,λb o e n hb hx=>?_,I.base.free,λb o e hx=>?_,I.base.tups,I.base.frzs,I.base.tbls⟩,⟨_,hn',λj y v' e1 e2 e3=>?_⟩,λy c e=>?_,I.free,I.freeC,λp hp=>?_,tracked ⟨oL,hoL,I.free⟩ hs,by simpa using I.len⟩ ⟨_,hs,.inl rfl⟩
  ·exact(hs.2 b (Zyp (Zyv (Zyh e) I.ok.above))).trans (I.base.keep b o e n hb hx)
  ·obtain⟨sl,e1⟩:=I.base.slot b o e n hb hx
   exact⟨sl,(hs.2 b (Zyp (Zyv (Zyh e) I.ok.above))).trans e1⟩
  ·obtain⟨o',e1⟩:=I.base.there b o e hx
   exact⟨o',(hs.2 b (Zyp (Zyv (Zyh e) I.ok.above))).trans e1⟩
  ·by_cases hj:j=i
   ·subst hj
    rw[hi]at e1; cases e1;rw[ZyR hiσ]at e2;cases e2;exact⟨u,r,.inl ⟨hk,by simp⟩⟩
   ·rw[Zyz (Zy1 hj)]at e2
    obtain⟨u',r',q⟩:=hl j y v' e1 e2 e3;refine⟨u',r',?_⟩;rcases q with⟨k,e⟩ | ⟨k,c,e,z⟩
    ·refine .inl ⟨k,?_⟩
     have:y≠x:=λe=>hj (ZoE hN e1 (e▸hi));simp[this,e]
    ·exact .inr ⟨k,c,e,z.sameBut hs (cne y c e)⟩
  ·obtain⟨w',z⟩:=I.cell y c e
   exact⟨w',z.sameBut hs (cne y c e)⟩
  ·obtain⟨e,n,ne,nf,d⟩:=I.pin p hp
   exact⟨(hs.2 p.1 ne).trans e,n,ne,nf,d⟩
 ·have hfn:X.fn x=true:=by
   rcases hf with z | z
   ·exact z
   ·rw[z]at hk; cases hk
  obtain⟨c,hc⟩:=I.ok.has x (.inl hk);obtain⟨w',z⟩:=I.cell x c hc;refine wpAny_storeName_cell I.ok.kind hk hc z (λh' hc' hs=>?_);obtain⟨oc,hoc,hocd⟩:=id z;refine h { s with heap:=h' } ⟨I.ok,I.os,I.bare,⟨λb o e n hb hx=>?_,λb o e n hb hx=>?_,I.base.free,λb o e hx=>?_,I.base.tups,I.base.frzs,I.base.tbls⟩,⟨m,hn.sameBut hs (Zy1 (cne x c hc)),λj y v' e1 e2 e3=>?_⟩,λy c' e=>?_,I.free,I.freeC,λp hp=>?_,tracked ⟨oc,hoc,I.freeC x c hc⟩ hs,by simpa using I.len⟩ ⟨c,hs,.inr hc⟩
  ·exact(hs.2 b (Zyp (Zyv (Zyh e) (I.ok.cab x c hfn hc)))).trans (I.base.keep b o e n hb hx)
  ·obtain⟨sl,e1⟩:=I.base.slot b o e n hb hx
   exact⟨sl,(hs.2 b (Zyp (Zyv (Zyh e) (I.ok.cab x c hfn hc)))).trans e1⟩
  ·obtain⟨o',e1⟩:=I.base.there b o e hx
   exact⟨o',(hs.2 b (Zyp (Zyv (Zyh e) (I.ok.cab x c hfn hc)))).trans e1⟩
  ·by_cases hj:j=i
   ·subst hj
    rw[hi]at e1; cases e1;rw[ZyR hiσ]at e2;cases e2;exact⟨u,r,.inr ⟨.inl hk,c,hc,hc'⟩⟩
   ·rw[Zyz (Zy1 hj)]at e2
    obtain⟨u',r',q⟩:=hl j y v' e1 e2 e3;refine⟨u',r',?_⟩;rcases q with q | ⟨k,c',e,z'⟩
    ·exact .inl q
    ·refine .inr ⟨k,c',e,z'.sameBut hs ?_⟩
     rintro rfl
     exact hj (ZoE hN e1 (I.ok.inj _ _ _ e hc▸hi))
  ·by_cases hcc:c'=c
   ·subst hcc; exact⟨_,hc'⟩
   ·obtain⟨w2,z2⟩:=I.cell y c' e
    exact⟨w2,z2.sameBut hs hcc⟩
  ·obtain⟨e,n,ne,nf,d⟩:=I.pin p hp
   refine⟨(hs.2 p.1 ?_).trans e,n,ne,nf,d⟩;intro q;rw[q,hoc]at e;have q':oc=p.2:=ZyU e;exact d w' (by rw[<-q']; exact hocd)
theorem ZoF{M:Model}{A:Around}{E:Value->Shared->Prop}{i:Nat}{x:Str}{v:V}{u:Value}{Q:Unit->Shared->Prop}(I:Inv X pins σ H s)(hN:X.N.Nodup)(hi:X.N[i]?=some x)(hx:Loc X.env.scope x)(r:RelV v u)
  (h:∀s',Inv X pins (σ.set i (some v)) H s'->Q () s') (hf:X.fn x=true\/X.env.scope.names.lookup x=some .local:=by first | exact .inl rfl | exact .inr rfl | assumption):wpAny M A (storeName X.env x u) Q E s :=
 ZlH I hN hi hx r (λs' I' _=>h s' I') hf
theorem Inv.call'{s':Shared}{ch:List Addr}(I:Inv X pins σ H s)(ho:s'.os=s.os)(u:Un (frs X.stack) ch H H' s.heap s'.heap)(hok:HOk X.prog X.w H' s'.heap)(hg:AllBare s'.gens)
  (hch:∀b∈ch,(b∈X.ex\/X.s₀.heap.objs.size<=b)/\b≠X.env.locals/\(∀x c,X.env.cells.lookup x=some c->c≠b)/\∀p∈X.pn++pins,p.1≠b):Inv X pins σ H' s':=by
 obtain⟨h',g',d',t',o'⟩:=s';have e:o'=s.os:=ho;subst e;exact I.call (g':=g') (t':=t') (d':=d') u hok hg hch
end
abbrev XK:=Value->Option Addr->Hp->Prop
abbrev St:=List (Option V)
abbrev VK:=V->Hp->Prop
abbrev TE:=St->Hp->VK->Prop
abbrev TT:=St->Hp->(Bool->Hp->Prop)->Prop
abbrev TA:=St->Hp->(List V->Hp->Prop)->Prop
structure Ends where
 nx:St->Hp->Prop
 rt:VK
 bk:St->Hp->Prop:=λ_ _=>False
 ct:St->Hp->Prop:=λ_ _=>False
abbrev TS:=Ends->St->Hp->Prop
inductive EP(X:Cx)(pins:List (Addr × Obj))(σ:St)(Q:VK)(u:Value)(s':Shared):Prop
 | mk (v:V) (H':Hp) (I:Inv X pins σ H' s') (r:RelV v u) (q:Q v H'):EP X pins σ Q u s'
inductive TP(X:Cx)(pins:List (Addr × Obj))(σ:St)(Q:Bool->Hp->Prop)(b:Bool)(s':Shared):Prop
 | mk (H':Hp) (I:Inv X pins σ H' s') (q:Q b H'):TP X pins σ Q b s'
inductive AP(X:Cx)(pins:List (Addr × Obj))(σ:St)(Q:List V->Hp->Prop)(us:List Value)(s':Shared):Prop
 | mk (vs:List V) (H':Hp) (I:Inv X pins σ H' s') (r:Vals vs us) (q:Q vs H'):AP X pins σ Q us s'
inductive SPn(X:Cx)(pins:List (Addr × Obj))(N:St->Hp->Prop)(s':Shared):Prop
 | mk (σ':St) (H':Hp) (I:Inv X pins σ' H' s') (q:N σ' H'):SPn X pins N s'
inductive SPr(X:Cx)(pins:List (Addr × Obj))(R:V->Hp->Prop)(u:Value)(s':Shared):Prop
 | mk (v:V) (σ':St) (H':Hp) (I:Inv X pins σ' H' s') (r:RelV v u) (q:R v H'):SPr X pins R u s'
def SP(X:Cx)(pins:List (Addr × Obj))(D:Ends)(f:Flow)(s':Shared):Prop :=
 match f with
 | .next=>SPn X pins D.nx s'
 | .brk=>SPn X pins D.bk s'
 | .cont=>SPn X pins D.ct s'
 | .ret u=>SPr X pins D.rt u s'
def PE(X:Cx)(e:Expr)(t:TE):Prop :=
 ∀(pins:List (Addr × Obj)) (s:Shared) (σ:St) (H:Hp) (Q:VK),Inv X pins σ H s->t σ H Q->wpAny (model X.prog X.w) X.A (eval e X.env) (EP X pins σ Q) X.xe s
def PT(X:Cx)(e:Expr)(t:TT):Prop :=
 ∀(pins:List (Addr × Obj)) (s:Shared) (σ:St) (H:Hp) (Q:Bool->Hp->Prop),Inv X pins σ H s->t σ H Q->wpAny (model X.prog X.w) X.A (isTrue e X.env (eval e X.env)) (TP X pins σ Q) X.xe s
def PW(X:Cx)(e:Expr)(t:TT):Prop :=
 ∀(whole:Sem Value) (pins:List (Addr × Obj)) (s:Shared) (σ:St) (H:Hp) (Q:Bool->Hp->Prop),Inv X pins σ H s->t σ H Q->wpAny (model X.prog X.w) X.A (isTrue e X.env whole) (TP X pins σ Q) X.xe s
theorem PW.pt{X:Cx}{e:Expr}{t:TT}(h:PW X e t):PT X e t:=h _
def PA(X:Cx)(es:List Expr)(t:TA):Prop :=
 ∀(pos:Pos) (pins:List (Addr × Obj)) (s:Shared) (σ:St) (H:Hp) (Q:List V->Hp->Prop),Inv X pins σ H s->t σ H Q->wpAny (model X.prog X.w) X.A (spliced (backTo pos (Zyc es X.env))) (AP X pins σ Q) X.xe s
def PS(X:Cx)(st:Stmt)(t:TS):Prop :=
 ∀(pins:List (Addr × Obj)) (s:Shared) (σ:St) (H:Hp) (D:Ends),Inv X pins σ H s->t D σ H->wpAny (model X.prog X.w) X.A (exec st X.env) (SP X pins D) X.xe s
def PSs(X:Cx)(st:List Stmt)(t:TS):Prop :=
 ∀(pins:List (Addr × Obj)) (s:Shared) (σ:St) (H:Hp) (D:Ends),Inv X pins σ H s->t D σ H->wpAny (model X.prog X.w) X.A (execs st X.env) (SP X pins D) X.xe s
theorem thn{α:Type}{t:Sem α}{Q Q':α->Shared->Prop}{M:Model}{A:Around}{E:Value->Shared->Prop}{s:Shared}(h:wpAny M A t Q E s)(hQ:∀a s,Q a s->Q' a s):wpAny M A t Q' E s:=Zzg h hQ λ_ _ x=>x
end L2
namespace L2
open PySem PySem.Spec PyProof.Rows
section
variable{X:Cx}
def Zxm(i:Nat):TE:=λσ H Q=>∃v,σ[i]?=some (some v)/\Q v H
def tC(v:V):TE:=λ_ H Q=>Q v H
theorem Zca{i:Nat}{x:Str}{pos:Pos}(hN:X.N[i]?=some x)(hv:Vis X.env.scope x)(hd:(x==("__debug__":Str))=false:=by decide)(hcd:(x==("__classdict__":Str))=false:=by decide):PE X (.Name x pos) (Zxm i):=by
 intro pins s σ H Q I h;obtain⟨v,e,h⟩:=h;obtain⟨m,hn,hl⟩:=I.loc;obtain⟨u,r,l⟩:=hl i x v hN e hv;have fin:EP X pins σ Q u s:=⟨v,H,I,r,h⟩;rcases l with⟨hk,hm⟩ | ⟨hk,c,hc,hcell⟩
 ·exact wpAny_Name (wpAny_loadName_local I.ok.kind hk hn hm fin) hd
 ·rcases hk with hk | hk
  ·exact wpAny_Name (wpAny_loadName_cell I.ok.kind hk hc hcell fin) hd
  ·exact wpAny_Name (wpAny_loadName_free I.ok.kind hk hc hcell fin hcd) hd
theorem Zr3{i j pos}:PE X (.Constant (.int i) j pos) (tC (.int i)):=λ_ _ _ H _ I h=>wpAny_Constant_int ⟨.int i,H,I.tok _,⟨_,rfl⟩,h⟩
theorem ZwK{b j pos}:PE X (.Constant (.bool b) j pos) (tC (.bl b)):=λ_ _ _ H _ I h=>Constant_bool ⟨.bl b,H,I,rfl,h⟩
theorem ZrA{j pos}:PE X (.Constant .none j pos) (tC .non):=λ_ _ _ H _ I h=>Constant_none ⟨.non,H,I,rfl,h⟩
def Gl(X:Cx)(x:Str):Prop:=X.env.kindOf x=some .globalImplicit
theorem Zlz{E:Value->Shared->Prop}{pins:List (Addr × Obj)}{s:Shared}{σ:St}{H:Hp}{x:Str}{u:Value}{pos:Pos}{Q:Value->Shared->Prop}(I:Inv X pins σ H s)(hg:Gl X x)(hm:X.mg x=some u)(h:Q u s)
  (hd:(x==("__debug__":Str))=false:=by decide):wpAny (model X.prog X.w) X.A (eval (.Name x pos) X.env) Q E s :=
 ZBL I.ok.kind hg (Calls.loadGlobal_global (by rw[I.ok.glob]; exact I.mod.glob.keeps I.bk) hm h) hd
theorem Zhk{E:Value->Shared->Prop}{pins:List (Addr × Obj)}{s:Shared}{σ:St}{H:Hp}{x:Str}{u:Value}{pos:Pos}{Q:Value->Shared->Prop}(I:Inv X pins σ H s)(hg:Gl X x)(hm:X.mg x=none)(hv:ZyX x=some u)(h:Q u s)
  (hn:x ≠ "__name__":=by decide) (hd:(x==("__debug__":Str))=false:=by decide):wpAny (model X.prog X.w) X.A (eval (.Name x pos) X.env) Q E s:=by
 obtain⟨mb,h1,h2⟩:=I.mod.blt;exact ZBL I.ok.kind hg (Calls.loadGlobal_builtin (by rw[I.ok.glob]; exact I.mod.glob.keeps I.bk) hm (by rw[I.ok.blt]; exact h1.keeps I.bk) ((h2 x hn).trans hv) h) hd
theorem ZpK{x:Str}{v:V}{u:Value}{pos:Pos}(hg:Gl X x)(hm:X.mg x=some u)(r:RelV v u)(hd:(x==("__debug__":Str))=false:=by decide):PE X (.Name x pos) (tC v) :=
 λ_ _ _ H _ I h=>Zlz I hg hm ⟨v,H,I,r,h⟩ hd
theorem Zu0{x:Str}{v:V}{u:Value}{pos:Pos}(hg:Gl X x)(hm:X.mg x=none)(hv:ZyX x=some u)(r:RelV v u)(hn:x ≠ "__name__":=by decide)(hd:(x==("__debug__":Str))=false:=by decide):PE X (.Name x pos) (tC v) :=
 λ_ _ _ H _ I h=>Zhk I hg hm hv ⟨v,H,I,r,h⟩ hn hd
variable{a b:Expr}{ta tb:TE}{pos:Pos}
def PC(X:Cx)(op:CmpOp)(a b:Expr)(t:TE):Prop :=
 ∀(pins:List (Addr × Obj)) (s:Shared) (σ:St) (H:Hp) (Q:VK),Inv X pins σ H s->t σ H Q ->
  wpAny (model X.prog X.w) X.A (eval a X.env) (λv s₁=>wpAny (model X.prog X.w) X.A (eval b X.env) (λu s₂=>wpAny (model X.prog X.w) X.A (Zy6 op v u) (EP X pins σ Q) X.xe s₂) X.xe s₁) X.xe s
theorem Zj8(b:Expr){op:CmpOp}(h:op≠.In)(h2:op≠.NotIn):Zy7 op b=false:=by
 have e1:(op==CmpOp.In)=false:=by cases op<;>first | rfl | exact absurd rfl h
 have e2:(op==CmpOp.NotIn)=false:=by cases op<;>first | rfl | exact absurd rfl h2
 cases b<;>simp[Zy7,e1,e2]
def tB(t:TE):TT:=λσ H Q=>t σ H λx H1=>∃c,x=.bl c/\Q c H1
theorem ZnK{op:CmpOp}{t:TE}(h:PC X op a b t)(h1:Zy7 op b=false:=by first | exact Zj8 _ (by decide) (by decide) | rfl):PT X (.Compare a [op] [b] pos) (tB t):=by intro pins s σ H Q I hw;refine wpAny_isTrue_Compare1 (thn (h pins s σ H _ I hw) λv s1 h1=>thn h1 λu s2 h2=>thn h2 λc s3 ⟨x,H1,I1,r1,q1⟩=>?_) h1;obtain⟨d,rfl,q⟩:=q1;cases r1;exact ZzX ⟨H1,I1,q⟩
theorem Zwf{e:Expr}{t:TE}(h:PE X e t)(he:∀whole,isTrue e X.env whole=(do let v <-whole; standAt e.pos; holding [v] (truthy v)):=by intro _; rfl):PT X e (tB t):=by intro pins s σ H Q I hw;refine isTrue_plain (thn (h pins s σ H _ I hw) λv s1 ⟨x,H1,I1,r1,q1⟩=>?_) (he _);obtain⟨d,rfl,q⟩:=q1;cases r1;exact ZzX ⟨H1,I1,q⟩
variable{tA tB':TT}{rest:List Expr}
def ZoM(t u:TT):TT:=λσ H Q=>t σ H λc H1=>if c=true then u σ H1 Q else Q false H1
def tOr(t u:TT):TT:=λσ H Q=>t σ H λc H1=>if c=true then Q true H1 else u σ H1 Q
def ZeS(t:TT):TT:=λσ H Q=>t σ H λc H1=>Q (!c) H1
theorem ZuO(ha:PT X a tA):PW X (.BoolOp .And [a] pos) tA:=by
 intro wh pins s σ H Q I h;refine isTrue_and (thn (ha pins s σ H Q I h) λc s1 e=>?_);cases c with
 | true=>exact isTrue_and_nil e
 | false=>exact e
theorem Zwc(ha:PT X a tA):PW X (.BoolOp .Or [a] pos) tA:=by
 intro wh pins s σ H Q I h;refine isTrue_or (thn (ha pins s σ H Q I h) λc s1 e=>?_);cases c with
 | false=>exact isTrue_or_nil e
 | true=>exact e
theorem ZrR(ha:PT X a tA)(hb:PW X (.BoolOp .And (b::rest) pos) tB'):PW X (.BoolOp .And (a::b::rest) pos) (ZoM tA tB'):=by
 intro wh pins s σ H Q I h;refine isTrue_and (thn (ha pins s σ H _ I h) λc s1 ⟨H1,I1,q1⟩=>?_);cases c with
 | true=>exact hb wh pins s1 σ H1 Q I1 q1
 | false=>exact⟨H1,I1,q1⟩
theorem Zt6(ha:PT X a tA)(hb:PW X (.BoolOp .Or (b::rest) pos) tB'):PW X (.BoolOp .Or (a::b::rest) pos) (tOr tA tB'):=by
 intro wh pins s σ H Q I h;refine isTrue_or (thn (ha pins s σ H _ I h) λc s1 ⟨H1,I1,q1⟩=>?_);cases c with
 | true=>exact⟨H1,I1,q1⟩
 | false=>exact hb wh pins s1 σ H1 Q I1 q1
theorem ZvK(ha:PT X a tA):PT X (.UnaryOp .Not a pos) (ZeS tA):=by intro pins s σ H Q I h;exact isTrue_not (thn (ha pins s σ H (λc H1=>Q (!c) H1) I h) λ_ _ ⟨H',I',q'⟩=>⟨H',I',q'⟩)
def ZwS(ta tb:TE):TE:=λσ H Q=>ta σ H λx H1=>∃c,x=.bl c/\if c=true then tb σ H1 Q else Q (.bl false) H1
theorem Zv7{op}{t:TE}(h:PE X a t):PE X (.BoolOp op [a] pos) t:=λpins s σ H Q I hw=>BoolOp_one (h pins s σ H Q I hw)
theorem Zrn(ha:PE X a ta)(hb:PE X (.BoolOp .And (b::rest) pos) tb):PE X (.BoolOp .And (a::b::rest) pos) (ZwS ta tb):=by
 intro pins s σ H Q I h;refine BoolOp_and (thn (ha pins s σ H _ I h) λv s1 ⟨x,H1,I1,r1,q1⟩=>?_);obtain⟨c,rfl,q1⟩:=q1;cases r1;refine ZzX ?_;cases c with
 | true=>exact hb pins s1 σ H1 Q I1 q1
 | false=>exact⟨.bl false,H1,I1,rfl,q1⟩
def tIf(t:TT)(ta tb:TE):TE:=λσ H Q=>t σ H λc H1=>if c=true then ta σ H1 Q else tb σ H1 Q
theorem Zoi{c:Expr}(hc:PT X c tA)(ha:PE X a ta)(hb:PE X b tb):PE X (.IfExp c a b pos) (tIf tA ta tb):=by
 intro pins s σ H Q I h;refine wpAny_IfExp (thn (hc pins s σ H _ I h) λd s1 ⟨H1,I1,q1⟩=>?_);cases d with
 | true=>exact ha pins s1 σ H1 Q I1 q1
 | false=>exact hb pins s1 σ H1 Q I1 q1
end
end L2
namespace L2
open PySem PySem.Spec PyProof.Rows
def SqL(K:Zx0)(H:Hp)(a:Addr)(xs:List V):Prop :=
 Rd H a (.lst xs) \/
  ∃(o:Obj) (its:Array Value) (n:Nat),K.lookup a=some o/\o.cls=.type "list"/\o.dict=none/\o.data=.seq its n/\its.size<=sizeLine/\Vals xs its.toList
def SqT(K:Zx0)(H:Hp)(a:Addr)(xs:List V):Prop :=
 Rd H a (.tup xs) \/
  ∃(o:Obj) (its:Array Value) (n:Nat),K.lookup a=some o/\o.cls=.type "tuple"/\o.data=.seq its n/\its.size<=sizeLine/\Vals xs its.toList
def Zxy:Value->Option V
 | .none=>some .non
 | .bool b=>some (.bl b)
 | .int i _=>some (.int i)
 | .str x _=>some (.str x)
 | .bytes b _=>some (.byt b)
 | .float b _=>some (.flt b)
 | .ref a=>some (.ref a)
 | .type n=>some (.ty n)
 | _=>none
theorem RelV.abs{x:V}{u:Value}(r:RelV x u):Zxy u=some x:=by
 cases x with
 | non=>cases r; rfl
 | bl _=>cases r; rfl
 | int _=>obtain⟨t,rfl⟩:=r; rfl
 | str _=>obtain⟨t,rfl⟩:=r; rfl
 | byt _=>obtain⟨t,rfl⟩:=r; rfl
 | flt _=>obtain⟨t,rfl⟩:=r; rfl
 | ref _=>cases r; rfl
 | ty _=>cases r; rfl
theorem RelV.inj{x y:V}{u:Value}(r:RelV x u)(q:RelV y u):x=y:=ZyU (r.abs.symm.trans q.abs)
theorem Vals.inj:∀{xs ys:List V} {us:List Value},Vals xs us->Vals ys us->xs=ys
 | _,_,_,.nil,.nil=>rfl
 | _,_,_,.cons r t,.cons r' t'=>by rw[r.inj r',Vals.inj t t']
section
variable{X:Cx}{pins:List (Addr × Obj)}{σ:St}{H:Hp}{s:Shared}{a:Addr}{xs ys:List V}
theorem SqL.of{K:Zx0}(h:H a=some (.lst xs)):SqL K H a xs:=.inl (.inl h)
theorem SqT.of{K:Zx0}(h:H a=some (.tup xs)):SqT K H a xs:=.inl (.inl h)
theorem Inv.list(I:Inv X pins σ H s)(h:SqL X.K H a xs):∃its:List Value,Vals xs its/\PlainL s.heap a its.toArray/\xs.length<=sizeLine:=by
 rcases h with h | ⟨o,its,n,hk,hc,hd,hs,hz,r⟩
 ·obtain⟨z,its,n,r,e⟩:=h.ok I.hok
  exact⟨its,r,⟨_,n,e,rfl,rfl,rfl⟩,z⟩
 ·refine⟨its.toList,r,⟨o,n,I.kIn a o hk,hc,hd,by simpa using hs⟩,?_⟩
  have e:=r.length;simp only[Zyt]at e;omega
theorem Inv.tuple(I:Inv X pins σ H s)(h:SqT X.K H a xs):∃its:List Value,Vals xs its/\IsTup s.heap a its.toArray/\xs.length<=sizeLine:=by
 rcases h with h | ⟨o,its,n,hk,hc,hs,hz,r⟩
 ·obtain⟨z,its,r,p⟩:=h.ok I.hok
  exact⟨its,r,p,z⟩
 ·refine⟨its.toList,r,⟨o,I.kIn a o hk,hc,n,by simpa using hs⟩,?_⟩
  have e:=r.length;simp only[Zyt]at e;omega
theorem Inv.list_inj(I:Inv X pins σ H s)(h:SqL X.K H a xs)(h':SqL X.K H a ys):xs=ys:=by
 obtain⟨its,r,⟨o,n,e,_,_,d⟩,_⟩:=I.list h;obtain⟨its',r',⟨o',n',e',_,_,d'⟩,_⟩:=I.list h';rw[e]at e'; cases e';rw[d]at d';injection d' with d1 _
 have:its=its':=by simpa using congrArg Array.toList d1
 subst this;exact r.inj r'
theorem Inv.tuple_inj(I:Inv X pins σ H s)(h:SqT X.K H a xs)(h':SqT X.K H a ys):xs=ys:=by
 obtain⟨its,r,⟨o,e,_,n,d⟩,_⟩:=I.tuple h;obtain⟨its',r',⟨o',e',_,n',d'⟩,_⟩:=I.tuple h';rw[e]at e'; cases e';rw[d]at d';injection d' with d1 _
 have:its=its':=by simpa using congrArg Array.toList d1
 subst this;exact r.inj r'
end
abbrev Cx.wish(X:Cx)(E:Value->Shared->Prop):Cx:={ X with xe:=E }
abbrev Cx.nox(X:Cx):Cx:=X.wish λ_ _=>False
theorem Cx.Ok.wish{X:Cx}(ok:X.Ok)(E:Value->Shared->Prop):(X.wish E).Ok :=
 ⟨ok.mod,ok.kind,ok.glob,ok.blt,ok.above,ok.inj,ok.has,ok.cab,ok.hd,ok.frames,ok.stk,ok.exf,ok.bs,ok.bsz,ok.noex,ok.exfs,ok.funs,ok.frf⟩
theorem Cx.Ok.unwish{X:Cx}{E:Value->Shared->Prop}(ok:(X.wish E).Ok):X.Ok :=
 ⟨ok.mod,ok.kind,ok.glob,ok.blt,ok.above,ok.inj,ok.has,ok.cab,ok.hd,ok.frames,ok.stk,ok.exf,ok.bs,ok.bsz,ok.noex,ok.exfs,ok.funs,ok.frf⟩
section
variable{X:Cx}{pins:List (Addr × Obj)}{σ:St}{H:Hp}{s:Shared}{E:Value->Shared->Prop}
theorem Inv.wish(I:Inv X pins σ H s)(E:Value->Shared->Prop):Inv (X.wish E) pins σ H s:=⟨I.ok.wish E,I.os,I.bare,I.base,I.loc,I.cell,I.free,I.freeC,I.pin,I.hok,I.len⟩
theorem Inv.unwish(I:Inv (X.wish E) pins σ H s):Inv X pins σ H s:=⟨I.ok.unwish,I.os,I.bare,I.base,I.loc,I.cell,I.free,I.freeC,I.pin,I.hok,I.len⟩
theorem SP.unwish{D:Ends}{f:Flow}{s':Shared}(h:SP (X.wish E) pins D f s'):SP X pins D f s':=by
 cases f with
 | next=>obtain⟨σ',H',I,q⟩:=h; exact⟨σ',H',I.unwish,q⟩
 | brk=>obtain⟨σ',H',I,q⟩:=h; exact⟨σ',H',I.unwish,q⟩
 | cont=>obtain⟨σ',H',I,q⟩:=h; exact⟨σ',H',I.unwish,q⟩
 | ret u=>obtain⟨v,σ',H',I,r,q⟩:=h; exact⟨v,σ',H',I.unwish,r,q⟩
theorem PSs.nox{st:List Stmt}{t:TS}(h:PSs X.nox st t):PSs X st t:=λpins s σ H D I hw=>Zzg (h pins s σ H D (I.wish _) hw) (λ_ _ q=>q.unwish) λ_ _ z=>Zy3 z
end
section
variable{X:Cx}{st:Stmt}{rest:List Stmt}{t u:TS}{e:Expr}{te:TE}{pos:Pos}
def ZwM:TS:=λD σ H=>D.nx σ H
def Zxw(t u:TS):TS:=λD σ H=>t { D with nx:=u D } σ H
theorem ZuC:PSs X [] ZwM:=λ_ _ σ H _ I h=>ZBm ⟨σ,H,I,h⟩
theorem Zh3(h1:PS X st t)(h2:PSs X rest u):PSs X (st::rest) (Zxw t u):=by
 intro pins s σ H D I h;refine wpAny_execs_cons (thn (h1 pins s σ H { D with nx:=u D } I h) λf s1 q=>?_);cases f with
 | next=>obtain⟨σ',H',I',q⟩:=q;exact h2 pins s1 σ' H' D I' q
 | ret v=>exact q
 | brk=>exact q
 | cont=>exact q
theorem Zp8(h1:PS X st t):PSs X [st] t:=by
 intro pins s σ H D I h;refine wpAny_execs_cons (thn (h1 pins s σ H D I h) λf s1 q=>?_);cases f with
 | next=>exact ZBm q
 | ret v=>exact q
 | brk=>exact q
 | cont=>exact q
theorem Inv.quiet{pins:List (Addr × Obj)}{σ:St}{H:Hp}{s:Shared}(I:Inv X pins σ H s):interactive X.env=false:=by simp[interactive,I.ok.kind]
def ZwQ(te:TE):TS:=λD σ H=>te σ H λ_ H1=>D.nx σ H1
theorem Zhf(he:PE X e te)(hs:Zz3 e none pos.line X.env=pure false:=by rfl):PS X (.Expr e pos) (ZwQ te):=by intro pins s σ H D I h;exact wpAny_Expr_any (thn (he pins s σ H _ I h) λv s1 ⟨x,H1,I1,r1,q1⟩=>⟨σ,H1,I1,q1⟩) I.quiet hs
def ZxG(te:TE):TS:=λD σ H=>te σ H D.rt
theorem ZoL(he:PE X e te):PS X (.Return (some e) pos) (ZxG te):=by intro pins s σ H D I h;exact wpAny_Return_some (thn (he pins s σ H _ I h) λv s1 ⟨x,H1,I1,r1,q1⟩=>⟨x,σ,H1,I1,r1,q1⟩)
def ZxA(c:TT)(t u:TS):TS:=λD σ H=>c σ H λb H1=>if b=true then t D σ H1 else u D σ H1
theorem Zt2{c:Expr}{a b:List Stmt}{tc:TT}(hc:PT X c tc)(ha:PSs X a t)(hb:PSs X b u):PS X (.If c a b pos) (ZxA tc t u):=by
 intro pins s σ H D I h;refine wpAny_If (thn (hc pins s σ H _ I h) λd s1 ⟨H1,I1,q1⟩=>?_);cases d with
 | true=>exact ha pins s1 σ H1 D I1 q1
 | false=>exact hb pins s1 σ H1 D I1 q1
def Zvr:TS:=λ_ _ _=>False
theorem ZgB{sts:List Stmt}:PSs X sts Zvr:=λ_ _ _ _ _ _ h=>h.elim
end
abbrev TG:=V->St->Hp->(St->Hp->Prop)->Prop
abbrev TGs:=List V->St->Hp->(St->Hp->Prop)->Prop
def PG(X:Cx)(target:Expr)(t:TG):Prop :=
 ∀(pins:List (Addr × Obj)) (s:Shared) (σ:St) (H:Hp) (v:V) (u:Value) (Q:St->Hp->Prop),Inv X pins σ H s->RelV v u->t v σ H Q ->
  wpAny (model X.prog X.w) X.A (assign target X.env u) (λ_ s'=>∃σ' H',Inv X pins σ' H' s'/\Q σ' H') X.xe s
def PGs(X:Cx)(ts:List Expr)(t:TGs):Prop :=
 ∀(pins:List (Addr × Obj)) (s:Shared) (σ:St) (H:Hp) (vs:List V) (us:List Value) (Q:St->Hp->Prop),Inv X pins σ H s->Vals vs us->t vs σ H Q ->
  wpAny (model X.prog X.w) X.A (assignInOrder ((ZAU ts X.env).map (·.2)) us) (λ_ s'=>∃σ' H',Inv X pins σ' H' s'/\Q σ' H') X.xe s
abbrev Zs4:=V->V->V->Hp->(Hp->Prop)->Prop
def Zwr(X:Cx)(t:Zs4):Prop :=
 ∀(pins:List (Addr × Obj)) (s:Shared) (σ:St) (H:Hp) (o i v:V) (ov iv u:Value) (Q:Hp->Prop),Inv X pins σ H s->RelV o ov->RelV i iv->RelV v u->t o i v H Q ->
  wpAny (model X.prog X.w) X.A (setItem ov iv u) (λ_ s'=>∃H',Inv X pins σ H' s'/\Q H') X.xe s
section
variable{X:Cx}{pos:Pos}
def Zt0(i:Nat):TG:=λv σ H Q=>Q (σ.set i (some v)) H
theorem Zjf{i:Nat}{x:Str}(hN:X.N.Nodup)(hi:X.N[i]?=some x)(hx:Loc X.env.scope x)(hf:X.fn x=true\/X.env.scope.names.lookup x=some .local:=by first | exact .inl rfl | exact .inr rfl | assumption):PG X (.Name x pos) (Zt0 i):=by intro pins s σ H v u Q I r h;exact wpAny_assign_Name (ZoF I hN hi hx r (λs' I'=>⟨_,H,I',h⟩) hf)
def Zxt:TGs:=λvs σ H Q=>vs=[]/\Q σ H
def ZwE(t:TG)(u:TGs):TGs:=λvs σ H Q=>∃v r,vs=v::r/\t v σ H λσ' H'=>u r σ' H' Q
theorem Zu6:PGs X [] Zxt:=by intro pins s σ H vs us Q I r h;obtain⟨e,h⟩:=h;subst e;cases r;exact assignInOrder_nil ⟨σ,H,I,h⟩
theorem ZnL{e:Expr}{es:List Expr}{t:TG}{u:TGs}(h1:PG X e t)(h2:PGs X es u)
  (hs:(ZAU (e::es) X.env).map (·.2)=assign e X.env::(ZAU es X.env).map (·.2):=by rfl):PGs X (e::es) (ZwE t u):=by
 intro pins s σ H vs us Q I r h;obtain⟨v,vr,e1,h⟩:=h;subst e1;cases r with
 | cons r rr=>rw[hs];refine assignInOrder_cons (thn (h1 pins s σ H _ _ _ I r h) λ_ s1 ⟨σ1,H1,I1,q1⟩=>?_);exact h2 pins s1 σ1 H1 _ _ Q I1 rr q1
def Zxz(K:Zx0)(n:Nat)(t:TGs):TG:=λv σ H Q=>∃a xs,v=.ref a/\SqT K H a xs/\xs.length=n/\t xs σ H Q
theorem Zvt{es:List Expr}{k:Nat}{t:TGs}{n:Nat}(hc:X.calm=true)(h:PGs X es t)
  (hn:(ZAU es X.env).length=n:=by rfl) (hst:(ZAU es X.env).findIdx? (·.1)=none:=by rfl):PG X (.Tuple es k pos) (Zxz X.K n t):=by
 intro pins s σ H v u Q I r hw;obtain⟨a,xs,e1,hq,hl,hw⟩:=hw;subst e1;cases r;obtain⟨its,rv,ht,hz⟩:=I.tuple hq;refine assign_Tuple_tuple (I.ok.hd hc) ht (by simp[hn,<-hl,rv.length]) hst λh' hx=>?_;have I1:Inv X pins σ H { s with heap:=h' }:=I.kept (t':=s.toks) λb o e=>hx b o (Zyp (Zyh e)) e;exact h pins _ σ H xs _ Q I1 (by simpa using rv) hw
def Zld(to ti:TE)(t:Zs4):TG:=λv σ H Q=>to σ H λo H1=>ti σ H1 λi H2=>t o i v H2 λH3=>Q σ H3
theorem Zv8{o i:Expr}{to ti:TE}{t:Zs4}(ho:PE X o to)(hi:PE X i ti)(hs:Zwr X t)
  (ha:∀v,assign (.Subscript o i pos) X.env v=(do
   let ov <-holding [v] (eval o X.env)
   let iv <-holding [v,ov] (eval i X.env)
   standAt pos
   holding [v,ov,iv] (setItem ov iv v)
   release [v,ov,iv] []):=by intro _; rfl):PG X (.Subscript o i pos) (Zld to ti t):=by
 intro pins s σ H v u Q I r h;rw[ha];refine ZxZ (Zzc (thn (ho pins s σ H _ I h) λov s1 ⟨x,H1,I1,r1,q1⟩=>?_));refine ZxZ (Zzc (thn (hi pins s1 σ H1 _ I1 q1) λiv s2 ⟨y,H2,I2,r2,q2⟩=>?_));refine ZxZ (wpAny_standAt (ZxZ (Zzc (thn (hs pins s2 σ H2 x y v ov iv u _ I2 r1 r2 r q2) λ_ s3 ⟨H3,I3,q3⟩=>?_))));exact wpAny_release ⟨σ,H3,I3,q3⟩
def Zv2(te:TE)(g:TG):TS:=λD σ H=>te σ H λx H1=>g x σ H1 D.nx
theorem Zwi{tg e:Expr}{te:TE}{g:TG}(he:PE X e te)(hg:PG X tg g)(hs:swapsWithSole [tg] e pos.line X.env=pure false:=by rfl)(hw:swappedStores [tg] e X.env=pure none:=by rfl)
  (h1:(ZAU [tg] X.env).map (·.2)=[assign tg X.env]:=by rfl):PS X (.Assign [tg] e pos) (Zv2 te g):=by
 intro pins s σ H D I h;refine wpAny_Assign_stores (thn (he pins s σ H _ I h) λv s1 ⟨x,H1,I1,r1,q1⟩=>?_) hs hw;rw[h1];exact thn (hg pins s1 σ H1 x v _ I1 r1 q1) λ_ s2 ⟨σ',H',I',q'⟩=>⟨σ',H',I',q'⟩
theorem ZnZ{i:Nat}{x:Str}{e:Expr}{te:TE}{pos':Pos}(hN:X.N.Nodup)(hi:X.N[i]?=some x)(hx:Loc X.env.scope x)(he:PE X e te)(hs:Zz3 e (some (.Name x pos')) pos.line X.env=pure false:=by rfl)(hf:X.fn x=true\/X.env.scope.names.lookup x=some .local:=by first | exact .inl rfl | exact .inr rfl | assumption) :
  PS X (.Assign [.Name x pos'] e pos) (Zv2 te (Zt0 i)):=by
 intro pins s σ H D I h;refine wpAny_Assign_Name (thn (he pins s σ H _ I h) λv s1 ⟨y,H1,I1,r1,q1⟩=>?_) hs;exact ZoF I1 hN hi hx r1 (λs2 I2=>⟨_,H1,I2,q1⟩) hf
end
section
variable{X:Cx}{pos:Pos}
def Zwy(c:TT)(tb:TS):TS:=λD σ H=>∃W:Nat->St->Hp->Prop,(∃m,W m σ H)/\∀m σ H,W m σ H ->
 c σ H λb H1=>if b=true then ∃N:St->Hp->Prop,(∀σ' H',N σ' H'->∃m',m'<m/\W m' σ' H')/\tb { D with nx:=N,ct:=N,bk:=D.nx } σ H1 else D.nx σ H1
theorem ZsQ{c:Expr}{body:List Stmt}{tc:TT}{tb:TS}(hp:PassesOwn (model X.prog X.w) X.A X.env X.xe)(hc:PT X c tc)(hb:PSs X body tb):PS X (.While c body [] pos) (Zwy tc tb):=by
 intro pins s σ H D I h;obtain⟨W,⟨m0,w0⟩,turn⟩:=h;refine wpAny_While (codeAny_whileLoop (λn s'=>∃σ' H',Inv X pins σ' H' s'/\W n σ' H') ?_ m0 ⟨σ,H,I,w0⟩)
 rintro n s1 ⟨σ1,H1,I1,w1⟩
 refine Zz6 hp (thn (hc pins s1 σ1 H1 _ I1 (turn n σ1 H1 w1)) λb s2 ⟨H2,I2,q2⟩=>?_);cases b with
 | true =>
  obtain⟨N,hN,q2⟩:=q2;rw[if_pos rfl];refine Zz6 hp (thn (hb pins s2 σ1 H2 _ I2 q2) λf s3 q3=>?_);cases f with
  | next=>obtain⟨σ3,H3,I3,n3⟩:=q3;obtain⟨m',hm,w3⟩:=hN σ3 H3 n3;exact⟨m',hm,σ3,H3,I3,w3⟩
  | cont=>obtain⟨σ3,H3,I3,n3⟩:=q3;obtain⟨m',hm,w3⟩:=hN σ3 H3 n3;exact⟨m',hm,σ3,H3,I3,w3⟩
  | brk=>exact q3
  | ret v=>exact q3
 | false=>rw[if_neg ZyI];exact ZBm ⟨σ1,H2,I2,q2⟩
end
structure It where
 go:Nat->Hp->Prop
 yld:Nat->Hp->V->Hp->Prop
 stop:Nat->Hp->Prop
def Zgd(X:Cx)(pins:List (Addr × Obj))(H:Hp)(b:Addr):Prop :=
 H b=none/\b≠X.env.locals/\b ∉ X.fs/\(b∈X.ex\/X.s₀.heap.objs.size<=b)/\(∀x c,X.env.cells.lookup x=some c->c≠b)/\∀p∈X.pn++pins,p.1≠b
theorem Inv.fpOk{X:Cx}{pins:List (Addr × Obj)}{σ:St}{H H':Hp}{s:Shared}{b:Addr}(I:Inv X pins σ H s)(hb:s.heap.objs.size<=b)(hn:H' b=none):Zgd X pins H' b:=by
 refine⟨hn,ZAO (Zyv I.lt hb),I.nofs hb,.inr (ZyO I.sz hb),λx c e z=>?_,λp hp z=>?_⟩
 ·obtain⟨v,q⟩:=I.cell x c e
  exact absurd (Zyv q.lt (by rw[z]; exact hb)) (ZzM _)
 ·exact absurd (Zyv (Zyh (I.pin p hp).1) (by rw[z]; exact hb)) (ZzM _)
structure Turn(P:Program)(w:World)(K:Zx0)(tg:Expr)(J:It)(fp:List Addr)(it:Addr)(tn:Nat->Heap->Prop):Prop where
 mem:it∈fp
 obj:∀i h,tn i h->∀b∈fp,∃o,h.get? b=some o/\∀v,o.data≠.cell v
 keep:∀i h h',tn i h->(∀b∈fp,∀o,h.get? b=some o->h'.get? b=some o)->tn i h'
 item:∀(X:Cx),X.prog=P->X.w=w->X.K=K->X.calm=true->∀(i:Nat) (pins:List (Addr × Obj)) (s:Shared) (σ:St) (H:Hp) (E:Value->Shared->Prop),Inv X pins σ H s->(∀b∈fp,Zgd X pins H b)->tn i s.heap->J.go i H ->
  wpAny (model P w) X.A (pyNext (.ref it)) (λr s1=>∃u,r=some u /\
   wpAny (model P w) X.A (ZBn tg (.ref it) u) (λ_ s2=>∃x H',Inv X pins σ H' s2/\RelV x u/\J.yld i H x H'/\tn (i+1) s2.heap/\∀b∈fp,H' b=none) E s1) E s
 done:∀(X:Cx),X.prog=P->X.w=w->X.K=K->X.calm=true->∀(i:Nat) (pins:List (Addr × Obj)) (s:Shared) (σ:St) (H:Hp) (E:Value->Shared->Prop),Inv X pins σ H s->(∀b∈fp,Zgd X pins H b)->tn i s.heap->J.stop i H ->
  wpAny (model P w) X.A (pyNext (.ref it)) (λr s1=>r=none/\Inv X pins σ H s1) E s
 self:∀(A:Around) (i:Nat) (s:Shared) (Q:Value->Shared->Prop) (E:Value->Shared->Prop),tn i s.heap->Q (.ref it) s->wpAny (model P w) A (pyIter (.ref it)) Q E s
abbrev TI:=St->Hp->(It->Hp->Prop)->Prop
def PIE(X:Cx)(pins:List (Addr × Obj))(σ:St)(tg:Expr)(R:It->Hp->Prop)(itv:Value)(s2:Shared):Prop :=
 ∃(it:Addr) (fp:List Addr) (tn:Nat->Heap->Prop) (J:It) (H':Hp),itv=.ref it/\Inv X pins σ H' s2/\Turn X.prog X.w X.K tg J fp it tn/\tn 0 s2.heap/\(∀b∈fp,Zgd X pins H' b)/\R J H'
def PI(X:Cx)(tg iter:Expr)(wi:TI):Prop :=
 ∀(pins:List (Addr × Obj)) (s:Shared) (σ:St) (H:Hp) (R:It->Hp->Prop),Inv X pins σ H s->wi σ H R ->
  wpAny (model X.prog X.w) X.A (eval iter X.env) (λv s1=>wpAny (model X.prog X.w) X.A (pyIter v) (PIE X pins σ tg R) X.xe s1) X.xe s
theorem ZmO{M:Model}{A:Around}{E:Value->Shared->Prop}{s:Shared}{tg:Expr}{it:Addr}{u:Value}{o:Obj}{n:String}{vs:Array Value}{Q:Unit->Shared->Prop}(ho:s.heap.get? it=some o)(hc:o.cls=.type n)(hd:o.data=.fields vs)
    (hn:["enumerate","zip","dict_itemiterator","dict_reverseitemiterator","odict_iterator","itertools.zip_longest","itertools.pairwise"].contains n=false) (hQ:Q () s):wpAny M A (ZBn tg (.ref it) u) Q E s:=by
  unfold ZBn
  cases tg<;>first
    | exact Zx5 hQ
    | (cases u<;>first
        | exact Zx5 hQ
        | (refine ZxZ (wpAny_load ho ?_)
           rw [hc, hd]
           show wpAny M A (if (["enumerate", "zip", "dict_itemiterator", "dict_reverseitemiterator", "odict_iterator", "itertools.zip_longest", "itertools.pairwise"].contains n && vs[0]? == some (rawInt _)) = true then _ else _) Q E s
           rw [if_neg (by intro h; rw [hn, Bool.false_and] at h; cases h)]
           exact Zx5 hQ))
def Itl(K:Zx0)(a:Addr):It :=
 ⟨λi H=>∃xs x,SqL K H a xs/\xs[i]?=some x,λi H x H'=>H'=H/\∀xs,SqL K H a xs->xs[i]?=some x,λi H=>∃xs,SqL K H a xs/\xs.length<=i⟩
def Itt(K:Zx0)(a:Addr):It :=
 ⟨λi H=>∃xs x,SqT K H a xs/\xs[i]?=some x,λi H x H'=>H'=H/\∀xs,SqT K H a xs->xs[i]?=some x,λi H=>∃xs,SqT K H a xs/\xs.length<=i⟩
def Itr(lo:Int)(n:Nat):It:=⟨λi _=>i<n,λi H x H'=>H'=H/\x=.int (lo+i),λi _=>n<=i⟩
theorem Zrm{P:Program}{w:World}{K:Zx0}{tg:Expr}(a it:Addr):Turn P w K tg (Itl K a) [it] it (λi h=>h.IsListIter it a i) where
 mem:=by simp
 obj:=λi h st b hb=>by
  have e:b=it:=by simpa using hb
  subst e;obtain⟨o,e,c,d⟩:=st;exact⟨o,e,λv z=>by rw[d]at z; cases z⟩
 keep:=λi h h' st k=>st.at λo e=>k it (by simp) o e
 item:=by intro X hP hw hK hc i pins s σ H E I hf st hg;subst hP hw hK;obtain⟨xs,x,hq,hx⟩:=hg;obtain⟨its,rv,p,hz⟩:=I.list hq;obtain⟨u,hu,ru⟩:=rv.get hx;obtain⟨f0,f1,f2,f3,f4,f5⟩:=hf it (by simp);refine wpAny_pyNext_list_item st p.isList (x:=u) (by simpa using hu) λh' st' sb=>?_;have I1:Inv X pins σ H { s with heap:=h' }:=I.turned (t':=s.toks) (λb o hb e=>(sb.2 b hb).trans e) f0 f1 f3 f4 f5;obtain⟨o,e,c,d⟩:=id st';exact⟨u,rfl,ZmO (s:={ s with heap:=h' }) e c d (by decide) ⟨x,H,I1,ru,⟨rfl,λys hy=>by rw[I.list_inj hy hq]; exact hx⟩,st',λb hb=>(hf b hb).1⟩⟩
 done:=by intro X hP hw hK hc i pins s σ H E I hf st hg;subst hP hw hK;obtain⟨xs,hq,hx⟩:=hg;obtain⟨its,rv,p,hz⟩:=I.list hq;obtain⟨f0,f1,f2,f3,f4,f5⟩:=hf it (by simp);have hl:=rv.length;exact wpAny_pyNext_list_end (I.ok.hd hc) st p.isList (by simp; omega) λh' eb=>⟨rfl,I.turned (t':=s.toks) (λb o hb e=>eb b o hb e) f0 f1 f3 f4 f5⟩
 self:=λ_ _ _ _ _ st h=>wpAny_pyIter_listiter st h
theorem Zq1{P:Program}{w:World}{K:Zx0}{tg:Expr}(a it:Addr):Turn P w K tg (Itt K a) [it] it (λi h=>h.IsTupleIter it a i) where
 mem:=by simp
 obj:=λi h st b hb=>by
  have e:b=it:=by simpa using hb
  subst e;obtain⟨o,e,c,d⟩:=st;exact⟨o,e,λv z=>by rw[d]at z; cases z⟩
 keep:=λi h h' st k=>st.at λo e=>k it (by simp) o e
 item:=by intro X hP hw hK hc i pins s σ H E I hf st hg;subst hP hw hK;obtain⟨xs,x,hq,hx⟩:=hg;obtain⟨its,rv,p,hz⟩:=I.tuple hq;obtain⟨u,hu,ru⟩:=rv.get hx;obtain⟨f0,f1,f2,f3,f4,f5⟩:=hf it (by simp);refine wpAny_pyNext_tuple_item st (show s.heap.IsTuple a its.toArray from p) (x:=u) (by simpa using hu) λh' st' sb=>?_;have I1:Inv X pins σ H { s with heap:=h' }:=I.turned (t':=s.toks) (λb o hb e=>(sb.2 b hb).trans e) f0 f1 f3 f4 f5;obtain⟨o,e,c,d⟩:=id st';exact⟨u,rfl,ZmO (s:={ s with heap:=h' }) e c d (by decide) ⟨x,H,I1,ru,⟨rfl,λys hy=>by rw[I.tuple_inj hy hq]; exact hx⟩,st',λb hb=>(hf b hb).1⟩⟩
 done:=by intro X hP hw hK hc i pins s σ H E I hf st hg;subst hP hw hK;obtain⟨xs,hq,hx⟩:=hg;obtain⟨its,rv,p,hz⟩:=I.tuple hq;obtain⟨f0,f1,f2,f3,f4,f5⟩:=hf it (by simp);have hl:=rv.length;exact wpAny_pyNext_tuple_end (I.ok.hd hc) st (show s.heap.IsTuple a its.toArray from p) (by simp; omega) λh' eb=>⟨rfl,I.turned (t':=s.toks) (λb o hb e=>eb b o hb e) f0 f1 f3 f4 f5⟩
 self:=λ_ _ _ _ _ st h=>wpAny_pyIter_tupleiter st h
theorem Zqu{P:Program}{w:World}{K:Zx0}{tg:Expr}(it:Addr)(lo:Int)(n:Nat):Turn P w K tg (Itr lo n) [it] it (λi h=>IsRangeIter h it (lo+(i:Nat)*1) ((n:Int)-(i:Nat)) 1) where
 mem:=by simp
 obj:=λi h st b hb=>by
  have e:b=it:=by simpa using hb
  subst e;exact⟨_,st,λv z=>by have z':Data.fields _=Data.cell v:=z;cases z'⟩
 keep:=λi h h' st k=>k it (by simp) _ st
 item:=by intro X hP hw hK hc i pins s σ H E I hf st hg;subst hP hw hK;obtain⟨f0,f1,f2,f3,f4,f5⟩:=hf it (by simp);have W:=Walks.range (prog:=X.prog) (w:=X.w) (I.ok.hd hc) it lo 1 n;refine W.item i s _ _ hg st λv h' tk hv st' kk=>?_;obtain⟨t,rfl⟩:=hv;have I1:Inv X pins σ H { s with heap:=h',toks:=tk }:=I.turned (λb o hb e=>kk b o (by simpa using hb) e) f0 f1 f3 f4 f5;refine⟨_,rfl,ZmO (s:={ s with heap:=h',toks:=tk }) (n:="range_iterator") st' rfl rfl (by decide) ⟨.int (lo+i),H,I1,⟨t,?_⟩,⟨rfl,rfl⟩,st',λb hb=>(hf b hb).1⟩⟩;rw[Int.mul_one]
 done:=by intro X hP hw hK hc i pins s σ H E I hf st hg;subst hP hw hK;obtain⟨f0,f1,f2,f3,f4,f5⟩:=hf it (by simp);exact wpAny_pyNext_range_end (I.ok.hd hc) st (by have:n<=i:=hg; omega) λh' eb=>⟨rfl,I.turned (t':=s.toks) (λb o hb e=>eb b o hb e) f0 f1 f3 f4 f5⟩
 self:=λ_ _ _ _ _ st h=>wpAny_pyIter_rangeiter st h
end L2
namespace L2
open PySem PySem.Spec PyProof.Rows
section
variable{X:Cx}{tg:Expr}
theorem ZnN{pins:List (Addr × Obj)}{σ:St}{H:Hp}{s:Shared}{R:It->Hp->Prop}{E:Value->Shared->Prop}{lo hi:Int}{t u v:Tok}{tk:Nat}(I:Inv X pins σ H s)(h1:-(2 ^ 62)<=lo)(h2:lo<2 ^ 62)(h3:-(2 ^ 62)<=hi)(h4:hi<2 ^ 62)
  (q:R (Itr lo (hi-lo).toNat) H):wpAny (model X.prog X.w) X.A (pyIter (.ref s.heap.objs.size)) (PIE X pins σ tg R) E { s with heap:=s.heap.push { cls:=.type "range",data:=.fields #[.int lo t,.int hi u,.int 1 v] },toks:=tk }:=by
 refine wpAny_pyIter_range (IsRange.new ..) (small_one h1 h2 h3 h4) ?_;have I1:Inv X pins σ H { s with heap:=s.heap.push { cls:=.type "range",data:=.fields #[.int lo t,.int hi u,.int 1 v] },toks:=tk }:=I.kept λb o e=>Zx7 _ e;refine⟨(s.heap.push { cls:=.type "range",data:=.fields #[.int lo t,.int hi u,.int 1 v] }).objs.size,[(s.heap.push { cls:=.type "range",data:=.fields #[.int lo t,.int hi u,.int 1 v] }).objs.size],_,_,H,rfl,
  I1.kept (t':=tk) λb o e=>Zx7 _ e,Zqu _ lo (hi-lo).toNat,?_,λb hb=>?_,q⟩
 ·have e1:lo+((0:Nat):Int)*1=lo:=by simp
  have e2:(((hi-lo).toNat:Nat):Int)-((0:Nat):Int)=ZAp lo hi 1:=by rw[rangeSize_one]; split<;>omega
  show IsRangeIter _ _ (lo+((0:Nat):Int)*1) ((((hi-lo).toNat:Nat):Int)-((0:Nat):Int)) 1;rw[e1,e2];exact Zyi _ rfl
 ·have e:b=(s.heap.push { cls:=.type "range",data:=.fields #[.int lo t,.int hi u,.int 1 v] }).objs.size:=by simpa using hb
  subst e;exact I1.fpOk (Zyb _) (I1.hok.fresh (Zyb _))
def Zcs(ta:TA):TI:=λσ H R=>ta σ H λvs H1=>∃j:Int,vs=[.int j]/\-(2 ^ 62)<=j/\j<2 ^ 62/\R (Itr 0 j.toNat) H1
def Zjh(ta:TA):TI:=λσ H R=>ta σ H λvs H1=>∃i j:Int,vs=[.int i,.int j]/\(-(2 ^ 62)<=i/\i<2 ^ 62/\-(2 ^ 62)<=j/\j<2 ^ 62)/\R (Itr i (j-i).toNat) H1
theorem Zso{a:Expr}{ta:TA}{p pos:Pos}(hg:Gl X "range")(hm:X.mg "range" = none)(ha:PA X [a] ta)(hs:Zyc [a] X.env=[(false,eval a X.env)]:=by rfl):PI X tg (.Call (.Name "range" p) [a] [] pos) (Zcs ta):=by
 intro pins s σ H R I h;refine Call_ (Zhk I hg hm boot_range (ZAE (thn (ha pos pins s σ H _ I h) λus s1 ⟨vs,H1,I1,r1,q1⟩=>?_) hs rfl));obtain⟨j,e,q1,q2,q⟩:=q1;subst e;cases r1 with
 | cons r rr=>cases rr;obtain⟨t,rfl⟩:=r;exact call_range_1 (ZnN I1 (by omega) (by omega) q1 q2 (by simpa using q))
theorem ZrH{a b:Expr}{ta:TA}{p pos:Pos}(hg:Gl X "range")(hm:X.mg "range" = none)(ha:PA X [a,b] ta)(hs:Zyc [a,b] X.env=[(false,eval a X.env),(false,eval b X.env)]:=by rfl)(hs2:Zyc [b] X.env=[(false,eval b X.env)]:=by rfl) :
  PI X tg (.Call (.Name "range" p) [a,b] [] pos) (Zjh ta):=by
 intro pins s σ H R I h;refine Call_ (Zhk I hg hm boot_range (ZAE (thn (ha pos pins s σ H _ I h) λus s1 ⟨vs,H1,I1,r1,q1⟩=>?_) (by rw[hs,hs2]) (by rw[hs2]; rfl)));obtain⟨i,j,e,⟨q1,q2,q3,q4⟩,q⟩:=q1;subst e;cases r1 with
 | cons r rr =>
  cases rr with
  | cons r' rr=>cases rr;obtain⟨t,rfl⟩:=r;obtain⟨t',rfl⟩:=r';exact call_range_2 (ZnN I1 q1 q2 q3 q4 q)
def Zxk(wi:TI)(g:TG)(tb:TS):TS:=λD σ H=>wi σ H λJ H1=>∃W:Nat->Nat->St->Hp->Prop,(∃m,W 0 m σ H1)/\∀i m σ H,W i m σ H ->
 (J.stop i H/\D.nx σ H)\/(J.go i H/\∃N:St->Hp->Prop,(∀σ' H',N σ' H'->∃m',m'<m/\W (i+1) m' σ' H')/\∀x H',J.yld i H x H'->g x σ H' λσ2 H2=>tb { D with nx:=N,ct:=N,bk:=D.nx } σ2 H2)
def ZiN(fp:List Addr)(h:Heap):List (Addr × Obj):=fp.filterMap λb=>(h.get? b).map λo=>(b,o)
theorem ZfE{fp:List Addr}{h:Heap}{b:Addr}{o:Obj}(hb:b∈fp)(e:h.get? b=some o):(b,o)∈ZiN fp h:=Zzl.mpr ⟨b,hb,by rw[e]; rfl⟩
theorem Zsl{fp:List Addr}{h:Heap}{p:Addr × Obj}(hp:p∈ZiN fp h):p.1∈fp/\h.get? p.1=some p.2:=by
 obtain⟨b,hb,e⟩:=Zzl.mp hp;cases q:h.get? b with
 | none=>rw[q]at e; cases e
 | some o=>rw[q]at e;have e':(b,o)=p:=ZyU e;subst e';exact⟨hb,q⟩
theorem Inv.pinned{pins:List (Addr × Obj)}{σ:St}{H:Hp}{s:Shared}{fp:List Addr}(I:Inv X pins σ H s)(hf:∀b∈fp,Zgd X pins H b)(ho:∀b∈fp,∃o,s.heap.get? b=some o/\∀v,o.data≠.cell v):Inv X (pins++ZiN fp s.heap) σ H s :=
 I.pins_of λp hp=>(Zyy.mp hp).elim (λz=>I.pin p (Zyw _ z)) λz=>by obtain⟨hb,e⟩:=Zsl z;obtain⟨f0,f1,f2,_⟩:=hf p.1 hb;obtain⟨o,e',d⟩:=ho p.1 hb;rw[e]at e'; cases e';exact⟨e,f0,f1,f2,d⟩
theorem Inv.unpinned{pins pl:List (Addr × Obj)}{σ:St}{H:Hp}{s:Shared}(I:Inv X (pins++pl) σ H s):Inv X pins σ H s:=I.pins_of λp hp=>I.pin p (Zyw _ (ZyF _ hp))
theorem Zwx{iter:Expr}{body:List Stmt}{wi:TI}{g:TG}{tb:TS}{pos:Pos}(hp:PassesOwn (model X.prog X.w) X.A X.env X.xe)(hc:X.calm=true)(hi:PI X tg iter wi)(hg:PG X tg g)(hb:PSs X body tb)
  (hs:∀x,ZzI iter X.env x=pure x:=by intro _; rfl):PS X (.For tg iter body [] pos) (Zxk wi g tb):=by
 intro pins s σ H D I h;refine wpAny_For (thn (hi pins s σ H _ I h) λv s1 h1=>thn h1 λitv s2 h2=>?_) hs;obtain⟨it,fp,tn,J,H2,e,I2,T,st2,f2,W,⟨m0,w0⟩,turn⟩:=h2;subst e;have stat:∀{H':Hp},(∀b∈fp,H' b=none)->∀b∈fp,Zgd X pins H' b:=λhn b hb=>⟨hn b hb,(f2 b hb).2⟩;refine codeAny_forLoop_any (λn s'=>∃i σ' H',Inv X pins σ' H' s'/\tn i s'.heap/\(∀b∈fp,H' b=none)/\W i n σ' H') ?_ m0 ⟨0,σ,H2,I2,st2,λb hb=>(f2 b hb).1,w0⟩
 rintro n s3 ⟨i,σ3,H3,I3,st3,fr3,w3⟩
 rcases turn i n σ3 H3 w3 with⟨stop,qn⟩ | ⟨go,N,hN,step⟩
 ·refine Zz6 hp (thn (T.done X rfl rfl rfl hc i pins s3 σ3 H3 X.xe I3 (stat fr3) st3 stop) λr s4 ⟨hr,I4⟩=>?_)
  subst hr;exact ZBm ⟨σ3,H3,I4,qn⟩
 ·refine Zz6 hp (thn (T.item X rfl rfl rfl hc i pins s3 σ3 H3 X.xe I3 (stat fr3) st3 go) λr s4 ⟨u,hr,h4⟩=>?_)
  subst hr;refine Zz6 hp (thn h4 λ_ s5 ⟨x,H5,I5,r5,y5,st5,fr5⟩=>?_);have I5':=I5.pinned (stat fr5) (T.obj _ _ st5);refine Zz6 hp (thn (hg _ s5 σ3 H5 x u _ I5' r5 (step x H5 y5)) λ_ s6 ⟨σ6,H6,I6,q6⟩=>?_);refine Zz6 hp (thn (hb _ s6 σ6 H6 _ I6 q6) λf s7 q7=>?_);have again:∀{σ7:St} {H7:Hp},Inv X (pins++ZiN fp s5.heap) σ7 H7 s7->N σ7 H7->∃m,m<n/\∃i σ' H',Inv X pins σ' H' s7/\tn i s7.heap/\(∀b∈fp,H' b=none)/\W i m σ' H':=λ{σ7 H7} I7 n7=>by obtain⟨m',hm,w7⟩:=hN σ7 H7 n7;refine⟨m',hm,i+1,σ7,H7,I7.unpinned,T.keep _ _ _ st5 λb hb o e=>(I7.pin (b,o) (Zyw _ (Zyw _ (ZfE hb e)))).1,λb hb=>?_,w7⟩;obtain⟨o,e,d⟩:=T.obj _ _ st5 b hb;exact(I7.pin (b,o) (Zyw _ (Zyw _ (ZfE hb e)))).2.1
  cases f with
  | next=>obtain⟨σ7,H7,I7,n7⟩:=q7; exact again I7 n7
  | cont=>obtain⟨σ7,H7,I7,n7⟩:=q7; exact again I7 n7
  | brk=>obtain⟨σ7,H7,I7,q7⟩:=q7; exact⟨σ7,H7,I7.unpinned,q7⟩
  | ret v=>obtain⟨x7,σ7,H7,I7,r7,q7⟩:=q7; exact⟨x7,σ7,H7,I7.unpinned,r7,q7⟩
end
end L2
namespace L2
open PySem PySem.Spec PyProof.Rows
abbrev R2:=V->V->Hp->VK->Prop
def OpR(X:Cx)(f:Value->Value->Sem Value)(r:R2):Prop :=
 ∀(pins:List (Addr × Obj)) (s:Shared) (σ:St) (H:Hp) (x y:V) (v u:Value) (Q:VK),Inv X pins σ H s->RelV x v->RelV y u->r x y H Q ->
  wpAny (model X.prog X.w) X.A (f v u) (EP X pins σ Q) X.xe s
def ZaZ(X:Cx)(f:Value)(r:List V->Hp->VK->Prop):Prop :=
 ∀(pins:List (Addr × Obj)) (s:Shared) (σ:St) (H:Hp) (xs:List V) (us:List Value) (Q:VK),Inv X pins σ H s->Vals xs us->r xs H Q ->
  wpAny (model X.prog X.w) X.A (call f us) (EP X pins σ Q) X.xe s
def tOp(r:R2)(ta tb:TE):TE:=λσ H Q=>ta σ H λx H1=>tb σ H1 λy H2=>r x y H2 Q
def rI(C:Int->Int->Prop)(g:Int->Int->V):R2:=λx y H Q=>∃i j,x=.int i/\y=.int j/\C i j/\Q (g i j) H
def rI0(g:Int->Int->V):R2:=λx y H Q=>∃i j,x=.int i/\y=.int j/\Q (g i j) H
section
variable{X:Cx}{a b c:Expr}{ta tb tc:TE}{pos:Pos}
theorem Zty(ha:PE X a ta)(hb:PE X b tb){pins:List (Addr × Obj)}{s:Shared}{σ:St}{H:Hp}{R:V->V->Hp->Prop}(I:Inv X pins σ H s)
  (h:ta σ H λx H1=>tb σ H1 λy H2=>R x y H2) {Q:Value->Shared->Prop} {f:Value->Value->Sem Value}
  (hf:∀v u s2 x y H2,Inv X pins σ H2 s2->RelV x v->RelV y u->R x y H2->wpAny (model X.prog X.w) X.A (f v u) Q X.xe s2) :
  wpAny (model X.prog X.w) X.A (eval a X.env) (λv s₁=>wpAny (model X.prog X.w) X.A (eval b X.env) (λu s₂=>wpAny (model X.prog X.w) X.A (f v u) Q X.xe s₂) X.xe s₁) X.xe s:=by
 refine thn (ha pins s σ H _ I h) λv s1 ⟨x,H1,I1,r1,q1⟩=>?_;refine thn (hb pins s1 σ H1 _ I1 q1) λu s2 ⟨y,H2,I2,r2,q2⟩=>?_;exact hf v u s2 x y H2 I2 r1 r2 q2
theorem Zq8{op:Operator}{r:R2}(ho:OpR X (ZBg op) r)(ha:PE X a ta)(hb:PE X b tb):PE X (.BinOp a op b pos) (tOp r ta tb):=by intro pins s σ H Q I h;exact wpAny_BinOp (Zty ha hb I h λv u s2 x y H2 I2 rx ry q=>ho pins s2 σ H2 x y v u Q I2 rx ry q)
theorem opI{f:Value->Value->Sem Value}{C:Int->Int->Prop}{g:Int->Int->Int}
  (rule:∀(i j:Int) (t u:Tok) (s:Shared) (Q:Value->Shared->Prop) (E:Value->Shared->Prop),C i j->Q (.int (g i j) s.toks) { s with toks:=s.toks+1 }->wpAny (model X.prog X.w) X.A (f (.int i t) (.int j u)) Q E s) :
  OpR X f (rI C λi j=>.int (g i j)):=by
 intro pins s σ H x y v u Q I rx ry h;obtain⟨i,j,rfl,rfl,hc,q⟩:=h;obtain⟨t,rfl⟩:=rx;obtain⟨t',rfl⟩:=ry;exact rule i j t t' s _ _ hc ⟨.int (g i j),H,I.tok _,⟨_,rfl⟩,q⟩
theorem Zv1{f:Value->Value->Sem Value}{g:Int->Int->Int}
  (rule:∀(i j:Int) (t u:Tok) (s:Shared) (Q:Value->Shared->Prop) (E:Value->Shared->Prop),Q (.int (g i j) s.toks) { s with toks:=s.toks+1 }->wpAny (model X.prog X.w) X.A (f (.int i t) (.int j u)) Q E s) :
  OpR X f (rI0 λi j=>.int (g i j)):=by
 intro pins s σ H x y v u Q I rx ry h;obtain⟨i,j,rfl,rfl,q⟩:=h;obtain⟨t,rfl⟩:=rx;obtain⟨t',rfl⟩:=ry;exact rule i j t t' s _ _ ⟨.int (g i j),H,I.tok _,⟨_,rfl⟩,q⟩
theorem ZsR{f:Value->Value->Sem Value}{g:Int->Int->Bool}
  (rule:∀(i j:Int) (t u:Tok) (s:Shared) (Q:Value->Shared->Prop) (E:Value->Shared->Prop),Q (.bool (g i j)) s->wpAny (model X.prog X.w) X.A (f (.int i t) (.int j u)) Q E s) :
  OpR X f (rI0 λi j=>.bl (g i j)):=by
 intro pins s σ H x y v u Q I rx ry h;obtain⟨i,j,rfl,rfl,q⟩:=h;obtain⟨t,rfl⟩:=rx;obtain⟨t',rfl⟩:=ry;exact rule i j t t' s _ _ ⟨.bl (g i j),H,I,rfl,q⟩
def ZqE(i j:Int):Prop:=(-(2 ^ 64)<i/\i<2 ^ 64)\/(-(2 ^ 64)<j/\j<2 ^ 64)
theorem ZqE.ok{i j:Int}(h:ZqE i j):IntMulOk i j:=by
 rcases h with⟨h1,h2⟩ | ⟨h1,h2⟩
 ·exact .of_left (intBits_le_64 h1 h2)
 ·exact .of_right (intBits_le_64 h1 h2)
theorem Zvs:OpR X (ZBg .Add) (rI0 λi j=>.int (i+j)):=Zv1 λ_ _ _ _ _ _ _ q=>add_int q
theorem Zvk:OpR X (ZBg .Sub) (rI0 λi j=>.int (i-j)):=Zv1 λ_ _ _ _ _ _ _ q=>sub_int q
theorem Zvu:OpR X (ZBg .Mult) (rI ZqE λi j=>.int (i*j)):=opI λ_ _ _ _ _ _ _ hc q=>mul_int q hc.ok
theorem ZvL:OpR X (ZBg .Mod) (rI (λ_ j=>0<j) λi j=>.int (i % j)):=opI λi j _ _ _ _ _ hc q=>by have h1:(0:Int)<j:=hc;exact mod_int' (by omega) (by rw[Int.fmod_eq_emod_of_nonneg i (by omega)]; exact q)
end
section
variable{X:Cx}{a b c:Expr}{ta tb tc:TE}{pos:Pos}
theorem Zr5{pins:List (Addr × Obj)}{σ:St}{H:Hp}{s:Shared}{Q:VK}{k k':Bool}(I:Inv X pins σ H s)(q:Q (.bl k) H)(e:k=k'):EP X pins σ Q (.bool k') s:=by subst e;exact⟨.bl k,H,I,rfl,q⟩
theorem ZwJ:OpR X (Zy6 .Lt) (rI0 λi j=>.bl (decide (i<j))):=ZsR λ_ _ _ _ _ _ _ q=>lt_int q
theorem ZwD:OpR X (Zy6 .LtE) (rI0 λi j=>.bl (decide (i<=j))):=ZsR λ_ _ _ _ _ _ _ q=>le_int q
theorem ZwO:OpR X (Zy6 .Gt) (rI0 λi j=>.bl (decide (j<i))):=ZsR λ_ _ _ _ _ _ _ q=>gt_int q
theorem ZvT:OpR X (Zy6 .Is) (λx y H Q=>y=.non/\Q (.bl (decide (x=.non))) H):=by
 intro pins s σ H x y v u Q I rx ry h;obtain⟨rfl,q⟩:=h;cases ry;refine is_none_gen (Zr5 I q ?_);cases x<;>first
  | (cases rx; rfl)
  | (obtain⟨t,rfl⟩:=rx; rfl)
theorem ZuT:OpR X (Zy6 .IsNot) (λx y H Q=>y=.non/\Q (.bl (!decide (x=.non))) H):=by
 intro pins s σ H x y v u Q I rx ry h;obtain⟨rfl,q⟩:=h;cases ry;refine isnot_none_gen (Zr5 I q ?_);cases x<;>first
  | (cases rx; rfl)
  | (obtain⟨t,rfl⟩:=rx; rfl)
theorem Zp2{op:CmpOp}{r:R2}(ho:OpR X (Zy6 op) r)(ha:PE X a ta)(hb:PE X b tb)(hm:Zy7 op b=false):PE X (.Compare a [op] [b] pos) (tOp r ta tb):=by intro pins s σ H Q I h;exact wpAny_Compare1 (Zty ha hb I h λv u s2 x y H2 I2 rx ry q=>ho pins s2 σ H2 x y v u Q I2 rx ry q) hm
def Zw2(t:TE):TT:=λσ H Q=>t σ H λx H'=>∃k,x=.bl k/\Q k H'
theorem Zlq{op:CmpOp}{r:R2}(ho:OpR X (Zy6 op) r)(ha:PE X a ta)(hb:PE X b tb)(hm:Zy7 op b=false):PT X (.Compare a [op] [b] pos) (Zw2 (tOp r ta tb)):=by intro pins s σ H Q I h;refine wpAny_isTrue_Compare1 (thn (ha pins s σ H _ I h) λv s1 ⟨x,H1,I1,r1,q1⟩=>thn (hb pins s1 σ H1 _ I1 q1) λu s2 ⟨y,H2,I2,r2,q2⟩=>thn (ho pins s2 σ H2 x y v u _ I2 r1 r2 q2) λc s3 ⟨z,H3,I3,r3,k,e,q3⟩=>?_) hm;subst e;cases r3;exact ZzX ⟨H3,I3,q3⟩
def Zwn(r r':R2)(ta tb tc:TE):TE:=λσ H Q=>ta σ H λx H1=>tb σ H1 λy H2=>r x y H2 λz H3=>∃k,z=.bl k /\
 (if k=true then tc σ H3 λw' H4=>r' y w' H4 Q else Q (.bl false) H3)
theorem ZoJ{op op':CmpOp}{r r':R2}(ho:OpR X (Zy6 op) r)(ho':OpR X (Zy6 op') r')(ha:PE X a ta)(hb:PE X b tb)(hc:PE X c tc)
  (hm:lastMarks [op,op'] [b,c]=false:=by with_unfolding_all rfl):PE X (.Compare a [op,op'] [b,c] pos) (Zwn r r' ta tb tc):=by
 intro pins s σ H Q I h;refine Compare_chain (thn (ha pins s σ H _ I h) λv s1 ⟨x,H1,I1,r1,q1⟩=>chain_link (thn (hb pins s1 σ H1 _ I1 q1) λu s2 ⟨y,H2,I2,r2,q2⟩=>thn (ho pins s2 σ H2 x y v u _ I2 r1 r2 q2) λd s3 ⟨z,H3,I3,r3,k,e,q3⟩=>?_)) hm;subst e;cases r3;refine ZzX ?_;cases k with
 | false=>exact ite_ff ⟨.bl false,H3,I3,rfl,q3⟩
 | true=>exact ite_tt (chain_last (thn (hc pins s3 σ H3 _ I3 q3) λw' s4 ⟨z',H4,I4,r4,q4⟩=>ho' pins s4 σ H4 y z' u w' Q I4 r2 r4 q4))
theorem ZiM:(sizeLine:Nat)<2 ^ 63:=by rw[Zzo]; decide
theorem vals1{x:V}{us:List Value}(r:Vals [x] us):∃u,us=[u]/\RelV x u:=by
 cases r with
 | cons r1 r2=>cases r2; exact⟨_,rfl,r1⟩
theorem vals2{x y:V}{us:List Value}(r:Vals [x,y] us):∃u w',us=[u,w']/\RelV x u/\RelV y w':=by
 cases r with
 | cons r1 r2 =>
  cases r2 with
  | cons r3 r4=>cases r4; exact⟨_,_,rfl,r1,r3⟩
theorem Zsa(hc:X.calm=true):ZaZ X (.builtin "max") (λxs H Q=>∃i j,xs=[.int i,.int j]/\Q (.int (if j > i then j else i)) H):=by
 intro pins s σ H xs us Q I r h;obtain⟨i,j,rfl,q⟩:=h;obtain⟨u,w',rfl,⟨t,rfl⟩,⟨t',rfl⟩⟩:=vals2 r;refine max_two_ints (I.ok.hd hc) λh' tk k=>⟨_,H,I.kept k,?_,q⟩
 by_cases hj:j > i
 ·rw[if_pos hj,if_pos hj]; exact⟨_,rfl⟩
 ·rw[if_neg hj,if_neg hj]; exact⟨_,rfl⟩
theorem Zr8(hc:X.calm=true):ZaZ X (.builtin "min") (λxs H Q=>∃i j,xs=[.int i,.int j]/\Q (.int (if j<i then j else i)) H):=by
 intro pins s σ H xs us Q I r h;obtain⟨i,j,rfl,q⟩:=h;obtain⟨u,w',rfl,⟨t,rfl⟩,⟨t',rfl⟩⟩:=vals2 r;refine min_two_ints (I.ok.hd hc) λh' tk k=>⟨_,H,I.kept k,?_,q⟩
 by_cases hj:j<i
 ·rw[if_pos hj,if_pos hj]; exact⟨_,rfl⟩
 ·rw[if_neg hj,if_neg hj]; exact⟨_,rfl⟩
theorem ZlR:ZaZ X (.type "int") (λxs H Q=>(∃i,xs=[.int i]/\Q (.int i) H)\/∃k,xs=[.bl k]/\Q (.int (if k then 1 else 0)) H):=by
 intro pins s σ H xs us Q I r h;rcases h with⟨i,rfl,q⟩ | ⟨k,rfl,q⟩
 ·obtain⟨u,rfl,t,rfl⟩:=vals1 r
  exact call_int_int ⟨.int i,H,I,⟨_,rfl⟩,q⟩
 ·obtain⟨u,rfl,r1⟩:=vals1 r
  cases r1;exact call_int_bool ⟨.int (if k then 1 else 0),H,I.tok _,⟨_,rfl⟩,q⟩
end
end L2
namespace L2
open PySem PySem.Spec PyProof.Rows
theorem ZgT.some_of{v:V}{o:Option Value}(r:ZgT (some v) o):∃u,o=some u/\RelV v u:=by
 cases o with
 | none=>exact(show False from r).elim
 | some u=>exact⟨u,rfl,r⟩
end L2
namespace L2
open PySem PySem.Spec PyProof.Rows
structure Zag(k:Nat)(A:Around):Prop where
 hd:A.handled=none
 dp:A.depth+3*k+5<recursionLimit
 un:A.units+16*k+200<cLine
theorem Zag.mono{j k:Nat}{A:Around}(r:Zag k A)(h:j<=k):Zag j A:=⟨r.hd,by have:=r.dp; omega,by have:=r.un; omega⟩
theorem Zag.deeper{k:Nat}{A:Around}(r:Zag (k+1) A)(env:Env):Zag k (A.deeper env) :=
 ⟨r.hd,by have:=r.dp; show A.depth+1+3*k+5<_; omega,by have:=r.un; show A.units+3+16*k+200<_; omega⟩
theorem Zag.depth{k:Nat}{A:Around}(r:Zag k A):A.depth<recursionLimit:=by have:=r.dp; omega
theorem Zag.units{k:Nat}{A:Around}(r:Zag k A):A.units+64<cLine:=by have:=r.un; omega
def ZxL:TA:=λ_ H Q=>Q [] H
def ZwT(ta:TE)(tr:TA):TA:=λσ H Q=>ta σ H λx H1=>tr σ H1 λxs H2=>Q (x::xs) H2
section
variable{X:Cx}{e:Expr}{es:List Expr}{te:TE}{t:TA}{pos:Pos}
theorem ZbK:PA X [] ZxL:=λ_ _ _ _ H Q I h=>Calls.spliced_nil ⟨[],H,I,.nil,h⟩
theorem Zak(ha:PE X e te)(hr:PA X es t)(hs:Zyc (e::es) X.env=(false,eval e X.env)::Zyc es X.env:=by rfl):PA X (e::es) (ZwT te t):=by intro pos pins s σ H Q I h;rw[hs];show wpAny _ _ (spliced ((false,eval e X.env)::backTo pos (Zyc es X.env))) _ _ s;refine ZBF (thn (ha pins s σ H _ I h) λu s1 ⟨x,H1,I1,r1,q1⟩=>?_);exact thn (hr pos pins s1 σ H1 _ I1 q1) λus s2 ⟨xs,H2,I2,r2,q2⟩=>⟨x::xs,H2,I2,.cons r1 r2,q2⟩
def Zxr(t:TA):TE:=λσ H Q=>t σ H λxs H1=>xs.length<=sizeLine/\∀p,H1 p=none->Q (.ref p) (upd H1 p (.tup xs))
def ZxH(t:TA):TE:=λσ H Q=>t σ H λxs H1=>xs.length<=sizeLine/\∀p,H1 p=none->Q (.ref p) (upd H1 p (.lst xs))
theorem Zwm{x1}(h:PA X es t):PE X (.Tuple es x1 pos) (Zxr t):=by intro pins s σ H Q I hq;refine wpAny_Tuple_spliced (thn (h pos pins s σ H _ I hq) λus s1 ⟨xs,H1,I1,r,z,q⟩=>⟨by rw[<-r.length]; exact z,?_⟩);have hf:H1 s1.heap.objs.size=none:=I1.hok.fresh (Zyb _);refine⟨.ref s1.heap.objs.size,upd H1 s1.heap.objs.size (.tup xs),I1.laid (t':=s1.toks) (λb u e=>Zx7 _ e) (Zyb _) ?_,rfl,q _ hf⟩;exact⟨z,us,r,⟨_,Zyi _ rfl,rfl,_,rfl⟩⟩
theorem ZvJ(h:PA X es t):PE X (.List es pos) (ZxH t):=by intro pins s σ H Q I hq;refine wpAny_List_spliced (thn (h pos pins s σ H _ I hq) λus s1 ⟨xs,H1,I1,r,z,q⟩=>⟨by rw[<-r.length]; exact z,?_⟩);have hf:H1 s1.heap.objs.size=none:=I1.hok.fresh (Zyb _);refine⟨.ref s1.heap.objs.size,upd H1 s1.heap.objs.size (.lst xs),I1.laid (t':=s1.toks) (λb u e=>Zx7 _ e) (Zyb _) ?_,rfl,q _ hf⟩;exact⟨z,us,0,r,Zyi _ rfl⟩
end
abbrev Sp:=List V->Hp->VK->XK->Prop
abbrev CXT:=List Env->Hp->Shared->XK->Value->Shared->Prop
structure ZeO(P:Program)(w:World)(K:Zx0)(mg:Str->Option Value)(base:Heap)(A:Around)(outer:List Env)(s:Shared)(H:Hp):Prop where
 frames:A.frames=some outer
 mod:Mod K mg base
 bs:∀b o,base.get? b=some o->s.heap.get? b=some o/\H b=none
 bsz:base.objs.size<=s.heap.objs.size
 funs:s.heap.FunFrames base outer
 frf:∀b∈frs outer,H b=none
 hok:HOk P w H s.heap
 bare:AllBare s.gens
def CE(outer:List Env)(P:Program)(w:World)(H:Hp)(s:Shared)(Q:VK)(u:Value)(s':Shared):Prop :=
 ∃v H',s'.os=s.os/\AllBare s'.gens/\Un (frs outer) [] H H' s.heap s'.heap/\HOk P w H' s'.heap/\RelV v u/\Q v H'
def CR(CX:CXT)(outer:List Env)(P:Program)(w:World)(H:Hp)(s:Shared)(Q:VK)(E:XK)(r:Result)(s':Shared):Prop :=
 match r with
 | .ok (.ret u)=>CE outer P w H s Q u s'
 | .ok _=>False
 | .error e=>CX outer H s E e s'
structure Zds(P:Program)(w:World)(K:Zx0)(mg:Str->Option Value)(base:Heap)(CX:CXT)(k:Nat)(f:Addr)(fd:FuncData)(ps:List Str)(sp:Sp):Prop where
 len:∀vs H Q E,sp vs H Q E->vs.length=ps.length
 run:∀(A:Around) (outer:List Env) (s:Shared) (H:Hp) (args:Args) (us:List Value) (vs:List V) (Q:VK) (E:XK),Zag k A->ZeO P w K mg base A outer s H->BindsTo s fd args (ps.zip us)->Vals vs us->sp vs H Q E ->
  codeAny (model P w) A (.call (.ref f) args) (CR CX outer P w H s Q E) s
theorem Zds.mono{P:Program}{w:World}{K:Zx0}{mg:Str->Option Value}{base:Heap}{CX:CXT}{j k:Nat}{f:Addr}{fd:FuncData}{ps:List Str}{sp:Sp}(F:Zds P w K mg base CX j f fd ps sp)(h:j<=k) :
  Zds P w K mg base CX k f fd ps sp:=⟨F.len,λA outer s H args us vs Q E hr=>F.run A outer s H args us vs Q E (hr.mono h)⟩
section
variable{X:Cx}{pins:List (Addr × Obj)}{σ:St}{H:Hp}{s s':Shared}
theorem Inv.env0(I:Inv X pins σ H s):ZeO X.prog X.w X.K X.mg X.base X.A X.stack s H :=
 ⟨I.ok.frames,I.ok.mod,I.bs,ZyO I.ok.bsz I.sz,I.stack,I.stkFree,I.hok,I.bare⟩
theorem Inv.after{Q:VK}{u:Value}(I:Inv X pins σ H s)(h:CE X.stack X.prog X.w H s Q u s'):EP X pins σ Q u s':=by obtain⟨v,H',os,bare,un,hok,r,q⟩:=h;obtain⟨hh,g,d,t,os'⟩:=s';obtain rfl:os'=s.os:=os;exact⟨v,H',I.call (h':=hh) (g':=g) (d':=d) (t':=t) (ch:=[]) un hok bare (λb z=>absurd z (by simp)),r,q⟩
end
def ZwG(sp:Sp)(dvs:List V)(E:XK)(t:TA):TE:=λσ H Q=>t σ H λvs H1=>sp (vs++dvs) H1 Q E
def Binds(K:Zx0)(fd:FuncData)(ps:List Str)(ds:List Value):Prop :=
 ∀(s:Shared) (us:List Value),K.In s.heap->(us++ds).length=ps.length->BindsTo s fd ⟨us,[]⟩ (ps.zip (us++ds))
theorem Binds.all{K:Zx0}{fd:FuncData}{ps:List Str}(h:∀us:List Value,us.length=ps.length->bindArgs fd ⟨us,[]⟩=pure (ps.zip us)):Binds K fd ps []:=λs us _ hl=>by rw[ZyJ]at hl ⊢;exact .of_eq (h us hl)
def Passes(CX:CXT)(X:Cx)(E:XK):Prop:=∀(pins:List (Addr × Obj)) (σ:St) (H:Hp) (s:Shared) (e:Value) (s':Shared),Inv X pins σ H s->CX X.stack H s E e s'->X.xe e s'
section
variable{X:Cx}{CX:CXT}{k:Nat}{f C:Addr}{fd:FuncData}{ps:List Str}{sp:Sp}{dvs:List V}{ds:List Value}{E:XK}{x m:Str}{p pos apos:Pos}{e o:Expr}{es:List Expr}{ta:TE}{t:TA}
theorem Zvx{pins:List (Addr × Obj)}{σ:St}{H:Hp}{s:Shared}{Q:VK}{us:List Value}{vs:List V}(F:Zds X.prog X.w X.K X.mg X.base CX k f fd ps sp)(hr:Zag k X.A)(hb:Binds X.K fd ps ds)(hd:Vals dvs ds)(hx:Passes CX X E)
  (I:Inv X pins σ H s) (r:Vals vs us) (h:sp (vs++dvs) H Q E):wpAny (model X.prog X.w) X.A (call (.ref f) us) (EP X pins σ Q) X.xe s:=by
 have r2:Vals (vs++dvs) (us++ds):=r.append hd;have hl:(us++ds).length=ps.length:=by rw[<-r2.length]; exact F.len _ _ _ _ h
 refine wpAny_call (Zz4 (F.run X.A X.stack s H ⟨us,[]⟩ (us++ds) (vs++dvs) Q E hr I.env0 (hb s us I.kIn hl) r2 h) λr s' hq=>?_);cases r with
 | error e=>exact hx pins σ H s e s' I hq
 | ok fl =>
  cases fl with
  | ret u=>exact I.after hq
  | next=>exact Zy3 hq
  | brk=>exact Zy3 hq
  | cont=>exact Zy3 hq
theorem Zjc(F:Zds X.prog X.w X.K X.mg X.base CX k f fd ps sp)(hr:Zag k X.A)(hg:Gl X x)(hm:X.mg x=some (.ref f))(hk:Zzp X.K (.ref f)=true)(hb:Binds X.K fd ps ds)(hd:Vals dvs ds)(hx:Passes CX X E)
  (ha:PA X (e::es) t) (hdb:(x==("__debug__":Str))=false:=by decide) (he:Zyc (e::es) X.env=(false,eval e X.env)::Zyc es X.env:=by rfl) (hpl:(backTo pos (Zyc es X.env)).any (·.1)=false:=by rfl) :
  PE X (.Call (.Name x p) (e::es) [] pos) (ZwG sp dvs E t):=by
 intro pins s σ H Q I h;refine Zz5 (Zlz I hg hm ?_ hdb);refine ZCM (h₀:=X.base) I.ok.mod.kin hk (thn (ha pos pins s σ H _ I h) λus s1 ⟨vs,H1,I1,r,q⟩=>⟨I1.kIn,?_⟩) he hpl;exact Zvx F hr hb hd hx I1 r q
end
structure Zw(N P:List Str)(sc:Scope):Prop where
 kind:sc.kind=.function
 co:sc.isCoroutine=false
 gen:sc.isGenerator=false
 nd:N.Nodup
 pre:N.take P.length=P
 par:∀x∈P,sc.names.lookup x=some .local\/sc.names.lookup x=some .cell
 nofree:∀y∈sc.names,y.2≠.free
theorem ZlN{kindOf:Str->Option NameKind}{x:Str}:∀{binds:List (Str × Value)} {m:Str->Option Value},(∀v,(x,v) ∉ binds)->bindL kindOf binds m x=m x
 | [],_,_=>rfl
 | (n,v)::r,m,h=>by
  unfold bindL;rw[ZlN λw hw=>h w (Zx4 _ hw)];split
  ·have:x≠n:=by rintro rfl; exact h v Zx3
   simp[this]
  ·rfl
theorem ZlW{kindOf:Str->Option NameKind}{x:Str}:∀{binds:List (Str × Value)} {m:Str->Option Value},(∀v,(x,v) ∉ binds)->bindC kindOf binds m x=m x
 | [],_,_=>rfl
 | (n,v)::r,m,h=>by
  unfold bindC;rw[ZlW λw hw=>h w (Zx4 _ hw)];split
  ·rfl
  ·have:x≠n:=by rintro rfl; exact h v Zx3
   simp[this]
theorem Zl3{kindOf:Str->Option NameKind}{x:Str}{v:Value}:∀{P:List Str} {vs:List Value} {i:Nat} {m:Str->Option Value},P.Nodup->P[i]?=some x->vs[i]?=some v->kindOf x=some .local ->
  bindL kindOf (P.zip vs) m x=some v
 | [],_,_,_,_,h,_,_=>by simp at h
 | _::_,[],_,_,_,_,h,_=>by simp at h
 | p::P,w::vs,0,m,nd,h1,h2,hk=>by simp at h1 h2; subst h1; subst h2;show bindL kindOf ((p,w)::P.zip vs) m p=_;unfold bindL;rw[ZlN λv hv=>(ZyV.mp nd).1 (ZCg hv).1,if_pos hk];simp
 | p::P,w::vs,i+1,m,nd,h1,h2,hk=>by show bindL kindOf ((p,w)::P.zip vs) m x=_;unfold bindL;exact Zl3 (i:=i) (ZyV.mp nd).2 (by simpa using h1) (by simpa using h2) hk
theorem ZlG{kindOf:Str->Option NameKind}{x:Str}{v:Value}:∀{P:List Str} {vs:List Value} {i:Nat} {m:Str->Option Value},P.Nodup->P[i]?=some x->vs[i]?=some v->kindOf x≠some .local ->
  bindC kindOf (P.zip vs) m x=some v
 | [],_,_,_,_,h,_,_=>by simp at h
 | _::_,[],_,_,_,_,h,_=>by simp at h
 | p::P,w::vs,0,m,nd,h1,h2,hk=>by simp at h1 h2; subst h1; subst h2;show bindC kindOf ((p,w)::P.zip vs) m p=_;unfold bindC;rw[ZlW λv hv=>(ZyV.mp nd).1 (ZCg hv).1,if_neg hk];simp
 | p::P,w::vs,i+1,m,nd,h1,h2,hk=>by show bindC kindOf ((p,w)::P.zip vs) m x=_;unfold bindC;exact ZlG (i:=i) (ZyV.mp nd).2 (by simpa using h1) (by simpa using h2) hk
def start(N:List Str)(vs:List V):St:=vs.map some++ZyA (N.length-vs.length) none
def Zga(CX:CXT)(P:Program)(w:World)(K:Zx0)(mg:Str->Option Value)(base:Heap)(N:List Str)(qual:Str)(scope:Scope)(f:Addr)(cd:Value)(A:Around)(outer:List Env)(s:Shared)(H:Hp)(E:XK):Cx where
 prog:=P
 w:=w
 K:=K
 mg:=mg
 base:=base
 A:=A.deeper (envOfC qual scope s.heap.objs.size f cd)
 N:=N
 s₀:=s
 H₀:=H
 env:=envOfC qual scope s.heap.objs.size f cd
 outer:=outer
 stack:=envOfC qual scope s.heap.objs.size f cd::outer
 ex:=[]
 calm:=true
 fn:=λ_=>true
 pn:=[]
 xe:=λe s'=>wpAny (model P w) (A.deeper (envOfC qual scope s.heap.objs.size f cd)) (leaving (envOfC qual scope s.heap.objs.size f cd) e) (λ_ s''=>CX outer H s E e s'') (λe' s''=>CX outer H s E e' s'') s'
theorem Zoc{sc:Scope}{n:Nat}{x:Str}(h:sc.names.lookup x=some .cell):∃c,(cellsFrom n sc.names []).lookup x=some c:=by have q:=ZCo sc.names n [] (.inl h);exact ZyL.mp q
theorem ZrL{CX:CXT}{P:Program}{w:World}{K:Zx0}{mg:Str->Option Value}{base:Heap}{N ps:List Str}{qual:Str}{scope:Scope}{f:Addr}{cd:Value}{A:Around}{outer:List Env}{s s1:Shared}{H:Hp}{E:XK}{us:List Value}{vs:List V}
  (S:Zw N ps scope) (hd:A.handled=none) (e0:ZeO P w K mg base A outer s H) (hl:vs.length=ps.length) (r:Vals vs us)
  (x:InCallC s s.heap.objs.size (bindL (envOfC qual scope s.heap.objs.size f cd).kindOf (ps.zip us) λ_=>none) (cellsFrom (s.heap.objs.size+1) scope.names []) (bindC (envOfC qual scope s.heap.objs.size f cd).kindOf (ps.zip us) λ_=>none) s1) :
  Inv (Zga CX P w K mg base N qual scope f cd A outer s H E) [] (start N vs) H s1:=by
 have hpl:ps.length<=N.length:=by have:=congrArg ZyN S.pre; rw[ZzB]at this; omega
 obtain⟨h1,tk,rfl,hk⟩:=x.done;have noA:∀b:Addr,b ∉ (Zga CX P w K mg base N qual scope f cd A outer s H E).ex:=λb z=>absurd (show b∈([]:List Addr) from z) (by simp);refine⟨⟨e0.mod,S.kind,rfl,rfl,Zyb _,λy z c h1 h2=>?_,λy hy=>?_,λy c _ h=>?_,λ_=>hd,ZCC e0.frames,.inr ⟨rfl,rfl⟩,λb z=>absurd z (noA b),e0.bs,e0.bsz,λb _ _=>noA b,λb z=>absurd z (noA b),e0.funs,e0.frf⟩,
  rfl,e0.bare,Un.kept hk,⟨_,x.toInCall.ns,λi y v h1 h2 h3=>?_⟩,λy c h=>⟨_,x.cell y c h⟩,e0.hok.fresh (Zyb _),λy c h=>?_,λp hp=>absurd (show p∈([]:List (Addr × Obj)) from hp) (by simp),e0.hok.kept hk,?_⟩
 ·exact name_of_addr x.apart (Zzw h1) (Zzw h2)
 ·have hy:scope.names.lookup y=some .cell\/scope.names.lookup y=some .free:=hy
  rcases hy with hy | hy
  ·exact Zoc hy
  ·exact absurd rfl (S.nofree _ (Zzw hy))
 ·exact ZzS (x.above y c (Zzw h))
 ·have hi:i<vs.length:=by
   unfold start at h2
   by_cases hi:i<vs.length
   ·exact hi
   ·rw[ZyM (by simpa using hi)]at h2
    rw[ZAq]at h2;split at h2<;>cases h2
  have ha:vs[i]?=some v:=by
   unfold start at h2;rw[ZyB (by simpa using hi),Zyr]at h2;cases e:vs[i]? with
   | none=>rw[e]at h2; cases h2
   | some a=>rw[e]at h2; cases h2; rfl
  obtain⟨u,hu,rv⟩:=r.get ha;have hp:ps[i]?=some y:=by rw[<-S.pre,ZB7 (by omega)]; exact h1
  have ndP:ps.Nodup:=by rw[<-S.pre]; exact S.nd.sublist (List.take_sublist _ _)
  refine⟨u,rv,?_⟩;rcases S.par y (Zyu hp)with k | k
  ·exact .inl ⟨k,Zl3 ndP hp hu k⟩
  ·obtain⟨c,e⟩:=Zoc (n:=s.heap.objs.size+1) k
   refine .inr ⟨.inl k,c,e,?_⟩;have q:=x.cell y c e;rw[ZlG ndP hp hu (by show scope.names.lookup y≠_; rw[k]; decide)]at q;exact q
 ·exact e0.hok.fresh (ZzS (x.above y c (Zzw h)))
 ·unfold start
  show _=N.length;rw[Zyl,Zx1,ZyP];omega
theorem Zt8{CX:CXT}{P:Program}{w:World}{K:Zx0}{mg:Str->Option Value}{base:Heap}{k:Nat}{f:Addr}{name qual:Str}{params:Arguments}{body:List Stmt}{scope:Scope}{dV kV doc pm cdv ct oc:Value}{an od:Option Addr}
  {osl:Array (Option Value)} {N ps:List Str} {sp:Sp} (lk:K.lookup f=some ⟨oc,od,.func (Zzj name qual params body scope dV kV doc pm an cdv ct),osl⟩) (hcd:Zz1 K cdv qual=true) (S:Zw N ps scope)
  (len:∀vs H Q E,sp vs H Q E->vs.length=ps.length)
  (hbody:∀(A:Around) (outer:List Env) (s:Shared) (H:Hp) (vs:List V) (Q:VK) (E:XK),Zag k (A.deeper (envOfC qual scope s.heap.objs.size f cdv))->sp vs H Q E ->
   ∃t,PSs (Zga CX P w K mg base N qual scope f cdv A outer s H E) body t/\t { nx:=λ_ H'=>Q .non H',rt:=Q } (start N vs) H) :
  Zds P w K mg base CX (k+1) f (Zzj name qual params body scope dV kV doc pm an cdv ct) ps sp:=by
 refine⟨len,λA outer s H args us vs Q E hr e0 hb r hsp=>?_⟩;have hl:=len _ _ _ _ hsp;have KX:K.In s.heap:=e0.mod.kin.keeps λb o e=>(e0.bs b o e).1;have lim:s.heap.NoLimit:=e0.mod.nolimit.keeps λb o e=>(e0.bs b o e).1;have hkind:∀y∈ps.zip us,scope.names.lookup y.1=some .local\/(scope.names.lookup y.1=some .cell/\((cellsFrom (s.heap.objs.size+1) scope.names []).lookup y.1).isSome=true):=λ⟨n,v⟩ hy=>by
  rcases S.par n (ZCg hy).1 with q | q
  ·exact .inl q
  ·exact .inr ⟨q,ZCo _ _ _ (.inl q)⟩
 refine codeAny_call_function hr.depth (KX _ _ lk) rfl S.co S.gen rfl (PySem.W.codeRec_of KX hcd) (hb _ _ _ _ ?_);refine wpAny_newFunctionEnv_cells S.kind hkind λenv he s1 x=>?_;subst he;refine⟨lim.keeps x.toInCall.keep,codeAny_func ?_⟩;obtain⟨t,ht,hq⟩:=hbody A outer s H vs Q E (hr.deeper _) hsp;have I:Inv (Zga CX P w K mg base N qual scope f cdv A outer s H E) [] (start N vs) H s1:=ZrL S hr.hd e0 hl r x;refine Zzg (ht [] s1 (start N vs) H _ I hq) (λfl s' hs=>?_) λe s' hs=>hs;have fin:∀{σ':St} {H':Hp} {v:V} {u:Value},Inv (Zga CX P w K mg base N qual scope f cdv A outer s H E) [] σ' H' s'->RelV v u->Q v H'->CE outer P w H s Q u s' :=
  λ{σ' H' v u} J rv q=>⟨v,H',J.os,J.bare,J.base,J.hok,rv,q⟩
 cases fl with
 | ret u=>obtain⟨v,σ',H',J,rv,q⟩:=hs;exact fin J rv q
 | next=>obtain⟨σ',H',J,q⟩:=hs;exact fin (v:=V.non) (u:=Zy2) J rfl q
 | brk=>obtain⟨_,_,_,q⟩:=hs;exact Zy3 q
 | cont=>obtain⟨_,_,_,q⟩:=hs;exact Zy3 q
end L2
namespace L2
open PySem PySem.Spec PyProof.Rows
section
variable{X:Cx}{x:Str}{p pos:Pos}{e:Expr}{es:List Expr}{t:TA}{id T:String}{r:List V->Hp->VK->Prop}
def tCB(r:List V->Hp->VK->Prop)(t:TA):TE:=λσ H Q=>t σ H λvs H1=>r vs H1 Q
theorem Zdr(hc:ZaZ X (.builtin id) r)(hg:Gl X x)(hm:X.mg x=none)(hv:ZyX x=some (.builtin id))(ha:PA X (e::es) t)(hn:x ≠ "__name__":=by decide)(hdb:(x==("__debug__":Str))=false:=by decide)
  (he:Zyc (e::es) X.env=(false,eval e X.env)::Zyc es X.env:=by rfl) (hpl:(backTo pos (Zyc es X.env)).any (·.1)=false:=by rfl):PE X (.Call (.Name x p) (e::es) [] pos) (tCB r t):=by
 intro pins s σ H Q I h;refine Zz5 (Zhk I hg hm hv ?_ hn hdb);exact PyProof.Rows.callWith_builtin1 (thn (ha pos pins s σ H _ I h) λus s1 ⟨vs,H1,I1,r1,q1⟩=>hc pins s1 σ H1 vs us Q I1 r1 q1) he hpl
theorem Zdu(hc:ZaZ X (.type T) r)(hg:Gl X x)(hm:X.mg x=none)(hv:ZyX x=some (.type T))(ha:PA X (e::es) t)(hn:x ≠ "__name__":=by decide)(hdb:(x==("__debug__":Str))=false:=by decide)
  (he:Zyc (e::es) X.env=(false,eval e X.env)::Zyc es X.env:=by rfl) (hpl:(backTo pos (Zyc es X.env)).any (·.1)=false:=by rfl):PE X (.Call (.Name x p) (e::es) [] pos) (tCB r t):=by
 intro pins s σ H Q I h;refine Zz5 (Zhk I hg hm hv ?_ hn hdb);exact ZAE (thn (ha pos pins s σ H _ I h) λus s1 ⟨vs,H1,I1,r1,q1⟩=>hc pins s1 σ H1 vs us Q I1 r1 q1) he hpl
end
end L2
namespace HT
set_option maxHeartbeats 8000000
open PySem PyProof.Rows
section
open PySem.SeqAt
open PySem.AutoSeq1 (wpAny_loadPart')
open PySem.MeetsSeq PySem.MeetsSeq2 PySem.MeetsSeq3
end
section
variable{prog:Program}{w:World}{A:Around}{E:Value->Shared->Prop}{s:Shared}
def sIx(n d:Nat):Option Int->Nat
 | none=>d
 | some v=>if v<0 then(v+(n:Int)).toNat else min v.toNat n
end
end HT
namespace L2
open PySem PySem.Spec PyProof.Rows
abbrev TO:=St->Hp->(Option Int->Hp->Prop)->Prop
def PO(X:Cx)(e:Option Expr)(t:TO):Prop :=
 ∀(pins:List (Addr × Obj)) (s:Shared) (σ:St) (H:Hp) (Q:Option Int->Hp->Prop),Inv X pins σ H s->t σ H Q ->
  wpAny (model X.prog X.w) X.A (evalPart e X.env) (λu s'=>∃o H',Inv X pins σ H' s'/\IsPart u o/\Q o H') X.xe s
def ZuA:TO:=λ_ H Q=>Q none H
def ZwU(t:TE):TO:=λσ H Q=>t σ H λx H1=>∃i,x=.int i/\Q (some i) H1
section
variable{X:Cx}{e:Expr}{te:TE}{lo hi:Option Expr}{tl th:TO}{pos p2:Pos}
theorem Zuo:PO X none ZuA:=by intro pins s σ H Q I h;rw[evalPart_none];exact Zx5 ⟨none,H,I,.none,h⟩
theorem ZuP(h:PE X e te):PO X (some e) (ZwU te):=by intro pins s σ H Q I hw;rw[evalPart_some];refine thn (h pins s σ H _ I hw) λu s1 ⟨x,H1,I1,r1,q1⟩=>?_;obtain⟨i,rfl,q⟩:=q1;obtain⟨t,rfl⟩:=r1;exact⟨some i,H1,I1,.int i t,q⟩
def SlR(X:Cx)(r:V->Option Int->Option Int->Hp->VK->Prop):Prop :=
 ∀(pins:List (Addr × Obj)) (s:Shared) (σ:St) (H:Hp) (x:V) (v vl vu:Value) (lo hi:Option Int) (sl:Addr) (Q:VK),Inv X pins σ H s->RelV x v->s.heap.IsSliceOf sl vl vu .none->IsPart vl lo->IsPart vu hi->r x lo hi H Q ->
  ∃T id,typeLookup (.type T) "__getitem__" = pure (some (.builtin id))/\s.TypeIs v T/\wpAny (model X.prog X.w) X.A (getItem v (.ref sl)) (EP X pins σ Q) X.xe s
def tSl(r:V->Option Int->Option Int->Hp->VK->Prop)(te:TE)(tl th:TO):TE:=λσ H Q=>te σ H λx H1=>tl σ H1 λl H2=>th σ H2 λu H3=>r x l u H3 Q
theorem Ztf{r:V->Option Int->Option Int->Hp->VK->Prop}(hr:SlR X r)(he:PE X e te)(hl:PO X lo tl)(hu:PO X hi th):PE X (.Subscript e (.Slice lo hi none p2) pos) (tSl r te tl th):=by intro pins s σ H Q I h;refine Subscript_ (thn (he pins s σ H _ I h) λv s1 ⟨x,H1,I1,r1,q1⟩=>?_);refine wpAny_Slice (thn (hl pins s1 σ H1 _ I1 q1) λvl s2 ⟨l,H2,I2,pl,q2⟩=>thn (hu pins s2 σ H2 _ I2 q2) λvu s3 ⟨u,H3,I3,pu,q3⟩=>?_);rw[evalPart_none];refine Zx5 ?_;have I4:Inv X pins σ H3 { s3 with heap:=s3.heap.push { cls:=.type "slice",data:=.fields #[vl,vu,.none] } }:=I3.kept (t':=s3.toks) λb ob q=>Zx7 _ q;obtain⟨T,id,hT,ht,hg⟩:=hr pins { s3 with heap:=s3.heap.push { cls:=.type "slice",data:=.fields #[vl,vu,.none] } } σ H3 x v vl vu l u s3.heap.objs.size Q I4 r1 (Heap.IsSliceOf.new ..) pl pu q3;show wpAny (model X.prog X.w) X.A (subscriptTail e (.Slice lo hi none p2) v (.ref s3.heap.objs.size)) (EP X pins σ Q) X.xe { s3 with heap:=s3.heap.push { cls:=.type "slice",data:=.fields #[vl,vu,.none] } };exact tail_any (ops:=[.ref s3.heap.objs.size,v]) ht hT hg (by with_unfolding_all rfl)
def Zoy(xs:List V)(lo hi:Option Int):List V:=(xs.drop (HT.sIx xs.length 0 lo)).take (HT.sIx xs.length xs.length hi-HT.sIx xs.length 0 lo)
theorem ZpF(xs:List V)(lo hi:Option Int):(Zoy xs lo hi).length<=xs.length:=by unfold Zoy;rw[ZzB,ZAF];omega
end
end L2
namespace L2
open PySem PySem.Spec PyProof.Rows
def ixN(n:Nat)(i:Int):Option Nat:=if 0<=i then(if i<n then some i.toNat else none)else if -(n:Int)<=i then some (i+n).toNat else none
def atI{α:Type}(xs:List α)(i:Int):Option α:=(ixN xs.length i).bind λj=>xs[j]?
theorem ZpJ{n:Nat}{i:Int}{j:Nat}(h:ixN n i=some j):seqIndex? i n=some j/\j<n/\-(n:Int)<=i/\i<n:=by
 unfold ixN at h
 by_cases h0:0<=i
 ·rw[if_pos h0]at h
  by_cases h1:i<n
  ·rw[if_pos h1]at h
   have e:i.toNat=j:=ZyU h;exact⟨by rw[seqIndex_of h0 h1,e],by omega,by omega,h1⟩
  ·rw[if_neg h1]at h; cases h
 ·rw[if_neg h0]at h
  by_cases h1:-(n:Int)<=i
  ·rw[if_pos h1]at h
   have e:(i+n).toNat=j:=ZyU h;exact⟨by rw[seqIndex_neg (by omega) h1,e],by omega,h1,by omega⟩
  ·rw[if_neg h1]at h; cases h
theorem Zll{α:Type}{xs:List α}{i:Int}{v:α}(h:atI xs i=some v):∃j,seqIndex? i xs.length=some j/\xs[j]?=some v/\j<xs.length/\-(xs.length:Int)<=i/\i<xs.length:=by
 unfold atI at h;cases e:ixN xs.length i with
 | none=>rw[e]at h; cases h
 | some j=>rw[e]at h;obtain⟨h1,h2,h3,h4⟩:=ZpJ e;exact⟨j,h1,h,h2,h3,h4⟩
def ZpR(b:Expr):Prop:=∀o i,ZCp b false o i=operate [o,i] (getItem o i)
def IxR(X:Cx)(r:R2):Prop :=
 ∀(value slice:Expr) (pins:List (Addr × Obj)) (s:Shared) (σ:St) (H:Hp) (x y:V) (v u:Value) (Q:VK),Inv X pins σ H s->RelV x v->RelV y u->r x y H Q ->
  ZCp slice false v u=operate [v,u] (getItem v u)->wpAny (model X.prog X.w) X.A (subscriptTail value slice v u) (EP X pins σ Q) X.xe s
def MtR(X:Cx)(id:String)(r:V->List V->Hp->VK->Prop):Prop :=
 ∀(pins:List (Addr × Obj)) (s:Shared) (σ:St) (H:Hp) (x:V) (xs:List V) (v:Value) (us:List Value) (Q:VK),Inv X pins σ H s->RelV x v->Vals xs us->r x xs H Q ->
  wpAny (model X.prog X.w) X.A (call (.builtin id) (v::us)) (EP X pins σ Q) X.xe s
section
variable{X:Cx}{a b:Expr}{ta tb:TE}{pos:Pos}
theorem IxR.or{r r':R2}(h:IxR X r)(h':IxR X r'):IxR X (λx y H Q=>r x y H Q\/r' x y H Q):=by
 intro value slice pins s σ H x y v u Q I rx ry q hs;rcases q with q | q
 ·exact h value slice pins s σ H x y v u Q I rx ry q hs
 ·exact h' value slice pins s σ H x y v u Q I rx ry q hs
theorem ZwR{r:R2}(hr:IxR X r)(ha:PE X a ta)(hb:PE X b tb)(hs:ZpR b):PE X (.Subscript a b pos) (tOp r ta tb):=by intro pins s σ H Q I h;exact Subscript_ (Zty ha hb I h λv u s2 x y H2 I2 rx ry q=>hr a b pins s2 σ H2 x y v u Q I2 rx ry q (hs _ _))
def Zvn(K:Zx0):R2:=λx y H Q=>∃p xs i v,x=.ref p/\y=.int i/\SqL K H p xs/\atI xs i=some v/\Q v H
def ZvC(K:Zx0):R2:=λx y H Q=>∃p xs i v,x=.ref p/\y=.int i/\SqT K H p xs/\atI xs i=some v/\Q v H
def Zwu:R2:=λx y H Q=>∃z i c,x=.str z/\y=.int i/\z.length<=sizeLine/\atI z.cps.toList i=some c/\Q (.str ⟨#[c]⟩) H
theorem Zu5:IxR X (Zvn X.K):=by
 intro value slice pins s σ H x y v u Q I rx ry h hs;obtain⟨p,xs,i,z,rfl,rfl,hq,he,q⟩:=h;cases rx;obtain⟨t,rfl⟩:=ry;obtain⟨its,r,pl,hz⟩:=I.list hq;obtain⟨j,h1,h2,h3,h4,h5⟩:=Zll he;obtain⟨w,ew,rw'⟩:=r.get h2;have hl:=r.length;have hn:=ZiM;have fin:EP X pins σ Q w s:=⟨z,H,I,rw',q⟩
 by_cases h0:0<=i
 ·have hj:i.toNat=j:=by
   rw[seqIndex_of h0 h5]at h1;exact ZyU h1
  exact item_listR pl.isList h0 (by omega) (by rw[hj]; simpa using ew) fin hs
 ·have hj:(i+(its.toArray.size:Int)).toNat=j:=by
   rw[seqIndex_neg (by omega) h4]at h1;rw[Zyj,<-hl];exact ZyU h1
  exact subscriptTail_builtinR (x:=w) pl.isList.typeIs slot_list_getitem.lookup
   (wpAny_getItem_list_neg (Q:=λr s'=>r=w/\EP X pins σ Q r s') pl.isList (by omega) (by rw[Zyj]<;>omega) (by omega) (by rw[hj]; simpa using ew) ⟨rfl,fin⟩) hs
theorem Zv0:IxR X (ZvC X.K):=by
 intro value slice pins s σ H x y v u Q I rx ry h hs;obtain⟨p,xs,i,z,rfl,rfl,hq,he,q⟩:=h;cases rx;obtain⟨t,rfl⟩:=ry;obtain⟨its,r,pl,hz⟩:=I.tuple hq;obtain⟨j,h1,h2,h3,h4,h5⟩:=Zll he;obtain⟨w,ew,rw'⟩:=r.get h2;have hl:=r.length;have hn:=ZiM;have fin:EP X pins σ Q w s:=⟨z,H,I,rw',q⟩;exact subscriptTail_builtinR (x:=w) pl.typeIs slot_tuple_getitem.lookup
  (getItem_tuple (j:=j) (Q:=λr s'=>r=w/\EP X pins σ Q r s') pl (by omega) (by omega) (by rw[Zyj,<-hl]; exact h1) (by simpa using ew) ⟨rfl,fin⟩) hs
theorem Zv9:IxR X Zwu:=by
 intro value slice pins s σ H x y v u Q I rx ry h hs;obtain⟨z,i,c,rfl,rfl,hz,he,q⟩:=h;obtain⟨t,rfl⟩:=rx;obtain⟨t',rfl⟩:=ry;obtain⟨j,h1,h2,h3,h4,h5⟩:=Zll he;have hl:z.cps.toList.length=z.length:=by simp[Str.length]
 rw[hl]at h1 h4 h5;have hn:=ZiM;exact tail_any (typeIs_str s z t) slot_str_getitem.lookup (getItem_str (c:=c) (by have e1:decide (i < -(2 ^ 63:Int))=false:=decide_eq_false (by omega);have e2:decide (i ≥ 2 ^ 63)=false:=decide_eq_false (by omega);rw[e1,e2,Bool.or_false]) (by rw[h1]; simpa using h2) ⟨.str ⟨#[c]⟩,H,I.tok _,⟨_,rfl⟩,q⟩) hs
def rIx(K:Zx0):R2:=λx y H Q=>Zvn K x y H Q\/ZvC K x y H Q\/Zwu x y H Q
theorem ZvI:IxR X (rIx X.K):=Zu5.or (Zv0.or Zv9)
theorem ZqJ(its:List Value)(n j:Nat)(u:Value):ZAV (·.setIfInBounds j u) { cls:=.type "list",data:=.seq its.toArray n }={ cls:=.type "list",data:=.seq (its.set j u).toArray n }:=by simp[ZAV]
theorem Inv.lst{pins:List (Addr × Obj)}{σ:St}{H:Hp}{s:Shared}{p:Addr}{xs:List V}(I:Inv X pins σ H s)(h:H p=some (.lst xs)) :
  ∃(its:List Value) (n:Nat),Vals xs its/\s.heap.get? p=some { cls:=.type "list",data:=.seq its.toArray n }/\xs.length<=sizeLine:=by
 obtain⟨z,its,n,r,e⟩:=I.hok p _ h;exact⟨its,n,r,e,z⟩
theorem Inv.lstUpd{pins:List (Addr × Obj)}{σ:St}{H:Hp}{s:Shared}{p:Addr}{xs ys:List V}{its its':List Value}{n n':Nat}{f:Obj->Obj}(I:Inv X pins σ H s)(h:H p=some (.lst xs))
  (ho:s.heap.get? p=some { cls:=.type "list",data:=.seq its.toArray n }) (hf:f { cls:=.type "list",data:=.seq its.toArray n }={ cls:=.type "list",data:=.seq its'.toArray n' }) (r:Vals ys its') (hz:ys.length<=sizeLine) (t:Nat) :
  Inv X pins σ (upd H p (.lst ys)) { s with heap:=s.heap.update p f,toks:=t }:=by
 have e:(s.heap.update p f).get? p=some { cls:=.type "list",data:=.seq its'.toArray n' }:=by rw[Zzb f ho (by rw[hf]<;>rfl),hf]
 refine I.write (x:=p) (e:=p) (by rw[h]; trivial) (.inl rfl) (λb u hb q=>(Zzq _ _ (Zy1 hb)).trans q) ⟨_,e⟩ ?_;exact⟨hz,its',n',r,e⟩
def ZwC:V->V->V->Hp->(Hp->Prop)->Prop:=λo i v H Q=>∃p xs k j,o=.ref p/\i=.int k/\H p=some (.lst xs)/\ixN xs.length k=some j/\Q (upd H p (.lst (xs.set j v)))
theorem set_list:Zwr X ZwC:=by
 intro pins s σ H o i v ov iv u Q I ro ri rv h;obtain⟨p,xs,k,j,rfl,rfl,hp,hj,q⟩:=h;cases ro;obtain⟨t,rfl⟩:=ri;obtain⟨its,n,r,ho,hz⟩:=I.lst hp;obtain⟨h1,h2,h3,h4⟩:=ZpJ hj;have hl:=r.length;have hn:=ZiM;have I':Inv X pins σ (upd H p (.lst (xs.set j v))) { s with heap:=s.heap.update p (ZAV (·.setIfInBounds j u)) } :=
  I.lstUpd hp ho (ZqJ its n j u) (r.set rv j) (by rw[Zzd]; exact hz) s.toks
 by_cases h0:0<=k
 ·have hk:k.toNat=j:=by
   rw[seqIndex_of h0 h4]at h1;exact ZyU h1
  exact PySem.W.ki_setAt ho h0 (by omega) (by rw[Zyj,<-hl]; exact h4) (by rw[hk]; exact⟨_,I',q⟩)
 ·have hk:(k+(its.toArray.size:Int)).toNat=j:=by
   rw[seqIndex_neg (by omega) h3]at h1;rw[Zyj,<-hl];exact ZyU h1
  exact PySem.W.ki_setBack ho (by omega) (by rw[Zyj,<-hl]; exact h3) (by omega) (by rw[hk]; exact⟨_,I',q⟩)
theorem Zoa(lo hi:Option Int)(n:Nat):(ZAK lo hi none n).1=((HT.sIx n 0 lo:Nat):Int)/\(ZAK lo hi none n).2.1=((HT.sIx n n hi:Nat):Int)/\(ZAK lo hi none n).2.2=1:=by
 refine⟨?_,?_,rfl⟩
 ·cases lo with
  | none=>simp[ZAK,HT.sIx]
  | some i =>
   simp only[ZAK,HT.sIx,Option.getD_none,show(1:Int) > 0 by decide,if_true]
   by_cases h:i<0
   ·simp only[h,if_true]<;>omega
   ·simp only[h,if_false]<;>omega
 ·cases hi with
  | none=>simp[ZAK,HT.sIx]
  | some i =>
   simp only[ZAK,HT.sIx,Option.getD_none,show(1:Int) > 0 by decide,if_true]
   by_cases h:i<0
   ·simp only[h,if_true]<;>omega
   ·simp only[h,if_false]<;>omega
theorem Zmu(its:List Value)(lo hi:Option Int):slicePick its.toArray lo hi none=((its.drop (HT.sIx its.length 0 lo)).take (HT.sIx its.length its.length hi-HT.sIx its.length 0 lo)).toArray:=by obtain⟨h1,h2,h3⟩:=Zoa lo hi its.toArray.size;unfold slicePick;rw[h1,h2,h3];simp only[sliceRange_one,pick_run,Zyj]<;>rfl
def ZxC(K:Zx0):V->Option Int->Option Int->Hp->VK->Prop:=λx lo hi H Q=>∃a xs,x=.ref a/\SqL K H a xs/\∀p,H p=none->Q (.ref p) (upd H p (.lst (Zoy xs lo hi)))
theorem ZuI:SlR X (ZxC X.K):=by intro pins s σ H x v vl vu lo hi sl Q I rx hs pl pu h;obtain⟨a,xs,rfl,hx,q⟩:=h;cases rx;obtain⟨its,r,ht,hz⟩:=I.list hx;have hlen:=r.length;refine⟨"list",_,slot_list_getitem.lookup,ht.isList.typeIs,?_⟩;refine wpAny_getItem_list_slice ht.isList hs pl pu .none (by simp) ?_ (by rw[Zyj]<;>omega);rw[Zmu,<-hlen];refine⟨.ref s.heap.objs.size,_,I.laid (t':=s.toks) (o:=.lst (Zoy xs lo hi)) (λb ob q=>Zx7 _ q) (Zyb _) ?_,rfl,q _ (I.hok.fresh (Zyb _))⟩;exact⟨ZyO (ZpF xs lo hi) hz,_,0,(r.drop (HT.sIx xs.length 0 lo)).take (HT.sIx xs.length xs.length hi-HT.sIx xs.length 0 lo),Zyi _ rfl⟩
def Zba:V->Bool
 | .non=>true
 | .bl _=>true
 | .int _=>true
 | .str _=>true
 | _=>false
def eqV:V->V->Bool
 | .non,.non=>true
 | .bl a,.bl b=>a==b
 | .bl a,.int b=>(if a then 1 else 0)==b
 | .int a,.bl b=>a==(if b then 1 else 0)
 | .int a,.int b=>a==b
 | .str a,.str b=>a==b
 | _,_=>false
theorem Zwv{A:Around}{s:Shared}{y x:V}{u v:Value}(ry:RelV y u)(rx:RelV x v)(fy:Zba y=true)(fx:Zba x=true):SeqAt.EqAt A s u v (eqV y x):=by
 cases y with
 | non =>
  cases ry;cases x with
  | non=>cases rx; exact SeqAt.EqAt.same _
  | bl b=>cases rx; exact SeqAt.EqAt.none_bool b
  | int b=>obtain⟨t,rfl⟩:=rx; exact SeqAt.EqAt.none_int b t
  | str b=>obtain⟨t,rfl⟩:=rx; exact SeqAt.EqAt.none_str b t
  | _=>exact absurd (show false=true from fx) ZyI
 | bl a =>
  cases ry;cases x with
  | non=>cases rx; exact SeqAt.EqAt.bool_none a
  | bl b=>cases rx; exact SeqAt.EqAt.bool_bool a b
  | int b=>obtain⟨t,rfl⟩:=rx; exact SeqAt.EqAt.bool_int a b t
  | str b=>obtain⟨t,rfl⟩:=rx; exact SeqAt.EqAt.bool_str a b t
  | _=>exact absurd (show false=true from fx) ZyI
 | int a =>
  obtain⟨t',rfl⟩:=ry;cases x with
  | non=>cases rx; exact SeqAt.EqAt.int_none a t'
  | bl b=>cases rx; exact SeqAt.EqAt.int_bool a t' b
  | int b=>obtain⟨t,rfl⟩:=rx; exact SeqAt.EqAt.int_int a t' b t
  | str b=>obtain⟨t,rfl⟩:=rx; exact ZCK a t' b t
  | _=>exact absurd (show false=true from fx) ZyI
 | str a =>
  obtain⟨t',rfl⟩:=ry;cases x with
  | non=>cases rx; exact SeqAt.EqAt.str_none a t'
  | bl b=>cases rx; exact SeqAt.EqAt.str_bool a t' b
  | int b=>obtain⟨t,rfl⟩:=rx; exact ZCL a t' b t
  | str b=>obtain⟨t,rfl⟩:=rx; exact SeqAt.EqAt.str_str a t' b t
  | _=>exact absurd (show false=true from fx) ZyI
 | _=>exact absurd (show false=true from fy) ZyI
def eqU(x:V)(u:Value):Bool:=match u with
 | .none=>eqV .non x
 | .bool b=>eqV (.bl b) x
 | .int i _=>eqV (.int i) x
 | .str z _=>eqV (.str z) x
 | _=>false
theorem Zsc{x y:V}{u:Value}(r:RelV y u)(f:Zba y=true):eqU x u=eqV y x:=by
 cases y with
 | non=>cases r; rfl
 | bl b=>cases r; rfl
 | int i=>obtain⟨t,rfl⟩:=r; rfl
 | str z=>obtain⟨t,rfl⟩:=r; rfl
 | _=>exact absurd (show false=true from f) ZyI
theorem Zhh{x:V}:∀{xs:List V} {us:List Value},Vals xs us->xs.all Zba=true->us.any (eqU x)=xs.any λy=>eqV y x
 | _,_,.nil,_=>rfl
 | y::xs,u::us,.cons r t,f=>by rw[Zzi,Zyk]at f;rw[ZzG,ZzG,Zsc r f.1,Zhh t f.2]
theorem Zgl{A:Around}{s:Shared}{x:V}{v:Value}(rx:RelV x v)(fx:Zba x=true):∀{xs:List V} {us:List Value},Vals xs us->xs.all Zba=true->∀u∈us,SeqAt.EqAt A s u v (eqU x u)
 | _,_,.nil,_=>λu hu=>by cases hu
 | y::xs,u::us,.cons r t,f=>λu' hu=>by
  rw[Zzi,Zyk]at f;rcases Zyo.mp hu with rfl | hu
  ·rw[Zsc r f.1]; exact Zwv r rx f.1 fx
  ·exact Zgl rx fx t f.2 u' hu
def inV(x:V)(xs:List V):Bool:=xs.any λy=>eqV y x
def rIn(K:Zx0)(neg:Bool):R2:=λx y H Q=>∃p xs,y=.ref p/\(SqL K H p xs\/SqT K H p xs)/\Zba x=true/\xs.all Zba=true/\Q (.bl (if neg then !inV x xs else inV x xs)) H
theorem Zsn:OpR X (Zy6 .In) (rIn X.K false):=by
 intro pins s σ H x y v u Q I rx ry h;obtain⟨p,xs,rfl,hq,fx,fs,q⟩:=h;cases ry;rcases hq with hq | hq
 ·obtain⟨its,r,pl,hz⟩:=I.list hq
  refine SeqAt.in_listAt (eqU x) pl.isList (λw hw=>Zgl rx fx r fs w (by simpa using hw)) ⟨.bl _,H,I,rfl,?_⟩;rw[show its.toArray.any (eqU x)=its.any (eqU x) by simp,Zhh r fs];exact q
 ·obtain⟨its,r,pl,hz⟩:=I.tuple hq
  refine SeqAt.in_tupleAt (eqU x) pl (λw hw=>Zgl rx fx r fs w (by simpa using hw)) ⟨.bl _,H,I,rfl,?_⟩;rw[show its.toArray.any (eqU x)=its.any (eqU x) by simp,Zhh r fs];exact q
theorem Znt:OpR X (Zy6 .NotIn) (rIn X.K true):=by
 intro pins s σ H x y v u Q I rx ry h;obtain⟨p,xs,rfl,hq,fx,fs,q⟩:=h;cases ry;rcases hq with hq | hq
 ·obtain⟨its,r,pl,hz⟩:=I.list hq
  refine SeqAt.notIn_listAt (eqU x) pl.isList (λw hw=>Zgl rx fx r fs w (by simpa using hw)) ⟨.bl _,H,I,rfl,?_⟩;rw[show its.toArray.any (eqU x)=its.any (eqU x) by simp,Zhh r fs];exact q
 ·obtain⟨its,r,pl,hz⟩:=I.tuple hq
  refine SeqAt.notIn_tupleAt (eqU x) pl (λw hw=>Zgl rx fx r fs w (by simpa using hw)) ⟨.bl _,H,I,rfl,?_⟩;rw[show its.toArray.any (eqU x)=its.any (eqU x) by simp,Zhh r fs];exact q
theorem ZoP:ZaZ X (.builtin "len") (λxs H Q=>∃p ys,xs=[.ref p]/\(SqL X.K H p ys\/SqT X.K H p ys)/\Q (.int ys.length) H):=by
 intro pins s σ H xs us Q I r h;obtain⟨p,ys,rfl,hq,q⟩:=h;obtain⟨u,rfl,rx⟩:=vals1 r;cases rx;have hn:=ZiM;rcases hq with hq | hq
 ·obtain⟨its,r',pl,hz⟩:=I.list hq
  have hlen:=r'.length;exact Calls.call_len_list pl.isList (by simp only[Zyj]<;>omega) ⟨.int ys.length,H,I.tok _,⟨s.toks+1,by rw[Zyj,hlen]⟩,q⟩
 ·obtain⟨its,r',pl,hz⟩:=I.tuple hq
  have hlen:=r'.length;exact len_tuple pl (by simp only[Zyj]<;>omega) ⟨.int ys.length,H,I.tok _,⟨s.toks+1,by rw[Zyj,hlen]⟩,q⟩
theorem ZaZ.or{f:Value}{r r':List V->Hp->VK->Prop}(h:ZaZ X f r)(h':ZaZ X f r'):ZaZ X f (λxs H Q=>r xs H Q\/r' xs H Q):=by
 intro pins s σ H xs us Q I rs q;rcases q with q | q
 ·exact h pins s σ H xs us Q I rs q
 ·exact h' pins s σ H xs us Q I rs q
theorem ZnD:ZaZ X (.type "list") (λxs H Q=>∃p ys,xs=[.ref p]/\(SqL X.K H p ys\/SqT X.K H p ys)/\∀l,H l=none->Q (.ref l) (upd H l (.lst ys))):=by
 intro pins s σ H xs us Q I r h;obtain⟨p,ys,rfl,hq,q⟩:=h;obtain⟨u,rfl,rx⟩:=vals1 r;cases rx;have fin:∀(its:List Value),Vals ys its->ys.length<=sizeLine->∀(h':Heap) (c':Nat),(∀b o',s.heap.get? b=some o'->h'.get? b=some o') ->
   h'.get? s.heap.objs.size=some { cls:=.type "list",dict:=none,data:=.seq its.toArray c',slots:=#[] }->EP X pins σ Q (.ref s.heap.objs.size) { s with heap:=h' }:=λits r' hz h' c' kp e =>
  ⟨.ref s.heap.objs.size,_,I.laid (t':=s.toks) kp (Zyb _) (show Z8 X.prog X.w _ h' _ (.lst ys) from⟨hz,its,c',r',e⟩),rfl,q _ (I.hok.fresh (Zyb _))⟩
 rcases hq with hq | hq
 ·obtain⟨its,r',pl,hz⟩:=I.list hq
  have hlen:=r'.length;obtain⟨o,ho,hc,n,hd⟩:=pl.isList;exact call_list_seq p (.inl rfl) ho hc hd (λh' c' kp e=>fin its r' hz h' c' kp e) (by simp only[Zyj]<;>omega)
 ·obtain⟨its,r',pl,hz⟩:=I.tuple hq
  have hlen:=r'.length;obtain⟨o,ho,hc,n,hd⟩:=pl;exact call_list_seq p (.inr rfl) ho hc hd (λh' c' kp e=>fin its r' hz h' c' kp e) (by simp only[Zyj]<;>omega)
theorem Zmz:ZaZ X (.type "tuple") (λxs H Q=>∃p ys,xs=[.ref p]/\((SqL X.K H p ys/\∀l,H l=none->Q (.ref l) (upd H l (.tup ys)))\/(SqT X.K H p ys/\Q (.ref p) H))):=by
 intro pins s σ H xs us Q I r h;obtain⟨p,ys,rfl,h⟩:=h;obtain⟨u,rfl,rx⟩:=vals1 r;cases rx;rcases h with⟨hq,q⟩ | ⟨hq,q⟩
 ·obtain⟨its,r',pl,hz⟩:=I.list hq
  have hlen:=r'.length;refine call_tuple_list pl.isList (λh' kp=>?_) (by simp only[Zyj]<;>omega);have I1:Inv X pins σ H { s with heap:=h' }:=I.kept (t':=s.toks) kp;have I2:Inv X pins σ (upd H h'.objs.size (.tup ys)) { s with heap:=h'.push { cls:=.type "tuple",data:=.seq its.toArray } } :=
   I1.laid (t':=s.toks) (λb o e=>Zx7 _ e) (Zyb _) (show Z8 X.prog X.w _ _ _ (.tup ys) from⟨hz,its,r',IsTup.new _ _⟩)
  exact⟨.ref h'.objs.size,_,I2,rfl,q _ (I1.hok.fresh (Zyb _))⟩
 ·obtain⟨its,r',pl,hz⟩:=I.tuple hq
  exact call_tuple_same pl ⟨.ref p,H,I,rfl,q⟩
def tyV(K:Zx0)(T:String)(x:V)(H:Hp):Prop:=match x with
 | .str _=>T = "str"
 | .int _=>T = "int"
 | .ref p=>(T = "list"/\∃xs,SqL K H p xs)\/(T = "tuple"/\∃o,K.lookup p=some o/\o.cls=.type "tuple"/\o.dict=none) \/
   (T = "dict"/\((∃kvs,H p=some (.dK kvs))\/∃kvs,H p=some (.dT kvs)))\/(T = "set"/\∃S n,H p=some (.set S n))
 | _=>False
theorem ZrF{pins:List (Addr × Obj)}{σ:St}{H:Hp}{s:Shared}{T:String}{x:V}{v:Value}(I:Inv X pins σ H s)(r:RelV x v)(ty:tyV X.K T x H) :
  s.TypeIs v T/\∀a,v=.ref a->∃ob,s.heap.get? a=some ob/\ob.dict=none:=by
 cases x with
 | str z=>obtain⟨t,rfl⟩:=r;cases(show T = "str" from ty);exact⟨typeIs_str s z t,λ_ e=>nomatch e⟩
 | int i=>obtain⟨t,rfl⟩:=r;cases(show T = "int" from ty);exact⟨typeIs_int s i t,λ_ e=>nomatch e⟩
 | ref p =>
  cases r;rcases ty with⟨rfl,xs,hq⟩ | ⟨rfl,o,hk,hc,hd⟩ | ⟨rfl,hk⟩ | ⟨rfl,S,n,hk⟩
  ·obtain⟨its,_,pl,_⟩:=I.list hq
   refine⟨pl.isList.typeIs,λa e=>?_⟩;cases e;obtain⟨o,n,e,c,hd,_⟩:=pl;exact⟨o,e,hd⟩
  ·refine⟨⟨o,I.kIn p o hk,hc⟩,λa e=>?_⟩
   cases e;exact⟨o,I.kIn _ o hk,hd⟩
  ·have z:∃o,s.heap.get? p=some o/\o.ExactDict:=by
    rcases hk with⟨kvs,hk⟩ | ⟨kvs,hk⟩
    ·obtain⟨_,_,_,_,o,_,_,e,ex,_⟩:=I.hok p _ hk
     exact⟨o,e,ex⟩
    ·obtain⟨_,_,_,_,o,_,_,e,ex,_⟩:=I.hok p _ hk
     exact⟨o,e,ex⟩
   obtain⟨o,e,ex⟩:=z;refine⟨⟨o,e,ex.1⟩,λa e2=>?_⟩;cases e2;exact⟨o,e,ex.2.1⟩
  ·obtain⟨o,_,_,_,e,ex,_⟩:=I.hok p _ hk
   refine⟨⟨o,e,ex.1⟩,λa e2=>?_⟩;cases e2;exact⟨o,e,ex.2.1⟩
 | _=>exact Zy3 ty
def ZxK(K:Zx0)(T:String)(r:V->List V->Hp->VK->Prop)(to:TE):TE:=λσ H Q=>to σ H λx H1=>tyV K T x H1/\r x [] H1 Q
def tBM(K:Zx0)(T:String)(r:V->List V->Hp->VK->Prop)(to:TE)(t:TA):TE:=λσ H Q=>to σ H λx H1=>tyV K T x H1/\t σ H1 λxs H2=>r x xs H2 Q
variable{o e:Expr}{es:List Expr}{to:TE}{t:TA}{name:Str}{apos cpos:Pos}{T id:String}{r:V->List V->Hp->VK->Prop}
theorem Zwo(pa:PlainAttrs T)(slot:Slot T name id)(hty:typeOf (.builtin id)=pure (.type "method_descriptor"))(hm:MtR X id r)(ho:PE X o to)
  (hbase:Zz9 o name X.env (eval o X.env)=eval o X.env:=by rfl) (hline:(apos.endLine==cpos.line)=true:=by rfl):PE X (.Call (.Attribute o name apos) [] [] cpos) (ZxK X.K T r to):=by
 intro pins s σ H Q I h;refine wpAny_Call_method0_late hbase hline (thn (ho pins s σ H _ I h) λv s1 ⟨x,H1,I1,r1,ty,q1⟩=>?_);obtain⟨h1,h2⟩:=ZrF I1 r1 ty;exact⟨T,id,pa,slot,hty,h1,h2,ZA8 rfl (PySem.evalArgs_none (hm pins s1 σ H1 x [] v [] Q I1 r1 .nil q1))⟩
theorem ZmK(pa:PlainAttrs T)(slot:Slot T name id)(hty:typeOf (.builtin id)=pure (.type "method_descriptor"))(hm:MtR X id r)(ho:PE X o to)(ha:PA X (e::es) t)
  (hbase:Zz9 o name X.env (eval o X.env)=eval o X.env:=by rfl)
  (hfew:((backTo cpos (Zyc (e::es) X.env)).all (λx=>!x.1)&&(ZB8 cpos (ZA9 [] X.env)).all (λx=>x.1.isSome)
   && decide ((e::es).length+([]:List Keyword).length+(if([]:List Keyword).isEmpty then 0 else 1)<30))=true:=by rfl)
  (hline:(apos.endLine==cpos.line)=true:=by rfl) (hs:Zyc (e::es) X.env=(false,eval e X.env)::Zyc es X.env:=by rfl) (hplain:(backTo cpos (Zyc es X.env)).any (·.1)=false:=by rfl) :
  PE X (.Call (.Attribute o name apos) (e::es) [] cpos) (tBM X.K T r to t):=by
 intro pins s σ H Q I h;refine wpAny_Call_method_late hbase hfew hline rfl (thn (ho pins s σ H _ I h) λv s1 ⟨x,H1,I1,r1,ty,q1⟩=>?_);obtain⟨h1,h2⟩:=ZrF I1 r1 ty;refine⟨T,id,pa,slot,hty,h1,h2,?_⟩;have hA:=ha cpos pins s1 σ H1 _ I1 q1;rw[hs]at hA ⊢;refine ZA8 (by show(false||(backTo cpos (Zyc es X.env)).any (·.1))=false; rw[hplain]<;>rfl) (ZCD ?_);exact thn hA λus s2 ⟨vs,H2,I2,r2,q2⟩=>hm pins s2 σ H2 x vs v us Q I2 r1 r2 q2
end
end L2
namespace L2
open PySem PySem.Spec PyProof.Rows
def MtM(X:Cx)(id:String)(r:V->List V->Hp->VK->Prop):Prop :=
 ∀(pins:List (Addr × Obj)) (s:Shared) (σ:St) (H:Hp) (x:V) (xs:List V) (v:Value) (us:List Value) (Q:VK),Inv X pins σ H s->RelV x v->Vals xs us->r x xs H Q ->
  wpAny (model X.prog X.w) X.A (call (.builtin id) (v::us)) (EP X pins σ Q) X.xe s
theorem Vals.one:∀{x:V} {us:List Value},Vals [x] us->∃u,us=[u]/\RelV x u
 | _,_,.cons r .nil=>⟨_,rfl,r⟩
theorem Vals.zero:∀{us:List Value},Vals [] us->us=[]
 | _,.nil=>rfl
theorem Vals.dropLast{xs:List V}{us:List Value}(h:Vals xs us):Vals xs.dropLast us.dropLast:=by
 induction h with
 | nil=>exact .nil
 | cons r t ih =>
  cases t with
  | nil=>exact .nil
  | cons q t'=>exact .cons r ih
theorem Vals.rep{xs:List V}{us:List Value}(h:Vals xs us):∀k:Nat,Vals (ZyA k xs).flatten (ZyA k us).flatten
 | 0=>.nil
 | k+1=>by rw[ZzK,ZzK,ZAc,ZAc];exact Vals.append h (Vals.rep h k)
theorem Zq7{α:Type}(l:List α):l.eraseIdx (l.length-1)=l.dropLast:=by
 induction l with
 | nil=>rfl
 | cons a r ih =>
  cases r with
  | nil=>rfl
  | cons b r =>
   have e:(a::b::r).length-1=((b::r).length-1)+1:=by have h1:(a::b::r).length=r.length+2:=rfl;have h2:(b::r).length=r.length+1:=rfl;omega
   rw[e,List.eraseIdx_cons_succ,ih]
   all_goals rfl
theorem foldl_rep(its:List Value):∀(k:Nat) (acc:List Value),
  List.foldl (λx1 x2=>x1++x2) acc.toArray (ZyA k its.toArray)=(acc++(ZyA k its).flatten).toArray
 | 0,acc=>by simp
 | k+1,acc=>by
  have e:acc.toArray++its.toArray=(acc++its).toArray:=by simp
  have e2:(acc++its)++(ZyA k its).flatten=acc++(ZyA (k+1) its).flatten:=by rw[ZzK,ZAc,Zzh]
  rw[<-e2,<-foldl_rep its k (acc++its),<-e,ZzK,Zy8]
section
variable{X:Cx}{pins:List (Addr × Obj)}{σ:St}{H:Hp}{s:Shared}{l b:Addr}{xs ys zs:List V}
theorem Inv.lset{its its':List Value}{n:Nat}{f:Array Value->Array Value}{t':Nat}(I:Inv X pins σ H s)(hH:H l=some (.lst xs))
  (e:s.heap.get? l=some { cls:=.type "list",data:=.seq its.toArray n }) (hf:f its.toArray=its'.toArray) (hv:Vals ys its') (hz:ys.length<=sizeLine) :
  Inv X pins σ (upd H l (.lst ys)) { s with heap:=s.heap.update l (ZAV f),toks:=t' }:=by
 have q:=PySem.IsL.update e f;rw[hf]at q;refine I.write (x:=l) (e:=l) (by rw[hH]; exact trivial) (.inl rfl) (λb' u hb hu=>(Zzq s.heap (ZAV f) (Zy1 hb)).trans hu) ⟨_,q⟩ ?_;exact⟨hz,its',_,hv,q⟩
theorem Inv.lnew{its:List Value}{t':Nat}(I:Inv X pins σ H s)(hv:Vals ys its)(hz:ys.length<=sizeLine) :
  Inv X pins σ (upd H s.heap.objs.size (.lst ys)) { s with heap:=s.heap.push { cls:=.type "list",data:=.seq its.toArray },toks:=t' } :=
 I.laid (λ_ _ q=>Zx7 _ q) (Zyb _) ⟨hz,its,0,hv,Zyi _ rfl⟩
theorem Inv.fresh(I:Inv X pins σ H s):H s.heap.objs.size=none:=I.hok.fresh (Zyb _)
theorem Inv.lstM(I:Inv X pins σ H s)(hH:H l=some (.lst xs)):xs.length<=sizeLine/\∃(its:List Value) (n:Nat),Vals xs its/\xs.length=its.length/\s.heap.get? l=some { cls:=.type "list",data:=.seq its.toArray n }:=by obtain⟨z,its,n,r,e⟩:=I.hok l _ hH;exact⟨z,its,n,r,r.length,e⟩
theorem ZnT{n:Nat}(h:n<=sizeLine):ZAh n=false:=by unfold ZAh;exact decide_eq_false (by omega)
end
section
variable{X:Cx}
def ZpV:V->List V->Hp->VK->Prop:=λx vs H Q=>∃l xs y,x=.ref l/\vs=[y]/\H l=some (.lst xs)/\xs.length<sizeLine/\Q .non (upd H l (.lst (xs++[y])))
theorem Zgz:MtM X "list.append" ZpV:=by intro pins s σ H x vs v us Q I rx rv h;obtain⟨l,xs,y,rfl,rfl,hH,hz,q⟩:=h;cases rx;obtain⟨u,rfl,ru⟩:=rv.one;obtain⟨z,its,n,r,hl,e⟩:=I.lstM hH;refine ZB0 F.slot_list_append ⟨_,e,rfl⟩ F.entry_list_append (F.args_list_append_2 _ _) (PySem.list_append l its.toArray n u (by rw[Zyj]; omega)) ⟨e,?_⟩;refine⟨.non,_,I.lset (its':=its++[u]) hH e (by simp) (r.append (.cons ru .nil)) ?_,rfl,q⟩;rw[Zyl,ZzA];omega
def Zus:V->List V->Hp->VK->Prop:=λx vs H Q=>∃l b xs zs,x=.ref l/\vs=[.ref b]/\H l=some (.lst xs)/\H b=some (.lst zs)/\xs.length+zs.length<=sizeLine/\Q .non (upd H l (.lst (xs++zs)))
theorem Zru:MtM X "list.extend" Zus:=by
 intro pins s σ H x vs v us Q I rx rv h;obtain⟨l,b,xs,zs,rfl,rfl,hH,hB,hz,q⟩:=h;cases rx;obtain⟨u,rfl,ru⟩:=rv.one;cases ru;obtain⟨z,its,n,r,hl,e⟩:=I.lstM hH;obtain⟨z2,its2,n2,r2,hl2,e2⟩:=I.lstM hB;have hsz:its.toArray.size+its2.toArray.size<=sizeLine:=by rw[Zyj,Zyj]; omega
 have hlong:¬(!its.toArray.isEmpty&&ZAh (its.toArray.size+its2.toArray.size))=true:=by rw[ZnT hsz,Bool.and_false];exact ZyI
 refine ZB0 F.slot_list_extend ⟨_,e,rfl⟩ F.entry_list_extend (F.args_list_extend_2 _ _)
  (AutoSeq1.list_extend_list_list_0 l its.toArray n b its2.toArray n2 hlong (by rw[Zyj]; omega) (by omega)) ⟨e,e2,?_⟩
 refine⟨.non,_,I.lset (its':=its++its2) hH e (by simp) (r.append r2) ?_,rfl,q⟩;rw[Zyl];omega
def Zxu:V->List V->Hp->VK->Prop:=λx vs H Q=>∃l xs y,x=.ref l/\vs=[]/\H l=some (.lst xs)/\xs[xs.length-1]?=some y/\Q y (upd H l (.lst xs.dropLast))
theorem Zws:MtM X "list.pop" Zxu:=by
 intro pins s σ H x vs v us Q I rx rv h;obtain⟨l,xs,y,rfl,rfl,hH,hy,q⟩:=h;cases rx;have hus:=rv.zero;subst hus;obtain⟨z,its,n,r,hl,e⟩:=I.lstM hH;obtain⟨u,hu,ru⟩:=r.get hy;have hy':its.toArray[its.toArray.size-1]?=some u:=by show its.toArray[its.length-1]?=some u;rw[<-ZyS,<-hl];exact hu
 refine ZB0 F.slot_list_pop ⟨_,e,rfl⟩ F.entry_list_pop (F.args_list_pop_1 _) (MeetsSeq.list_pop_last l its.toArray n u hy' (by rw[Zyj]; omega)) ⟨e,?_⟩;refine⟨y,_,I.lset (its':=its.dropLast) hH e ?_ r.dropLast ?_,ru,q⟩
 ·show its.toArray.eraseIdxIfInBounds (its.toArray.size-1)=its.dropLast.toArray
  rw[Zyj,List.eraseIdxIfInBounds_toArray,Zq7]
 ·rw[List.length_dropLast]
  omega
def Zxn:R2:=λx y H Q=>∃l b xs zs,x=.ref l/\y=.ref b/\H l=some (.lst xs)/\H b=some (.lst zs)/\xs.length+zs.length<=sizeLine/\∀p,H p=none->Q (.ref p) (upd H p (.lst (xs++zs)))
theorem Zvo:OpR X (ZBg .Add) Zxn:=by
 intro pins s σ H x y v u Q I rx ry h;obtain⟨l,b,xs,zs,rfl,rfl,hH,hB,hz,q⟩:=h;cases rx;cases ry;obtain⟨z,its,n,r,hl,e⟩:=I.lstM hH;obtain⟨z2,its2,n2,r2,hl2,e2⟩:=I.lstM hB;refine PySem.P.add_list e e2 ?_ (by rw[Zyj,Zyj]; omega);have ea:its.toArray++its2.toArray=(its++its2).toArray:=by simp
 rw[ea];exact⟨.ref _,_,I.lnew (t':=s.toks) (r.append r2) (by rw[Zyl]; omega),rfl,q _ I.fresh⟩
def Zxq:R2:=λx y H Q=>∃l k xs,x=.ref l/\y=.int k/\H l=some (.lst xs)/\-(2 ^ 63)<=k/\k<2 ^ 63/\xs.length*k.toNat<=sizeLine /\
 ∀p,H p=none->Q (.ref p) (upd H p (.lst (ZyA k.toNat xs).flatten))
theorem len_rep{α:Type}(xs:List α)(k:Nat):(ZyA k xs).flatten.length=k*xs.length:=by
 induction k with
 | zero=>simp
 | succ k ih=>rw[ZzK,ZAc,Zyl,ih,Nat.succ_mul,Nat.add_comm]
theorem Zvv:OpR X (ZBg .Mult) Zxq:=by
 intro pins s σ H x y v u Q I rx ry h;obtain⟨l,k,xs,rfl,rfl,hH,h1,h2,hz,q⟩:=h;cases rx;obtain⟨t,rfl⟩:=ry;obtain⟨z,its,n,r,hl,e⟩:=I.lstM hH;have hlen:its.toArray.size*k.toNat<=sizeLine:=by rw[Zyj,<-hl]; exact hz
 have hcap:¬its.toArray.size*k.toNat > (2 ^ 63-1) / 8:=by
  have:(sizeLine:Nat)<=(2 ^ 63-1) / 8:=by decide
  omega
 have hfit:¬(!Builtin.List.listFitsIndex k)=true:=by rw[fitsIndex_both h1 h2];exact ZyI
 have hlong:¬ZAh (its.toArray.size*k.toNat)=true:=by rw[ZnT hlen];exact ZyI
 have hnew:List.foldl (λx1 x2=>x1++x2) #[] (ZyA (if its.toArray.isEmpty=true then 0 else k.toNat) its.toArray)=(ZyA k.toNat its).flatten.toArray:=by
  have f0:∀m:Nat,List.foldl (λx1 x2=>x1++x2) #[] (ZyA m its.toArray)=(ZyA m its).flatten.toArray:=λm=>by have:=foldl_rep its m [];rw[ZAu]at this;exact this
  rw[f0];cases its with
  | nil=>simp
  | cons a r'=>rw[if_neg (by simp)]
 refine wpAny_binaryOp_repeat_ref (T:="list") (U:="int") (by decide) ⟨_,e,rfl⟩ (λs'=>typeIs_int s' k t) noFill_list_mul F.fills_int_mul F.slot_int_rmul repeat_list F.slot_int_index.lookup
  (ZB0 F.slot_int_rmul (typeIs_int s k t) F.entry_int_rmul (F.args_int_rmul_2 _ _) (int___rmul___int_list k t l its.toArray n)
   ⟨e,rfl,⟨_,e,rfl⟩,ZB0 F.slot_list_mul ⟨_,e,rfl⟩ F.entry_list_mul (F.args_list_mul_2 _ _) (AutoListH.list___mul___list_int_3 l its.toArray n k t hfit hcap hlong) ⟨e,?_⟩⟩)
 rw[hnew];exact⟨.ref _,_,I.lnew (t':=s.toks) (r.rep k.toNat) (by rw[len_rep,Nat.mul_comm]; exact hz),rfl,q _ I.fresh⟩
end
end L2
namespace L2
open PySem PySem.Spec PyProof.Rows
section
variable{κ:Type}[DecidableEq κ]
def ZaN(kvs:List (κ × V))(k:κ):Option V:=(kvs.find? λkv=>decide (kv.1=k)).map (·.2)
def putK(kvs:List (κ × V))(k:κ)(v:V):List (κ × V) :=
 if(kvs.any λkv=>decide (kv.1=k))=true then kvs.map (λkv=>if kv.1=k then(kv.1,v)else kv)else kvs++[(k,v)]
theorem Zd0{p:κ × V}{r:List (κ × V)}{k:κ}(e:p.1=k):ZaN (p::r) k=some p.2:=by simp[ZaN,ZyW,e]
theorem ZdY{p:κ × V}{r:List (κ × V)}{k:κ}(e:¬p.1=k):ZaN (p::r) k=ZaN r k:=by simp[ZaN,ZyW,e]
theorem ZhQ(k:κ):∀kvs:List (κ × V),(kvs.any λkv=>decide (kv.1=k))=(ZaN kvs k).isSome
 | []=>rfl
 | p::r=>by
  rw[ZzG]
  by_cases e:p.1=k
  ·simp only[Zd0 e,decide_eq_true e,Bool.true_or,Option.isSome_some]
  ·rw[ZdY e,decide_eq_false e,ZBM]; exact ZhQ k r
theorem ZgZ(kvs:List (κ × V))(k:κ)(v:V):(putK kvs k v).length<=kvs.length+1:=by
 unfold putK;split
 ·rw[Zx1]; omega
 ·rw[Zyl,Zyg,ZCh]; omega
theorem ZgT.isSome_eq{o:Option V}{u:Option Value}(r:ZgT o u):o.isSome=u.isSome:=by
 cases o with
 | none=>cases u with
  | none=>rfl
  | some _=>exact(show False from r).elim
 | some _=>cases u with
  | none=>exact(show False from r).elim
  | some _=>rfl
theorem KV.val{kvs:List (κ × V)}{vs:List (κ × Value)}(r:KV kvs vs)(k:κ):ZgT (ZaN kvs k) (valueAt vs k):=by
 unfold KV at r
 induction r with
 | nil=>exact ZAW
 | @cons p q ps qs h t ih =>
  obtain⟨h1,h2⟩:=h
  by_cases e:p.1=k
  ·have e':q.1=k:=h1.symm.trans e
   have b:valueAt (q::qs) k=some q.2:=by simp[valueAt,ZyW,e']
   rw[Zd0 e,b]; exact h2
  ·have e':¬q.1=k:=λz=>e (h1.trans z)
   have b:valueAt (q::qs) k=valueAt qs k:=by simp[valueAt,ZyW,e']
   rw[ZdY e,b]; exact ih
theorem KV.any{kvs:List (κ × V)}{vs:List (κ × Value)}(r:KV kvs vs)(k:κ):(kvs.any λkv=>decide (kv.1=k))=vs.any λkv=>decide (kv.1=k):=by
 unfold KV at r
 induction r with
 | nil=>rfl
 | cons h t ih=>rw[ZzG,ZzG,ih,h.1]
theorem KV.repl{kvs:List (κ × V)}{vs:List (κ × Value)}(r:KV kvs vs)(k:κ){y:V}{u:Value}(ry:RelV y u) :
  KV (kvs.map λkv=>if kv.1=k then(kv.1,y)else kv) (vs.map λkv=>if kv.1=k then(kv.1,u)else kv):=by
 unfold KV at r ⊢
 induction r with
 | nil=>exact .nil
 | @cons p q ps qs h t ih =>
  rw[Zx6,Zx6];refine .cons ?_ ih;obtain⟨h1,h2⟩:=h
  by_cases e:p.1=k
  ·rw[if_pos e,if_pos (h1.symm.trans e)]; exact⟨h1,ry⟩
  ·rw[if_neg e,if_neg (λz=>e (h1.trans z))]; exact⟨h1,h2⟩
theorem KV.put{kvs:List (κ × V)}{vs:List (κ × Value)}(r:KV kvs vs)(k:κ){y:V}{u:Value}(ry:RelV y u):KV (putK kvs k y) (stored vs k u):=by
 unfold putK stored;rw[r.any k]
 by_cases e:(vs.any λkv=>decide (kv.1=k))=true
 ·rw[if_pos e,if_pos e]; exact r.repl k ry
 ·rw[if_neg e,if_neg e]; exact Paired.snoc r ⟨rfl,ry⟩
theorem KV.length{kvs:List (κ × V)}{vs:List (κ × Value)}(r:KV kvs vs):kvs.length=vs.length:=ZAt r
end
theorem Zja{P:Program}{w:World}{k:Key}{u:Value}(r:RelV (kV k) u):(ZaG P w).is k u=true:=by
 cases k with
 | inl i=>obtain⟨t,e⟩:=(show ∃t,u=ZzQ i t from r); subst e; exact Zpw P w i t
 | inr x=>obtain⟨t,e⟩:=(show ∃t,u=Value.str x t from r); subst e; exact Zpr P w x t
theorem ZlZ{P:Program}{w:World}:∀{ks:List Key} {us:List Value},Vals (ks.map kV) us->ItemsAre (ZaG P w) ks us
 | [],_,r=>by rw[ZzU]at r; cases r; exact .nil
 | k::ks,_,r=>by
  rw[Zx6]at r;cases r with
  | cons h t=>exact .cons (Zja h) (ZlZ t)
abbrev KT(H:Hp):List (List Key × V)->List (List Key × Addr × Value)->Prop:=Paired λp q=>p.1=q.1/\H q.2.1=some (.tup (p.1.map kV))/\RelV p.2 q.2.2
theorem KT.val{H:Hp}{kvs:List (List Key × V)}{xs:List (List Key × Addr × Value)}(r:KT H kvs xs)(k:List Key):ZgT (ZaN kvs k) ((atKey xs k).map (·.2)):=by
 induction r with
 | nil=>exact ZAW
 | @cons p q ps qs h t ih =>
  obtain⟨h1,_,h2⟩:=h
  by_cases e:p.1=k
  ·have e':q.1=k:=h1.symm.trans e
   have b:atKey (q::qs) k=some q.2:=by simp[atKey,ZyW,e']
   rw[Zd0 e,b]; exact h2
  ·have e':¬q.1=k:=λz=>e (h1.trans z)
   have b:atKey (q::qs) k=atKey qs k:=by simp[atKey,ZyW,e']
   rw[ZdY e,b]; exact ih
theorem KT.repl{H:Hp}{kvs:List (List Key × V)}{xs:List (List Key × Addr × Value)}(r:KT H kvs xs)(k:List Key){y:V}{u:Value}(ry:RelV y u) :
  KT H (kvs.map λkv=>if kv.1=k then(kv.1,y)else kv) (xs.map (putAt k u)):=by
 induction r with
 | nil=>exact .nil
 | @cons p q ps qs h t ih =>
  rw[Zx6,Zx6];refine .cons ?_ ih;obtain⟨h1,h2,h3⟩:=h;unfold putAt
  by_cases e:p.1=k
  ·rw[if_pos e,if_pos (h1.symm.trans e)]; exact⟨h1,h2,ry⟩
  ·rw[if_neg e,if_neg (λz=>e (h1.trans z))]; exact⟨h1,h2,h3⟩
theorem KT.put{H:Hp}{kvs:List (List Key × V)}{xs:List (List Key × Addr × Value)}(r:KT H kvs xs)(k:List Key){b:Addr}{y:V}{u:Value}(hb:H b=some (.tup (k.map kV)))(ry:RelV y u) :
  KT H (putK kvs k y) (storedH xs k b u):=by
 have e:(kvs.any λkv=>decide (kv.1=k))=(atKey xs k).isSome:=by rw[ZhQ,(r.val k).isSome_eq,Zzu]
 unfold putK storedH;rw[e]
 by_cases q:(atKey xs k).isSome=true
 ·rw[if_pos q,if_pos q]; exact r.repl k ry
 ·rw[if_neg q,if_neg q]; exact Paired.snoc r ⟨rfl,hb,ry⟩
theorem KT.keeps{H H':Hp}{kvs:List (List Key × V)}{xs:List (List Key × Addr × Value)}(r:KT H kvs xs)(ht:∀b ys,H b=some (.tup ys)->H' b=some (.tup ys)):KT H' kvs xs :=
 Paired.mapP r λ_ _ z=>⟨z.1,ht _ _ z.2.1,z.2.2⟩
section
variable{P:Program}{w:World}{H:Hp}{h:Heap}{a:Addr}
theorem ZkL{u:HO}(ok:HOk P w H h)(e:Rd H a u):Z8 P w H h a u:=e.ok ok
theorem ZhZ{kvs:List (Key × V)}(ok:HOk P w H h)(e:Rd H a (.dK kvs)):kvs.length<=sizeLine/\(a==Zzy)=false/\∃vs,KV kvs vs/\h.DictOf (ZaG P w) a vs :=
 show Z8 P w H h a (.dK kvs) from ZkL ok e
theorem Zqs{kvs:List (Key × V)}(ok:HOk P w H h)(e:H a=some (.dK kvs)):kvs.length<=sizeLine/\(a==Zzy)=false/\∃vs,KV kvs vs/\h.DictOf (ZaG P w) a vs:=ZhZ ok (.inl e)
theorem Zhi{ks:List Key}(ok:HOk P w H h)(e:H a=some (.tup (ks.map kV))):(ZBj (ZaG P w)).is h ks a:=by obtain⟨_,its,r,o,h1,h2,n,h3⟩:=(show Z8 P w H h a (.tup (ks.map kV)) from ok a _ e);exact⟨o,its.toArray,n,h1,h2,h3,by simpa using ZlZ r⟩
theorem Zi6{kvs:List (List Key × V)}(ok:HOk P w H h)(e:Rd H a (.dT kvs)):kvs.length<=sizeLine/\(a==Zzy)=false /\
  ∃xs,KT H kvs xs/\h.DictOfH (ZBj (ZaG P w)) a xs:=by
 obtain⟨z,y,xs,r,o,es,ep,h1,h2,h3,h4,h5⟩:=(show Z8 P w H h a (.dT kvs) from ZkL ok e);refine⟨z,y,xs,r,o,es,ep,h1,h2,h3,h4,λx hx=>?_,h5⟩;have all:∀{l:List (List Key × V)} {m:List (List Key × Addr × Value)},KT H l m->∀x∈m,(ZBj (ZaG P w)).is h x.1 x.2.1:=by
  intro l m q
  induction q with
  | nil=>intro x hx; exact nomatch hx
  | @cons p q ps qs hq t ih =>
   intro x hx;rcases Zyo.mp hx with e | hx
   ·subst e
    exact Zhi ok (by rw[<-hq.1]; exact hq.2.1)
   ·exact ih x hx
 exact all r x hx
theorem Zt9{kvs:List (List Key × V)}(ok:HOk P w H h)(e:H a=some (.dT kvs)):kvs.length<=sizeLine/\(a==Zzy)=false /\
  ∃xs,KT H kvs xs/\h.DictOfH (ZBj (ZaG P w)) a xs:=Zi6 ok (.inl e)
end
def ZcI(H:Hp)(a:Addr)(y:V)(r:Option V):Prop :=
 (∃kvs k,Rd H a (.dK kvs)/\y=kV k/\r=ZaN kvs k)\/∃kvs k b,Rd H a (.dT kvs)/\y=.ref b/\H b=some (.tup (k.map kV))/\r=ZaN kvs k
def Zh5(H:Hp)(a:Addr)(y v:V)(H':Hp):Prop :=
 (∃kvs k,H a=some (.dK kvs)/\y=kV k/\kvs.length<sizeLine/\H'=upd H a (.dK (putK kvs k v))) \/
 ∃kvs k b,H a=some (.dT kvs)/\y=.ref b/\H b=some (.tup (k.map kV))/\kvs.length<sizeLine/\H'=upd H a (.dT (putK kvs k v))
theorem ZcI.k{H:Hp}{a:Addr}{kvs:List (Key × V)}{k:Key}(e:H a=some (.dK kvs)):ZcI H a (kV k) (ZaN kvs k):=.inl ⟨kvs,k,.inl e,rfl,rfl⟩
theorem ZcI.t{H:Hp}{a b:Addr}{kvs:List (List Key × V)}{k:List Key}(e:H a=some (.dT kvs))(eb:H b=some (.tup (k.map kV))):ZcI H a (.ref b) (ZaN kvs k):=.inr ⟨kvs,k,b,.inl e,rfl,eb,rfl⟩
theorem Zh5.k{H:Hp}{a:Addr}{kvs:List (Key × V)}{k:Key}{v:V}(e:H a=some (.dK kvs))(hl:kvs.length<sizeLine):Zh5 H a (kV k) v (upd H a (.dK (putK kvs k v))):=.inl ⟨kvs,k,e,rfl,hl,rfl⟩
theorem Zh5.t{H:Hp}{a b:Addr}{kvs:List (List Key × V)}{k:List Key}{v:V}(e:H a=some (.dT kvs))(eb:H b=some (.tup (k.map kV)))(hl:kvs.length<sizeLine) :
  Zh5 H a (.ref b) v (upd H a (.dT (putK kvs k v))):=.inr ⟨kvs,k,b,e,rfl,eb,hl,rfl⟩
section
variable{X:Cx}{pins:List (Addr × Obj)}{σ:St}{H:Hp}{s:Shared}{a:Addr}{y v:V}{u r:Value}{o:Option V}{A:Around}{E:Value->Shared->Prop}
theorem Inv.big(I:Inv X pins σ H s):Zzy<s.heap.objs.size:=by have h:ZyK<s.heap.objs.size:=(I.mod.glob.keeps I.bk).lt;exact ZzV (by decide) h
theorem ZrO{Q:Value->Shared->Prop}(hu:A.units+1<cLine)(I:Inv X pins σ H s)(g:ZcI H a y (some v))(ry:RelV y u)(h:∀w' s',Inv X pins σ H s'->RelV v w'->Q w' s') :
  wpAny (model X.prog X.w) A (getItem (.ref a) u) Q E s:=by
 rcases g with⟨kvs,k,e,ey,l⟩ | ⟨kvs,k,b,e,ey,eb,l⟩
 ·subst ey
  obtain⟨z,hd,vs,rel,dd⟩:=ZhZ I.hok e;obtain⟨w',hw,rw'⟩:=ZgT.some_of (v:=v) (o:=valueAt vs k) (by rw[l]; exact rel.val k);exact wpAny_getItem_of (Zja ry) dd.mapOf hw (h w' _ (I.tok _) rw')
 ·subst ey
  cases(show u=ZyZ b from ry);obtain⟨z,hd,xs,rel,dd⟩:=Zi6 I.hok e;obtain⟨w',hw,rw'⟩:=ZgT.some_of (v:=v) (o:=(atKey xs k).map (·.2)) (by rw[l]; exact rel.val k);obtain⟨p,hp,hp2⟩:=Zx2.mp hw;refine wpAny_getItem_heap (ZAv hu) (Zhi I.hok eb) dd hp ?_;rw[hp2];exact h w' _ (I.tok _) rw'
theorem Zxp{Q:Value->Shared->Prop}(hu:A.units+1<cLine)(I:Inv X pins σ H s)(g:ZcI H a y o)(ry:RelV y u)(h:∀s',Inv X pins σ H s'->Q (.bool o.isSome) s') :
  wpAny (model X.prog X.w) A (Zy6 .In u (.ref a)) Q E s:=by
 rcases g with⟨kvs,k,e,ey,l⟩ | ⟨kvs,k,b,e,ey,eb,l⟩
 ·subst ey
  obtain⟨z,hd,vs,rel,dd⟩:=ZhZ I.hok e;refine wpAny_in_of (Zja ry) hd dd.mapOf ?_;rw[<-(rel.val k).isSome_eq,<-l];exact h _ (I.tok _)
 ·subst ey
  cases(show u=ZyZ b from ry);obtain⟨z,hd,xs,rel,dd⟩:=Zi6 I.hok e;refine wpAny_in_heap (ZAv hu) (Zhi I.hok eb) hd dd ?_;have q:=(rel.val k).isSome_eq;rw[Zzu]at q;rw[<-q,<-l];exact h _ (I.tok _)
theorem Zuu{Q:Value->Shared->Prop}(hu:A.units+1<cLine)(I:Inv X pins σ H s)(g:ZcI H a y o)(ry:RelV y u)(h:∀s',Inv X pins σ H s'->Q (.bool (!o.isSome)) s') :
  wpAny (model X.prog X.w) A (Zy6 .NotIn u (.ref a)) Q E s:=by
 rcases g with⟨kvs,k,e,ey,l⟩ | ⟨kvs,k,b,e,ey,eb,l⟩
 ·subst ey
  obtain⟨z,hd,vs,rel,dd⟩:=ZhZ I.hok e;refine wpAny_notIn_of (Zja ry) hd dd.mapOf ?_;rw[<-(rel.val k).isSome_eq,<-l];exact h _ (I.tok _)
 ·subst ey
  cases(show u=ZyZ b from ry);obtain⟨z,hd,xs,rel,dd⟩:=Zi6 I.hok e;refine wpAny_notIn_heap (ZAv hu) (Zhi I.hok eb) hd dd ?_;have q:=(rel.val k).isSome_eq;rw[Zzu]at q;rw[<-q,<-l];exact h _ (I.tok _)
theorem Zi8{h':Heap}{t':Nat}{ob:HO}(I:Inv X pins σ H s)(mu:Mut (H a))(hs:ZzT a s.heap h')(he:∃q,h'.get? a=some q)(new:Z8 X.prog X.w (upd H a ob) h' a ob) :
  Inv X pins σ (upd H a ob) { s with heap:=h',toks:=t' } :=
 I.write (x:=a) (e:=a) mu (.inl rfl) (λb q hb z=>(hs.2 b hb).trans z) he new
theorem ZrM{P:Program}{w:World}{H':Hp}{h':Heap}{kvs:List (Key × V)}{vs:List (Key × Value)}(z:kvs.length<=sizeLine)(hd:(a==Zzy)=false)(rel:KV kvs vs)(dd:h'.DictOf (ZaG P w) a vs) :
  Z8 P w H' h' a (.dK kvs):=⟨z,hd,vs,rel,dd⟩
theorem Zrr{H':Hp}{Q:Unit->Shared->Prop}(hu:A.units+1<cLine)(I:Inv X pins σ H s)(g:Zh5 H a y v H')(ry:RelV y u)(rv:RelV v r)(h:∀s',Inv X pins σ H' s'->Q () s') :
  wpAny (model X.prog X.w) A (setItem (.ref a) u r) Q E s:=by
 rcases g with⟨kvs,k,e,ey,l,eH⟩ | ⟨kvs,k,b,e,ey,eb,l,eH⟩
 ·subst ey eH
  obtain⟨z,hd,vs,rel,dd⟩:=Zqs I.hok e;have hz:vs.length<=sizeLine:=by rw[<-rel.length]; exact z
  have hl:(putK kvs k v).length<=sizeLine:=by have:=ZgZ kvs k v; omega
  refine wpAny_setItem_pairs (hsz:=hz) (Zja ry) dd λh' dd' hs=>h _ ?_;have he:∃q,h'.get? a=some q:=let ⟨q,_,_,hq,_⟩:=dd'; ⟨q,hq⟩
  exact Zi8 I (by rw[e]; exact ZAW) hs he (ZrM hl hd (rel.put k rv) dd')
 ·subst ey eH
  cases(show u=ZyZ b from ry);obtain⟨z,hd,xs,rel,dd⟩:=Zt9 I.hok e;have hz:xs.length<=sizeLine:=by rw[<-ZAt rel]; exact z
  have hl:(putK kvs k v).length<=sizeLine:=by have:=ZgZ kvs k v; omega
  refine wpAny_setItem_heap (hsz:=hz) (ZAv hu) (Zhi I.hok eb) dd λh' dd' hs=>h _ ?_;obtain⟨q,es,ep,hq,h2,h3,h4,_,h5⟩:=dd';refine Zi8 I (by rw[e]; exact ZAW) hs ⟨q,hq⟩ ⟨hl,hd,_,(rel.put k eb rv).keeps λc ys ec=>?_,q,es,ep,hq,h2,h3,h4,h5⟩;rw[ZB (Zt3 ec e (λz=>nomatch z))];exact ec
end
section
variable{X:Cx}{pins:List (Addr × Obj)}{σ:St}{H:Hp}{s:Shared}{a:Addr}{kvs:List (Key × V)}{k:Key}{u:Value}{A:Around}{E:Value->Shared->Prop}
theorem ZwP{Q:Value->Shared->Prop}(I:Inv X pins σ H s)(e:Rd H a (.dK kvs))(h:∀t s',Inv X pins σ H s'->Q (.int kvs.length t) s'):wpAny (model X.prog X.w) A (call (.builtin "len") [.ref a]) Q E s:=by obtain⟨z,hd,vs,rel,dd⟩:=ZhZ I.hok e;refine call_len_dict hd dd (by rw[<-rel.length]; rw[Zzo]at z; omega) ?_;rw[<-rel.length];exact h _ _ (I.tok _)
end
def ZoH(i:Expr):Prop:=∀ov iv,ZCp i false ov iv=operate [ov,iv] (getItem ov iv)
theorem Zu4{prog:Program}{w:World}{A:Around}{E:Value->Shared->Prop}{s:Shared}{env:Env}{value slice:Expr}{pos:Pos}{T id:String}{Q:Value->Shared->Prop}
  (hl:typeLookup (.type T) "__getitem__" = pure (some (.builtin id))) (hs:ZoH slice)
  (h:wpAny (model prog w) A (eval value env) (λo s₁=>wpAny (model prog w) A (eval slice env) (λi s₂=>s₂.TypeIs o T/\wpAny (model prog w) A (getItem o i) Q E s₂) E s₁) E s) :
  wpAny (model prog w) A (eval (.Subscript value slice pos) env) Q E s:=by
 refine Subscript_ (Zzg h (λo s₁ h₁=>Zzg h₁ (λi s₂ h₂=>?_) λ_ _ x=>x) λ_ _ x=>x);obtain⟨hT,h₂⟩:=h₂;unfold subscriptTail;refine ZxZ ?_;rw[getitemInPython_of_ne hT.not_modules];refine ZxZ (wpAny_specialOf hT hl ?_);have fin:wpAny (model prog w) A (ZCp slice false o i) (λr s₃=>wpAny (model prog w) A (letTemporaryGo value o r >>= λ_=>pure r) Q E s₃) E s₂:=by rw[hs o i];exact wpAny_operating (Zzg h₂ (λr s₃ h₃=>ZxZ (wpAny_letTemporaryGo (Zx5 h₃))) λ_ _ x=>x)
 first
  | exact Zx5 (ZxZ fin)
  | exact ZxZ (Zx5 (ZxZ fin))
  | exact ZxZ fin
theorem ZpC{X:Cx}{pins:List (Addr × Obj)}{σ:St}{H:Hp}{s:Shared}{a:Addr}{y:V}{o:Option V}(I:Inv X pins σ H s)(g:ZcI H a y o):s.TypeIs (.ref a) "dict":=by
 rcases g with⟨kvs,k,e,_,_⟩ | ⟨kvs,k,b,e,_,_,_⟩
 ·obtain⟨_,_,vs,_,dd⟩:=ZhZ I.hok e
  exact dd.typeIs
 ·obtain⟨_,_,xs,_,dd⟩:=Zi6 I.hok e
  exact dd.typeIs
def ZwX(td ty:TE):TE:=λσ H Q=>td σ H λx H1=>ty σ H1 λy H2=>∃a v,x=.ref a/\ZcI H2 a y (some v)/\Q v H2
def ZxI(ty td:TE):TE:=λσ H Q=>ty σ H λy H1=>td σ H1 λx H2=>∃a o,x=.ref a/\ZcI H2 a y o/\Q (.bl o.isSome) H2
def ZuH(ty td:TE):TE:=λσ H Q=>ty σ H λy H1=>td σ H1 λx H2=>∃a o,x=.ref a/\ZcI H2 a y o/\Q (.bl (!o.isSome)) H2
def ZwN(td ty tv:TE):TS:=λD σ H=>tv σ H λv H1=>td σ H1 λx H2=>ty σ H2 λy H3=>∃a H4,x=.ref a/\Zh5 H3 a y v H4/\D.nx σ H4
section
variable{X:Cx}{o i e value:Expr}{pos pos' tpos:Pos}{td ty tv:TE}
theorem Zk4(hu:X.A.units+1<cLine)(ho:PE X o td)(hi:PE X i ty)(hs:ZoH i):PE X (.Subscript o i pos) (ZwX td ty):=by intro pins s σ H Q I h;refine Zu4 PySem.F.slot_dict_getitem.lookup hs (thn (ho pins s σ H _ I h) λu s1 ⟨x,H1,I1,rx,q1⟩=>thn (hi pins s1 σ H1 _ I1 q1) λiv s2 ⟨y,H2,I2,ry,a,v,ex,g,q2⟩=>?_);subst ex;obtain rfl:u=ZyZ a:=rx;exact⟨ZpC I2 g,ZrO hu I2 g ry λw' s3 I3 rw'=>⟨v,H2,I3,rw',q2⟩⟩
theorem ZvR(hu:X.A.units+1<cLine)(hi:PE X i ty)(ho:PE X o td):PC X .In i o (ZxI ty td):=by intro pins s σ H Q I h;refine thn (hi pins s σ H _ I h) λiv s1 ⟨y,H1,I1,ry,q1⟩=>thn (ho pins s1 σ H1 _ I1 q1) λu s2 ⟨x,H2,I2,rx,a,ov,ex,g,q2⟩=>?_;subst ex;obtain rfl:u=ZyZ a:=rx;exact Zxp hu I2 g ry λs3 I3=>⟨.bl ov.isSome,H2,I3,rfl,q2⟩
theorem ZlL(hu:X.A.units+1<cLine)(hi:PE X i ty)(ho:PE X o td):PC X .NotIn i o (ZuH ty td):=by intro pins s σ H Q I h;refine thn (hi pins s σ H _ I h) λiv s1 ⟨y,H1,I1,ry,q1⟩=>thn (ho pins s1 σ H1 _ I1 q1) λu s2 ⟨x,H2,I2,rx,a,ov,ex,g,q2⟩=>?_;subst ex;obtain rfl:u=ZyZ a:=rx;exact Zuu hu I2 g ry λs3 I3=>⟨.bl (!ov.isSome),H2,I3,rfl,q2⟩
theorem Zlo(hu:X.A.units+1<cLine)(ho:PE X o td)(hi:PE X i ty)(hv:PE X value tv)(hs:Zz3 value (some (.Subscript o i pos')) pos.line X.env=pure false) :
  PS X (.Assign [.Subscript o i pos'] value pos) (ZwN td ty tv):=by
 intro pins s σ H D I h;refine wpAny_Assign_Subscript (thn (hv pins s σ H _ I h) λr s1 ⟨v,H1,I1,rv,q1⟩=>thn (ho pins s1 σ H1 _ I1 q1) λu s2 ⟨x,H2,I2,rx,q2⟩=>thn (hi pins s2 σ H2 _ I2 q2) λiv s3 ⟨y,H3,I3,ry,a,H4,ex,g,q3⟩=>?_) hs;subst ex;obtain rfl:u=ZyZ a:=rx;exact Zrr hu I3 g ry rv λs4 I4=>⟨σ,H4,I4,q3⟩
end
theorem ZoC{P:Program}{w:World}{H:Hp}(h:Heap)(hb:Zzy<h.objs.size):Z8 P w H (h.push { cls:=.type "dict",data:=.dict #[] }) h.objs.size (.dK []) :=
 ⟨Zzr _,beq_eq_false_iff_ne.mpr (Zy1 (Zyp hb)),[],.nil,Heap.DictOf.new h⟩
theorem ZtG{P:Program}{w:World}{H:Hp}(h:Heap)(hb:Zzy<h.objs.size):Z8 P w H (h.push { cls:=.type "dict",data:=.dict #[] }) h.objs.size (.dT []) :=
 ⟨Zzr _,beq_eq_false_iff_ne.mpr (Zy1 (Zyp hb)),[],.nil,_,#[],0,Zyi _ rfl,⟨rfl,rfl,rfl⟩,rfl,rfl,ZzH⟩
def Zv4:TE:=λ_ H Q=>∀p,H p=none->Q (.ref p) (upd H p (.dK []))
def Zvj:TE:=λ_ H Q=>∀p,H p=none->Q (.ref p) (upd H p (.dT []))
section
variable{X:Cx}{pos:Pos}
theorem Ztu:PE X (.Dict [] [] pos) Zv4:=λpins s σ H Q I h=>wpAny_Dict_empty ⟨.ref s.heap.objs.size,_,I.laid (a:=s.heap.objs.size) (o:=.dK []) (t':=s.toks) (λ_ _ q=>Zx7 _ q) (Zyb _) (ZoC s.heap I.big),rfl,h _ (I.hok.fresh (Zyb _))⟩
theorem ZoS:PE X (.Dict [] [] pos) Zvj:=λpins s σ H Q I h=>wpAny_Dict_empty ⟨.ref s.heap.objs.size,_,I.laid (a:=s.heap.objs.size) (o:=.dT []) (t':=s.toks) (λ_ _ q=>Zx7 _ q) (Zyb _) (ZtG s.heap I.big),rfl,h _ (I.hok.fresh (Zyb _))⟩
end
def ZnQ:List (TE × TE)->St->Hp->(List (V × V)->Hp->Prop)->Prop
 | [],_,H,Q=>Q [] H
 | (tk,tv)::r,σ,H,Q=>tk σ H λx H1=>tv σ H1 λy H2=>ZnQ r σ H2 λps H3=>Q ((x,y)::ps) H3
abbrev VV:List (V × V)->List (Value × Value)->Prop:=Paired λp q=>RelV p.1 q.1/\RelV p.2 q.2
def PPs(X:Cx)(pos:Pos)(keys:List (Option Expr))(values:List Expr)(trs:List (TE × TE)):Prop :=
 ∀(pins:List (Addr × Obj)) (s:Shared) (σ:St) (H:Hp) (Q:List (V × V)->Hp->Prop),Inv X pins σ H s->ZnQ trs σ H Q ->
  wpAny (model X.prog X.w) X.A (evalPairs (pairTrees keys values X.env pos)) (λvs s'=>∃ps H',Inv X pins σ H' s'/\VV ps vs/\Q ps H') X.xe s
theorem Zun{X:Cx}{pos:Pos}:PPs X pos [] [] []:=λpins s σ H Q I h=>pairTrees_nil_walk ⟨[],H,I,.nil,h⟩
theorem ZsP{X:Cx}{pos:Pos}{k v:Expr}{ks:List (Option Expr)}{vs:List Expr}{tk tv:TE}{trs:List (TE × TE)}(hk:PE X k tk)(hv:PE X v tv)(hr:PPs X pos ks vs trs) :
  PPs X pos (some k::ks) (v::vs) ((tk,tv)::trs):=λpins s σ H Q I h =>
 pairTrees_cons_walk (thn (hk pins s σ H _ I h) λu s1 ⟨x,H1,I1,rx,q1⟩=>thn (hv pins s1 σ H1 _ I1 q1) λw2 s2 ⟨y,H2,I2,ry,q2⟩=>thn (hr pins s2 σ H2 _ I2 q2) λws s3 ⟨ps,H3,I3,rel,q3⟩=>⟨(x,y)::ps,H3,I3,.cons ⟨rx,ry⟩ rel,q3⟩)
def Zha(kvs more:List (Key × V)):List (Key × V):=more.foldl (λacc kv=>putK acc kv.1 kv.2) kvs
theorem KV.merge:∀{more:List (Key × V)} {rs:List (Key × Value)} {kvs:List (Key × V)} {vs:List (Key × Value)},KV more rs->KV kvs vs->KV (Zha kvs more) (merged vs rs):=by
 intro more rs kvs vs r;unfold KV at r
 induction r generalizing kvs vs with
 | nil=>intro q; exact q
 | @cons p q ps qs h t ih =>
  intro r0;have e:KV (putK kvs p.1 p.2) (stored vs q.1 q.2):=by have:=r0.put p.1 h.2;rw[<-h.1]; exact this
  exact ih e
theorem Zic:∀(more kvs:List (Key × V)),(Zha kvs more).length<=kvs.length+more.length
 | [],kvs=>by show kvs.length<=kvs.length+0; omega
 | p::r,kvs=>by have h1:=Zic r (putK kvs p.1 p.2);have h2:=ZgZ kvs p.1 p.2;show(Zha (putK kvs p.1 p.2) r).length<=_;rw[Zyg]; omega
theorem ZkD{P:Program}{w:World}:∀{kvs:List (Key × V)} {ws:List (Value × Value)},VV (kvs.map λkv=>(kV kv.1,kv.2)) ws->∃rs,Carries (ZaG P w) ws rs/\KV kvs rs
 | [],_,r=>by rw[ZzU]at r; cases r; exact⟨[],ZAW,.nil⟩
 | p::kvs,_,r=>by
  rw[Zx6]at r;cases r with
  | @cons a b as bs h t=>obtain⟨rs,c,q⟩:=ZkD (P:=P) (w:=w) t;obtain⟨b1,b2⟩:=b;exact⟨(p.1,b2)::rs,⟨Zja h.1,rfl,c⟩,.cons ⟨rfl,h.2⟩ q⟩
def ZwI(trs:List (TE × TE)):TE:=λσ H Q=>∀p,H p=none->ZnQ trs σ (upd H p (.dK [])) λps H2=>H2 p=some (.dK [])/\∃kvs:List (Key × V),ps=kvs.map (λkv=>(kV kv.1,kv.2))/\kvs.length<=15/\Q (.ref p) (upd H2 p (.dK (Zha [] kvs)))
theorem Zum{X:Cx}{pos:Pos}{keys:List (Option Expr)}{values:List Expr}{trs:List (TE × TE)}(h:PPs X pos keys values trs)(hall:keys.all (·.isSome)=true)(hl:keys.length=values.length)(h0:keys≠[])
  (h15:keys.length<=15):PE X (.Dict keys values pos) (ZwI trs):=by
 intro pins s σ H Q I q;have hn:=I.hok.fresh (Zyb s.heap.objs.size);have I1:=I.laid (a:=s.heap.objs.size) (o:=.dK []) (h':=s.heap.push { cls:=.type "dict",data:=.dict #[] }) (t':=s.toks) (λ_ _ q=>Zx7 _ q) (Zyb _) (ZoC s.heap I.big);refine wpAny_Dict_walk (knd:=ZaG X.prog X.w) hall hl h0 h15 (thn (h pins _ σ _ _ I1 (q _ hn)) λws s2 ⟨ps,H2,I2,rel,e,kvs,ep,lk,q2⟩=>?_);subst ep;obtain⟨rs,c,rk⟩:=ZkD (P:=X.prog) (w:=X.w) rel;obtain⟨z,hd,vs0,r0,dd⟩:=Zqs I2.hok e;cases r0;refine⟨rs,c,dd,λh' dd' hs=>⟨.ref s.heap.objs.size,_,?_,rfl,q2⟩⟩;have hz:(Zha [] kvs).length<=sizeLine:=by have h1:=Zic kvs [];rw[ZCh]at h1;rw[Zzo]; omega
 have he:∃q,h'.get? s.heap.objs.size=some q:=let ⟨q,_,_,hq,_⟩:=dd'; ⟨q,hq⟩
 exact Zi8 I2 (by rw[e]; exact ZAW) hs he (ZrM hz hd (rk.merge .nil) dd')
structure M2(X:Cx)(o:Expr)(m:Str)(apos:Pos)(e f:Expr)(cpos:Pos):Prop where
 base:Zz9 o m X.env (eval o X.env)=eval o X.env
 few:((backTo cpos (Zyc [e,f] X.env)).all (λx=>!x.1)&&(ZB8 cpos (ZA9 [] X.env)).all (λx=>x.1.isSome)
  && decide (([e,f]:List Expr).length+([]:List Keyword).length+(if([]:List Keyword).isEmpty then 0 else 1)<30))=true
 line:(apos.endLine==cpos.line)=true
 trees:backTo cpos (Zyc [e,f] X.env)=[(false,eval e X.env),(false,eval f X.env)]
def IsD(H:Hp)(a:Addr):Prop:=(∃kvs,Rd H a (.dK kvs))\/∃kvs,Rd H a (.dT kvs)
theorem Zwt{X:Cx}{pins:List (Addr × Obj)}{σ:St}{H:Hp}{s:Shared}{a:Addr}(I:Inv X pins σ H s)(d:IsD H a) :
  s.TypeIs (.ref a) "dict"/\(∀b,ZyZ a=.ref b->∃ob,s.heap.get? b=some ob/\ob.dict=none)/\(a==Zzy)=false:=by
 rcases d with⟨kvs,e⟩ | ⟨kvs,e⟩
 ·obtain⟨_,hd,vs,_,dd⟩:=ZhZ I.hok e
  refine⟨dd.typeIs,λb q=>?_,hd⟩;cases q;obtain⟨ob,_,_,h1,h2,_⟩:=dd;exact⟨ob,h1,h2.2.1⟩
 ·obtain⟨_,hd,xs,_,dd⟩:=Zi6 I.hok e
  refine⟨dd.typeIs,λb q=>?_,hd⟩;cases q;obtain⟨ob,_,_,h1,h2,_⟩:=dd;exact⟨ob,h1,h2.2.1⟩
end L2
namespace Att
open PySem PySem.W PySem.Calls PyProof.Rows
theorem ZkC{P:Params}{h:Heap}:∀(ns:List Int) (vs:List Value),WellAll P h vs (ns.map WData.int)->IntsAre vs ns:=by
 intro ns
 induction ns with
 | nil=>intro vs w;rw[ZzU]at w;cases w;exact .nil
 | cons n ns ih =>
  intro vs w;rw[Zx6]at w;cases w with
  | cons a b=>cases a;exact .cons _ _ (ih _ b)
theorem Zsj{l:OpenLaw}{n:Nat}(hn:l.most=some n){P:Params}{h:Heap}{args:List WData}{vals:List Value}
  (hpre:l.row.toRowW.claim.pre args=true) (hwl:WellAll P h vals args) :
  ∃a vs ns,vals=[ZyZ a]/\args=[WData.list (ns.map WData.int)]/\h.get? a=some { cls:=.type "list",data:=.seq vs.toArray }/\IntsAre vs ns/\ns.length<=n:=by
 have hsh:WShape.hasAll [] args [.list .int]=true:=(pre_splitW hpre).1;have hc:l.pre.holds [] { args:=args }=true:=(pre_splitW hpre).2;obtain⟨d,r,rfl,h1,h2⟩:=hasAllW_cons hsh;obtain rfl:=hasAllW_nil h2;obtain⟨xs,rfl,h3⟩:=hasW_list h1;obtain⟨ns,rfl⟩:=items_int h3;have hlen:ns.length<=n:=by
  unfold OpenLaw.pre at hc;have h4:(WTm.not (.lt (.lit (.int (n:Int))) (.len (.arg 0)))).holds [] { args:=[.list (ns.map .int)] }=true:=by have h4:=(holds_andW hc).1;rw[hn]at h4;exact h4
  have h5:=condW_of h4 (w_not (w_lt w_lit (w_len_list (w_arg rfl))));rw[Zx1]at h5;refine ZAG λq=>?_;have q':(n:Int)<((ns.length:Nat):Int):=by omega
  first
   | (rw[decide_eq_true q']at h5; exact absurd h5 (by decide))
   | (simp at h5; omega)
 cases hwl with
 | cons w1 w2 =>
  cases w2;cases w1 with
  | list ho hall=>exact⟨_,_,ns,rfl,rfl,ho,ZkC ns _ hall,hlen⟩
theorem ZrQ(l:OpenLaw)(args:List WData):l.row.toRowW.claim.post args (.bool true) args=true :=
 postW_of (r:=l.row.toRowW) (X:=(true==true))
  (show WShape.has [] (.bool true) .bool=true by first | rfl | decide | simp[WShape.has,WShape.arms,WShape.armsAll])
  (show(WTm.eq .res (.lit (.bool true))).value [] { args:=args,res:=some (.bool true),after:=args }=some (.bool (true==true)) from w_eq_bool (w_res rfl) w_lit) rfl
theorem ZpE{l:OpenLaw}{n:Nat}{q:Program}{loose:List Str}{XP:(Str->Option Value)->Heap->Prop}{YP:World->Heap->Prop}{d:DefRec}
  (hn:l.most=some n) (hdf:d.params.defaults=[])
  (call:∀(w:World) (s₀ s₁:Shared) (mg mb:Str->Option Value) (fa:Addr) (o:Obj) (pm cd doc:Value) (a:Addr) (vs:List Value) (ns:List Int),
   Ground q loose [] XP w s₀ mg mb s₁.heap->YP w s₁.heap ->
   s₁.heap.get? fa=some o->o.data=.func (docDef d.name d.params d.body d.scope pm cd doc)->s₁.heap.CodeRec cd d.name->mg d.name=some (.ref fa) ->
   s₁.heap.get? a=some { cls:=.type "list",data:=.seq vs.toArray }->IntsAre vs ns->ns.length<=n->s₁.gens=#[] ->
   codeAny (model l.prog w) callerA (.call (.ref fa) ⟨[.ref a],[]⟩) (λr s'=>r=.ok (.ret (.bool true))/\OldK s₁.heap s'.heap/\s'.os=s₁.os/\AllBare s'.gens) s₁) :
  WalkO q loose XP YP l.row.toRowW d [] (λf vs=>PySem.call f vs):=by
 intro w s₀ s₁ mg mb G Y fa o pm cd doc dV kV ho hd hcd hD hmg hg args vals as hpre hlay hrd hwl hlo;obtain rfl:dV=.none:=Dflts.none hD hdf;obtain rfl:kV=.none:=Dflts.noKw hD;obtain⟨a,vs,ns,rfl,rfl,hobj,hints,hlen⟩:=Zsj hn hpre hwl;refine enter_call (Zz4 (call w s₀ s₁ mg mb fa o pm cd doc a vs ns G Y ho (fd_plain hd) hcd hmg hobj hints hlen hg) λr s' hq=>?_);obtain⟨rfl,h2,h3,h4⟩:=hq;exact⟨.inl ⟨.bool true,.bool true,[],rfl,λ_=>rfl,.bool true,ZrQ l _,λ_=>⟨List.Pairwise.nil,λ_ hm=>(nomatch hm)⟩⟩,h2,h3,h4⟩
end Att
namespace L2
open PySem PySem.Spec PyProof.Rows
theorem Zl2:∀{vs:List Value} {ns:List Int},IntsAre vs ns->Vals (ns.map V.int) vs
 | _,_,.nil=>.nil
 | _,_,.cons n t h=>.cons ⟨t,rfl⟩ (Zl2 h)
end L2
namespace L2
open PySem PySem.Spec PyProof.Rows
end L2
namespace L2
open PySem PySem.Spec PyProof.Rows
def Zci(s:Stmt):Arguments:=match s with
 | .FunctionDef _ a _ _ _ _ _ _ _ _=>a
 | _=>{ posonlyargs:=[],args:=[],vararg:=none,kwonlyargs:=[],kw_defaults:=[],kwarg:=none,defaults:=[] }
def ZaR(s:Stmt):List Stmt:=match s with
 | .FunctionDef _ _ b _ _ _ _ _ _ _=>b
 | _=>[]
def Ze(s:Stmt):Scope:=match s with
 | .FunctionDef _ _ _ _ _ _ sc _ _ _=>sc
 | _=>{ kind:=.function,names:=[],isGenerator:=false,isCoroutine:=false }
abbrev CX0:CXT:=λ_ _ _ _ _ _=>False
abbrev E0:XK:=λ_ _ _=>False
theorem ZmJ{X:Cx}:Passes CX0 X E0:=λ_ _ _ _ _ _ _ h=>h.elim
structure Fun(K:Zx0)(x qual:Str)(st:Stmt)(f:Addr)(fd:FuncData):Prop where
 ex:∃(oc:Value) (od:Option Addr) (kV doc pm:Value) (an:Option Addr) (cdv ct:Value) (osl:Array (Option Value)),
  fd=Zzj x qual (Zci st) (ZaR st) (Ze st) .none kV doc pm an cdv ct/\K.lookup f=some ⟨oc,od,.func fd,osl⟩/\Zz1 K cdv qual=true
 kp:Zzp K (.ref f)=true
section
variable{P:Program}{w:World}{K:Zx0}{mg:Str->Option Value}{base:Heap}
theorem Fun.ok{x qual:Str}{st:Stmt}{f:Addr}{fd:FuncData}{N ps:List Str}{k:Nat}{sp:Sp}(F:Fun K x qual st f fd)(S:Zw N ps (Ze st))(len:∀vs H Q E,sp vs H Q E->vs.length=ps.length)
  (hbody:∀(cdv:Value) (A:Around) (outer:List Env) (s:Shared) (H:Hp) (vs:List V) (Q:VK) (E:XK),Zag k (A.deeper (envOfC qual (Ze st) s.heap.objs.size f cdv))->sp vs H Q E ->
   ∃t,PSs (Zga CX0 P w K mg base N qual (Ze st) f cdv A outer s H E).nox (ZaR st) t/\t { nx:=λ_ H'=>Q .non H',rt:=Q } (start N vs) H):Zds P w K mg base CX0 (k+1) f fd ps sp:=by
 obtain⟨oc,od,kV,doc,pm,an,cdv,ct,osl,rfl,lk,hcd⟩:=F.ex;refine Zt8 lk hcd S len λA outer s H vs Q E hr hsp=>?_;obtain⟨t,h,q⟩:=hbody cdv A outer s H vs Q E hr hsp;exact⟨t,h.nox,q⟩
theorem Fun.binds{x qual:Str}{st:Stmt}{f:Addr}{fd:FuncData}{ps:List Str}(F:Fun K x qual st f fd)
  (h:∀(kV doc pm:Value) (an:Option Addr) (cdv ct:Value) (us:List Value),us.length=ps.length->bindArgs (Zzj x qual (Zci st) (ZaR st) (Ze st) .none kV doc pm an cdv ct) ⟨us,[]⟩=pure (ps.zip us)):Binds K fd ps []:=by
 obtain⟨oc,od,kV,doc,pm,an,cdv,ct,osl,rfl,lk,hcd⟩:=F.ex;exact .all (h kV doc pm an cdv ct)
theorem ZnF{x qual:Str}{st:Stmt}{f:Addr}{oc:Value}{od an:Option Addr}{osl:Array (Option Value)}{kV doc pm cdv ct:Value}(l:K.lookup f=some ⟨oc,od,.func (Zzj x qual (Zci st) (ZaR st) (Ze st) .none kV doc pm an cdv ct),osl⟩)
  (c:Zz1 K cdv qual=true) (k:Zzp K (.ref f)=true):Fun K x qual st f (Zzj x qual (Zci st) (ZaR st) (Ze st) .none kV doc pm an cdv ct):=⟨⟨oc,od,kV,doc,pm,an,cdv,ct,osl,rfl,l,c⟩,k⟩
end
theorem ZH{A:Around}{k:Nat}(hr:Zag k A):A.units+1<cLine:=Nat.lt_of_le_of_lt (Nat.add_le_add_left (by decide:1<=64) _) hr.units
theorem Zlg{A B:Prop}(h:B):if false=true then A else B:=by rw[if_neg ZyI];exact h
theorem Zk8{A B:Prop}(h:A):if true=true then A else B:=by rw[if_pos rfl];exact h
def Zq(H H':Hp):Prop:=∀b o,H b=some o->H' b=some o
theorem Zq.refl(H:Hp):Zq H H:=λ_ _ h=>h
theorem Zq.trans{H H1 H2:Hp}(a:Zq H H1)(b:Zq H1 H2):Zq H H2:=λc o h=>b c o (a c o h)
theorem Zq.free{H H':Hp}(e:Zq H H'){l:Addr}(h:H' l=Option.none):H l=Option.none:=by
 cases q:H l with
 | none=>rfl
 | some o=>rw[e l o q]at h;cases h
theorem Zq.seq{K:Zx0}{H H':Hp}{a:Addr}{xs:List V}(e:Zq H H')(h:SqL K H a xs):SqL K H' a xs:=by
 rcases h with(h | ⟨o,h⟩) | h
 ·exact .inl (.inl (e _ _ h))
 ·exact .inl (.inr ⟨o,e _ _ h⟩)
 ·exact .inr h
end L2
namespace L2
open PySem PySem.Spec PyProof.Rows
section
variable{X:Cx}
theorem Zrt:ZaZ X (.builtin "len") (λxs H Q=>∃a kvs,xs=[V.ref a]/\H a=some (.dK kvs)/\Q (.int kvs.length) H):=by intro pins s σ H xs us Q I r h;obtain⟨a,kvs,rfl,ha,q⟩:=h;obtain⟨u,rfl,ru⟩:=vals1 r;cases ru;exact ZwP I (.inl ha) λt s' I'=>⟨.int kvs.length,H,I',⟨t,rfl⟩,q⟩
end
end L2
namespace HM
open PySem
abbrev D:=PyData
abbrev Ky:=Sum Int Str
inductive B where
 | pl (d:D)
 | ol (ds:List D)
 | ok (kvs:List (Ky × D))
 | ot (kvs:List (List Ky × D))
 | otl (kvs:List (List Ky × List D))
 | hd (es:List (D × D))
abbrev Env:=List (Option B)
inductive Out where
 | nx (r:Env)
 | rt (d:D)
 | bk (r:Env)
 | ct (r:Env)
abbrev EF:=Env->Option D
abbrev BF:=Env->Option B
abbrev TF:=Env->Option Bool
abbrev IF:=Env->Option (List D)
abbrev AF:=Env->Option (List D)
abbrev SF:=Env->Option Out
@[simp] def big:Nat:=1000000
@[simp] def Zc(i:Nat):EF:=λr=>match r[i]? with
 | some (some (.pl d))=>some d
 | _=>none
@[simp] def Zo(i:Nat):BF:=λr=>match r[i]? with
 | some (some b)=>some b
 | _=>none
@[simp] def bOf(f:EF):BF:=λr=>(f r).map B.pl
def ZaE:Ky->D
 | .inl i=>.int i
 | .inr x=>.str x
def Zg(kvs:List (List Ky × D)):List (D × D):=kvs.map λp=>(.tuple (p.1.map ZaE),p.2)
@[simp] def frz:B->Option D
 | .pl d=>some d
 | .ol ds=>some (.list ds)
 | .ot kvs=>some (.dict (Zg kvs))
 | .hd es=>some (.dict es)
 | _=>none
@[simp] def eOf(f:BF):EF:=λr=>(f r).bind frz
@[simp] def eC(d:D):EF:=λ_=>some d
@[simp] def op2(g:D->D->Option D)(a b:EF):EF:=λr=>match a r with
 | some x=>match b r with
  | some y=>g x y
  | none=>none
 | none=>none
@[simp] def Zfs(g:Int->Int->Option D):D->D->Option D
 | .int i,.int j=>g i j
 | _,_=>none
def ZY(i:Int):Bool:=Nat.blt i.natAbs 18446744073709551616
@[simp] def Zbo(x y:D):Option D:=Zfs (λi j=>some (.int (i+j))) x y
@[simp] def Zld(x y:D):Option D:=Zfs (λi j=>some (.int (i-j))) x y
@[simp] def Zdc(x y:D):Option D:=Zfs (λi j=>if ZY i||ZY j then some (.int (i*j))else none) x y
@[simp] def ZtO(x y:D):Option D:=Zfs (λi j=>if 0<j then some (.int (i % j))else none) x y
@[simp] def gLt(x y:D):Option D:=Zfs (λi j=>some (.bool (decide (i<j)))) x y
@[simp] def gLe(x y:D):Option D:=Zfs (λi j=>some (.bool (decide (i<=j)))) x y
@[simp] def gGt(x y:D):Option D:=Zfs (λi j=>some (.bool (decide (j<i)))) x y
def Zad(d:D):Bool:=d.canLay0&&decide (d.depth<=60)
@[simp] def gEq(a b:D):Option D:=if Zad a&&Zad b then some (.bool (Zy4 a b))else none
@[simp] def gNe(a b:D):Option D:=if Zad a&&Zad b then some (.bool (!PyData.eqv a b))else none
@[simp] def Zny(a b:D):Option D:=match b with
 | .none=>match a with
  | .none=>some (.bool true)
  | _=>some (.bool false)
 | _=>none
@[simp] def ZeG(a b:D):Option D:=match b with
 | .none=>match a with
  | .none=>some (.bool false)
  | _=>some (.bool true)
 | _=>none
@[simp] def Zkv(g g':D->D->Option D)(a b c:EF):EF:=λr=>match a r with
 | some x=>match b r with
  | some y=>match g x y with
   | some (.bool true)=>match c r with
    | some z=>g' y z
    | none=>none
   | some (.bool false)=>some (.bool false)
   | _=>none
  | none=>none
 | none=>none
@[simp] def Zgi(a b:EF):EF:=λr=>match a r with
 | some (.bool true)=>b r
 | some (.bool false)=>some (.bool false)
 | _=>none
@[simp] def tV(a:EF):TF:=λr=>match a r with
 | some (.bool b)=>some b
 | _=>none
@[simp] def ZeS(a:TF):TF:=λr=>(a r).map (!·)
@[simp] def ZoM(a b:TF):TF:=λr=>match a r with
 | some true=>b r
 | some false=>some false
 | none=>none
@[simp] def tOr(a b:TF):TF:=λr=>match a r with
 | some true=>some true
 | some false=>b r
 | none=>none
@[simp] def eIf(c:TF)(a b:EF):EF:=λr=>match c r with
 | some true=>a r
 | some false=>b r
 | none=>none
@[simp] def Zbe:B->Option (List D)
 | .pl (.tuple ds)=>some ds
 | .pl (.list ds)=>some ds
 | .ol ds=>some ds
 | _=>none
def ixN(n:Nat)(i:Int):Option Nat :=
 if 0<=i then(if i<n then some i.toNat else none)else(if -(n:Int)<=i then some (i+n).toNat else none)
def atD(ds:List D)(i:Int):Option D:=match ixN ds.length i with
 | some j=>ds[j]?
 | none=>none
@[simp] def eIx(a:BF)(b:EF):EF:=λr=>match a r with
 | some x=>match Zbe x with
  | some ds=>match b r with
   | some (.int i)=>atD ds i
   | _=>none
  | none=>none
 | none=>none
@[simp] def ZxM:B->Option Nat
 | .pl (.tuple ds)=>some ds.length
 | .pl (.list ds)=>some ds.length
 | .ol ds=>some ds.length
 | .ok kvs=>some kvs.length
 | _=>none
@[simp] def Za8(a:BF):EF:=λr=>match a r with
 | some x=>(ZxM x).map λ(n:Nat)=>ZyG (n:Int)
 | none=>none
@[simp] def ZaC(a:BF):EF:=λr=>match a r with
 | some x=>(Zbe x).map λds=>.tuple ds
 | none=>none
@[simp] def Zhl(a:BF):BF:=λr=>match a r with
 | some x=>(Zbe x).map λds=>.ol ds
 | none=>none
def Ze8:List D->Option (List Bool)
 | []=>some []
 | .bool b::r=>(Ze8 r).map (b::·)
 | _::_=>none
@[simp] def Zlk:B->Option (List D)
 | .pl (.list ds)=>some ds
 | .ol ds=>some ds
 | _=>none
@[simp] def ZiK(a:BF):EF:=λr=>match a r with
 | some x=>match Zlk x with
  | some ds=>(Ze8 ds).map λbs=>.bool (bs.all id)
  | none=>none
 | none=>none
@[simp] def Zn:AF:=λ_=>some []
@[simp] def Zd(a:EF)(b:AF):AF:=λr=>match a r with
 | some x=>(b r).map (x::·)
 | none=>none
@[simp] def ZeR(a:AF):EF:=λr=>(a r).map λds=>.tuple ds
@[simp] def ZeC(a:AF):BF:=λr=>(a r).map λds=>.ol ds
inductive Ty where
 | bool | int | str | tuple | list | dict
@[simp] def Zh0:Ty->D->Bool
 | .bool,.bool _=>true
 | .int,.int _=>true
 | .int,.bool _=>true
 | .str,.str _=>true
 | .tuple,.tuple _=>true
 | .list,.list _=>true
 | .dict,.dict _=>true
 | _,_=>false
@[simp] def Zft(a:EF)(t:Ty):EF:=λr=>match a r with
 | some (.dict _)=>none
 | some d=>some (.bool (Zh0 t d))
 | none=>none
@[simp] def Zwk(x y:D):Option D:=Zfs (λi j=>some (.int (if j > i then j else i))) x y
@[simp] def Zwe(x y:D):Option D:=Zfs (λi j=>some (.int (if j<i then j else i))) x y
@[simp] def Zn1(a:EF):EF:=λr=>match a r with
 | some (.int i)=>some (.int i)
 | some (.bool b)=>some (.int (if b then 1 else 0))
 | _=>none
@[simp] def Zlb(a b:BF):BF:=λr=>match a r with
 | some (.ol xs)=>match b r with
  | some (.ol ys)=>if xs.length+ys.length<big then some (.ol (xs++ys))else none
  | _=>none
 | _=>none
@[simp] def Ztb(a:BF)(b:EF):BF:=λr=>match a r with
 | some (.ol xs)=>match b r with
  | some (.int k)=>if decide (k.natAbs<1000)&&decide (xs.length<1000)then some (.ol (ZyA k.toNat xs).flatten)else none
  | _=>none
 | _=>none
def sIx(n d:Nat):Option Int->Nat
 | none=>d
 | some v=>if v<0 then(v+(n:Int)).toNat else min v.toNat n
def cutD(xs:List D)(lo hi:Option Int):List D:=(xs.drop (sIx xs.length 0 lo)).take (sIx xs.length xs.length hi-sIx xs.length 0 lo)
@[simp] def Zqv(a:Option EF)(r:Env):Option (Option Int):=match a with
 | none=>some none
 | some f=>match f r with
  | some (.int i)=>some (some i)
  | _=>none
@[simp] def ZtC(a:BF)(lo hi:Option EF):BF:=λr=>match a r with
 | some x=>match Zlk x with
  | some xs=>match Zqv lo r with
   | some l=>match Zqv hi r with
    | some h=>some (.ol (cutD xs l h))
    | none=>none
   | none=>none
  | none=>none
 | none=>none
def ZaI:List D->Option (List Int)
 | []=>some []
 | .int i::r=>(ZaI r).map (i::·)
 | _::_=>none
def Zjl:List D->Option (List (List Int))
 | []=>some []
 | .tuple ds::r=>match ZaI ds with
  | some ns=>(Zjl r).map (ns::·)
  | none=>none
 | _::_=>none
def lexLt:List Int->List Int->Bool
 | [],[]=>false
 | [],_::_=>true
 | _::_,[]=>false
 | a::r,b::q=>if a=b then lexLt r q else decide (a<b)
def sortI(ns:List Int):List Int:=ns.mergeSort λa b=>decide (a<=b)
def Zco(ts:List (List Int)):List (List Int):=ts.mergeSort λa b=>!lexLt b a
def ofInts(ns:List Int):List D:=ns.map λi=>ZyG i
def Zfe(ts:List (List Int)):List D:=ts.map λt=>ZyT (ofInts t)
def ZdF(ds:List D):Option (List D) :=
 if ds.length<64 then match ZaI ds with
  | some ns=>some (ofInts (sortI ns))
  | none=>match Zjl ds with
   | some ts=>if ds.length<2||ts.all (λt=>!t.isEmpty)then some (Zfe (Zco ts))else none
   | none=>none
 else none
@[simp] def Zt7:B->Option (List D)
 | .pl (.tuple ds)=>some ds
 | .pl (.list ds)=>some ds
 | .ol ds=>some ds
 | .ok kvs=>some (kvs.map λp=>ZaE p.1)
 | .ot kvs=>some (kvs.map λp=>.tuple (p.1.map ZaE))
 | .otl kvs=>some (kvs.map λp=>.tuple (p.1.map ZaE))
 | _=>none
@[simp] def Zc9(a:BF):BF:=λr=>match a r with
 | some x=>match Zt7 x with
  | some ds=>(ZdF ds).map λds=>.ol ds
  | none=>none
 | none=>none
def dedup:List Int->List Int->List Int
 | acc,[]=>acc
 | acc,i::r=>if acc.contains i then dedup acc r else dedup (acc++[i]) r
def Zq0(ns:List Int):Bool:=ns.all λn=>decide (0<=n)&&decide (n<8)
@[simp] def ZfF(a:BF):BF:=λr=>match a r with
 | some x=>match Zlk x with
  | some ds=>match ZaI ds with
   | some ns=>if Zq0 ns then some (.ol (ofInts (sortI (dedup [] ns))))else none
   | none=>none
  | none=>none
 | none=>none
@[simp] def Zl(m:List D->Option D)(a:AF):EF:=λr=>match a r with
 | some ds=>m ds
 | none=>none
@[simp] def Zah(a:BF):IF:=λr=>match a r with
 | some x=>Zbe x
 | none=>none
def ZbS(lo:Int)(n:Nat):List D:=(Zx8 n).map λ(k:Nat)=>ZyG (lo+(k:Int))
def okR(j:Int):Bool:=Nat.blt j.natAbs 1000000
@[simp] def Zcs(a:EF):IF:=λr=>match a r with
 | some (.int j)=>if okR j then some (ZbS 0 j.toNat)else none
 | _=>none
@[simp] def Zjh(a b:EF):IF:=λr=>match a r with
 | some (.int i)=>match b r with
  | some (.int j)=>if okR i&&okR j then some (ZbS i (j-i).toNat)else none
  | _=>none
 | _=>none
@[simp] def Zke(i:IF):EF:=λr=>match i r with
 | some ds=>if ds.length<big then some (.tuple ds)else none
 | none=>none
def Zay(c:TF)(e:EF)(r:Env):List D->Option (List D)
 | []=>some []
 | x::xs=>match c (some (.pl x)::r)with
  | some true=>match e (some (.pl x)::r)with
   | some y=>(Zay c e r xs).map (y::·)
   | none=>none
  | some false=>Zay c e r xs
  | none=>none
@[simp] def Zaj:TF:=λ_=>some true
@[simp] def ZM(i:IF)(c:TF)(e:EF):BF:=λr=>match i r with
 | some xs=>if xs.length<big then(Zay c e r xs).map λys=>.ol ys else none
 | none=>none
@[simp] def Zr(a b:SF):SF:=λr=>match a r with
 | some (.nx r')=>b r'
 | some (.rt d)=>some (.rt d)
 | some (.bk r')=>some (.bk r')
 | some (.ct r')=>some (.ct r')
 | none=>none
@[simp] def ZaD:SF:=λr=>some (.nx r)
@[simp] def Zns:SF:=λ_=>none
@[simp] def ZC(a:EF):SF:=λr=>(a r).map Out.rt
@[simp] def Z9(i:Nat)(a:EF):SF:=λr=>(a r).map λd=>.nx (r.set i (some (.pl d)))
@[simp] def ZQ(i:Nat)(a:BF):SF:=λr=>(a r).map λb=>.nx (r.set i (some b))
@[simp] def Zje(i:Nat)(r:Env):Env:=match r[i]? with
 | some (some (.ol ds))=>r.set i (some (.pl (.list ds)))
 | some (some (.ot kvs))=>r.set i (some (.pl (.dict (Zg kvs))))
 | _=>r
@[simp] def ZdH(i:Nat):SF->SF:=λa r=>a (Zje i r)
@[simp] def ZhW(a:EF):SF:=λr=>(a r).map λ_=>.nx r
@[simp] def sIf(c:TF)(a b:SF):SF:=λr=>match c r with
 | some true=>a r
 | some false=>b r
 | none=>none
def Z2(i:Nat)(body:SF):List D->Env->Option Out
 | [],r=>some (.nx r)
 | x::xs,r=>match body (r.set i (some (.pl x)))with
  | some (.nx r')=>Z2 i body xs r'
  | some (.ct r')=>Z2 i body xs r'
  | some (.bk r')=>some (.nx r')
  | some (.rt d)=>some (.rt d)
  | none=>none
@[simp] def Zbd(i:Nat)(it:IF)(body:SF):SF:=λr=>match it r with
 | some xs=>if xs.length<big then Z2 i body xs r else none
 | none=>none
def Za0(c:TF)(body:SF):Nat->Env->Option Out
 | 0,_=>none
 | n+1,r=>match c r with
  | some true=>match body r with
   | some (.nx r')=>Za0 c body n r'
   | some (.ct r')=>Za0 c body n r'
   | some (.bk r')=>some (.nx r')
   | some (.rt d)=>some (.rt d)
   | none=>none
  | some false=>some (.nx r)
  | none=>none
@[simp] def Zed(i:Nat)(a:EF):SF:=λr=>match r[i]? with
 | some (some (.ol ds))=>match a r with
  | some d=>if ds.length<big then some (.nx (r.set i (some (.ol (ds++[d])))))else none
  | none=>none
 | _=>none
@[simp] def ZqF(i:Nat)(k v:EF):SF:=λr=>match v r with
 | some d=>match r[i]? with
  | some (some (.ol ds))=>match k r with
   | some (.int n)=>match ixN ds.length n with
    | some j=>some (.nx (r.set i (some (.ol (ds.set j d)))))
    | none=>none
   | _=>none
  | _=>none
 | none=>none
def putD{k v:Type}[DecidableEq k](kvs:List (k × v))(x:k)(y:v):List (k × v) :=
 if(kvs.any λp=>decide (p.1=x))=true then kvs.map (λp=>if p.1=x then(p.1,y)else p)else kvs++[(x,y)]
def Zm{k v:Type}[DecidableEq k](kvs:List (k × v))(x:k):Option v:=(kvs.find? λp=>decide (p.1=x)).map (·.2)
@[simp] def Zh6:D->Option Ky
 | .int i=>some (.inl i)
 | .str x=>some (.inr x)
 | _=>none
def Zgu:List D->Option (List Ky)
 | []=>some []
 | d::r=>match Zh6 d with
  | some k=>(Zgu r).map (k::·)
  | none=>none
def tkL:D->Option (List Ky)
 | .tuple ds=>Zgu ds
 | _=>none
def Zli:List D->Option (List Ky)
 | []=>some []
 | .int i::r=>(Zli r).map (ZzP i::·)
 | _::_=>none
def ZaV:D->Option (List Ky)
 | .tuple ds=>Zli ds
 | _=>none
@[simp] def ZgU(i:Nat)(k v:EF):SF:=λr=>match v r with
 | some d=>match k r with
  | some x=>match r[i]? with
   | some (some (.ok kvs))=>match Zh6 x with
    | some y=>if kvs.length<big then some (.nx (r.set i (some (.ok (putD kvs y d)))))else none
    | none=>none
   | some (some (.ot kvs))=>match ZaV x with
    | some y=>if kvs.length<big then some (.nx (r.set i (some (.ot (putD kvs y d)))))else none
    | none=>none
   | _=>none
  | none=>none
 | none=>none
@[simp] def fDk:BF:=λ_=>some (.ok [])
@[simp] def fDt:BF:=λ_=>some (.ot [])
@[simp] def ZsW:BF:=λ_=>some (.otl [])
@[simp] def Zok(k v:EF):BF:=λr=>match k r with
 | some x=>match v r with
  | some d=>match Zh6 x with
   | some y=>some (.ok [(y,d)])
   | none=>none
  | none=>none
 | none=>none
def ZbL{k v:Type}[DecidableEq k](kvs:List (k × List v))(x:k):List (k × List v):=match Zm kvs x with
 | some _=>kvs
 | none=>kvs++[(x,[])]
def Zdt{k v:Type}[DecidableEq k]:List (k × List v)->k->v->List (k × List v)
 | [],_,_=>[]
 | (x,ds)::r,y,d=>if x=y then(x,ds++[d])::r else(x,ds)::Zdt r y d
@[simp] def Zol(i:Nat)(k v:EF):SF:=λr=>match k r with
 | some x=>match r[i]? with
  | some (some (.otl kvs))=>match ZaV x with
   | some y=>if kvs.length<big then
     match v (r.set i (some (.otl (ZbL kvs y))))with
     | some d=>match Zm (ZbL kvs y) y with
      | some ds=>if ds.length<big then some (.nx (r.set i (some (.otl (Zdt (ZbL kvs y) y d)))))else none
      | none=>none
     | none=>none
    else none
   | none=>none
  | _=>none
 | none=>none
@[simp] def Zlv(i:Nat)(k:EF):SF:=λr=>match k r with
 | some x=>match r[i]? with
  | some (some (.otl kvs))=>match ZaV x with
   | some y=>if kvs.length<big then
     match Zm kvs y with
     | none=>some (.nx (r.set i (some (.otl (kvs++[(y,[])])))))
     | some _=>none
    else none
   | none=>none
  | _=>none
 | none=>none
@[simp] def ZoN(i:Nat)(k v:EF):SF:=λr=>match k r with
 | some x=>match r[i]? with
  | some (some (.otl kvs))=>match ZaV x with
   | some y=>match v r with
    | some d=>match Zm kvs y with
     | some ds=>if ds.length<big then some (.nx (r.set i (some (.otl (Zdt kvs y d)))))else none
     | none=>none
    | none=>none
   | none=>none
  | _=>none
 | none=>none
@[simp] def hasB(b:B)(x:D):Option Bool:=match b with
 | .ok kvs=>(Zh6 x).map λy=>(Zm kvs y).isSome
 | .ot kvs=>(ZaV x).map λy=>(Zm kvs y).isSome
 | .otl kvs=>(ZaV x).map λy=>(Zm kvs y).isSome
 | _=>none
@[simp] def Zkx(k:EF)(a:BF):EF:=λr=>match k r with
 | some x=>match a r with
  | some b=>(hasB b x).map λc=>.bool (!c)
  | none=>none
 | none=>none
@[simp] def Zox(i:Nat)(k:EF):BF:=λr=>match k r with
 | some x=>match r[i]? with
  | some (some (.ok kvs))=>match Zh6 x with
   | some y=>(Zm kvs y).map B.pl
   | none=>none
  | some (some (.ot kvs))=>match ZaV x with
   | some y=>(Zm kvs y).map B.pl
   | none=>none
  | some (some (.otl kvs))=>match ZaV x with
   | some y=>(Zm kvs y).map B.ol
   | none=>none
  | _=>none
 | none=>none
abbrev fnD(t:Nat)(cs:List D):D:=.dict [(.none,.int (Int.ofNat t)),(.none,.list cs)]
@[simp] def ZeB(n:Nat)(ds:List D):Env:=ds.map (λd=>some (B.pl d))++ZyA (n-ds.length) none
@[simp] def fnOf(k n:Nat)(m:SF):List D->Option D:=λds =>
 if ds.length=k then match m (ZeB n ds)with
  | some (.nx _)=>some .none
  | some (.rt d)=>some d
  | _=>none
 else none
end HM
namespace HM
open PySem
def Zda(c:TF)(e:EF)(r:Env):List D->Option (List D)
 | []=>some []
 | .tuple [x,y]::xs=>match c (some (.pl x)::some (.pl y)::r)with
  | some true=>match e (some (.pl x)::some (.pl y)::r)with
   | some z=>(Zda c e r xs).map (z::·)
   | none=>none
  | some false=>Zda c e r xs
  | none=>none
 | _=>none
@[simp] def ZeD(i:IF)(c:TF)(e:EF):BF:=λr=>match i r with
 | some xs=>if xs.length<big then(Zda c e r xs).map λys=>.ol ys else none
 | none=>none
def Znv(ds:List D)(i:Int):Option Bool:=(ZaI ds).map λns=>ns.contains i
@[simp] def Zn3(k:EF)(a:BF):EF:=λr=>match k r with
 | some (.int i)=>match a r with
  | some b=>match Zbe b with
   | some ds=>(Znv ds i).map λc=>.bool c
   | none=>none
  | none=>none
 | _=>none
@[simp] def Zhj(k:EF)(a:BF):EF:=λr=>match k r with
 | some (.int i)=>match a r with
  | some b=>match Zbe b with
   | some ds=>(Znv ds i).map λc=>.bool (!c)
   | none=>none
  | none=>none
 | _=>none
end HM
namespace HM
open PySem
@[simp] def Zky(n:Nat)(c:TF)(body:SF):SF:=λr=>Za0 c body n r
end HM
namespace HM
open PySem
def Zlj(ds:List D)(x:D):Option Bool:=if Zad x&&ds.all Zad then some (ds.any λd=>Zy4 d x)else none
@[simp] def ZnC(k:EF)(a:BF):EF:=λr=>match k r with
 | some x=>match a r with
  | some b=>match Zbe b with
   | some ds=>(Zlj ds x).map λc=>.bool c
   | none=>none
  | none=>none
 | none=>none
@[simp] def Zhd(k:EF)(a:BF):EF:=λr=>match k r with
 | some x=>match a r with
  | some b=>match Zbe b with
   | some ds=>(Zlj ds x).map λc=>.bool (!c)
   | none=>none
  | none=>none
 | none=>none
end HM
namespace HM
open PySem
def ZeT:List (D × D)->Option (List (List Ky × D))
 | []=>some []
 | (k,v)::r=>match tkL k with
  | some ks=>(ZeT r).map ((ks,v)::·)
  | none=>none
@[simp] def Zlm:B->Option (List (List Ky × D))
 | .ot kvs=>some kvs
 | .pl (.dict es)=>ZeT es
 | .hd es=>ZeT es
 | _=>none
@[simp] def ZnY(k:EF)(a:BF):EF:=λr=>match k r with
 | some x=>match a r with
  | some b=>match Zlm b with
   | some kvs=>(ZaV x).map λy=>.bool (Zm kvs y).isSome
   | none=>none
  | none=>none
 | none=>none
@[simp] def Zbr(k:EF)(a:BF):EF:=λr=>match k r with
 | some x=>match a r with
  | some b=>match Zlm b with
   | some kvs=>(ZaV x).map λy=>.bool (!(Zm kvs y).isSome)
   | none=>none
  | none=>none
 | none=>none
@[simp] def Zbx(a:BF)(k:EF):EF:=λr=>match a r with
 | some b=>match Zlm b with
  | some kvs=>match k r with
   | some x=>match ZaV x with
    | some y=>Zm kvs y
    | none=>none
   | none=>none
  | none=>none
 | none=>none
@[simp] def Zjg:D->Bool
 | .none=>true
 | .bool _=>true
 | .int _=>true
 | .str _=>true
 | _=>false
@[simp] def ZmI(f:BF):EF:=λr=>(f r).bind frz
@[simp] def Zom(m:List D->Option D)(a:AF):EF:=λr=>match a r with
 | some ds=>match m ds with
  | some d=>if Zjg d then some d else none
  | none=>none
 | none=>none
theorem Zug(ks:List Ky):tkL (.tuple (ks.map ZaE))=some ks:=by
 show Zgu (ks.map ZaE)=some ks
 induction ks with
 | nil=>rfl
 | cons k ks ih=>show(match Zh6 (ZaE k)with | some q=>(Zgu (ks.map ZaE)).map (q::·) | none=>none)=_;rw[ih];cases k<;>rfl
theorem dec_enc(kvs:List (List Ky × D)):ZeT (Zg kvs)=some kvs:=by
 induction kvs with
 | nil=>rfl
 | cons p kvs ih=>obtain⟨k,d⟩:=p;show(match tkL (.tuple (k.map ZaE))with | some ks=>(ZeT (Zg kvs)).map ((ks,d)::·) | none=>none)=_;rw[Zug,ih];rfl
end HM
namespace HM
open PySem
@[simp] def ZkF(a:BF):EF:=λr=>match a r with
 | some x=>match Zlk x with
  | some ds=>match ZaI ds with
   | some ns=>ns.max?.map λi=>ZyG i
   | none=>none
  | none=>none
 | none=>none
end HM
namespace HM
open PySem
end HM
namespace HM
open PySem
@[simp] def Zi3(i:Nat)(f:BF):SF:=λr=>match r[i]? with
 | some (some (.ol ds))=>match f r with
  | some (.ol es)=>if ds.length+es.length<big then some (.nx (r.set i (some (.ol (ds++es)))))else none
  | _=>none
 | _=>none
@[simp] def ZsZ(i j:Nat):SF:=λr=>match r[j]? with
 | some (some (.ol ds))=>match ds[ds.length-1]? with
  | some d=>some (.nx ((r.set j (some (.ol ds.dropLast))).set i (some (.pl d))))
  | none=>none
 | _=>none
@[simp] def ZiJ(m:List D->Option D)(a:AF):BF:=λr=>match a r with
 | some ds=>match m ds with
  | some (.list ys)=>some (.ol ys)
  | _=>none
 | none=>none
def Zbw:Option B->Bool
 | some (.hd _)=>true
 | _=>false
@[simp] def ZeA(i:Nat)(g:SF):SF:=λr=>match r[i]? with
 | some (some (.pl (.dict es)))=>if r.all (λq=>!Zbw q)then match g (r.set i (some (.hd es)))with
   | some (.nx r')=>match r'[i]? with
    | some (some (.hd es'))=>if(r'.set i none).all (λq=>!Zbw q)then some (.nx (r'.set i (some (.pl (.dict es')))))else none
    | _=>none
   | some (.rt d)=>some (.rt d)
   | _=>none
  else none
 | _=>g r
@[simp] def ZaS(i:Nat):IF:=λr=>match r[i]? with
 | some (some (.pl (.tuple ds)))=>some ds
 | some (some (.pl (.list ds)))=>some ds
 | some (some (.hd es))=>(ZeT es).map λkvs=>kvs.map λp=>.tuple (p.1.map ZaE)
 | _=>none
end HM
namespace HM
open PySem
end HM
namespace HM
open PySem
end HM
namespace HM
open PySem
abbrev AP:=Nat->List D->List D->Option D
def Zk9:D->Option (Nat × List D)
 | .dict [(.none,.int (Int.ofNat t)),(.none,.list cs)]=>some (t,cs)
 | _=>none
@[simp] def Zgg(ap:AP)(i:Nat)(a:AF):EF:=λr=>match r[i]? with
 | some (some (.pl d))=>match Zk9 d with
  | some (t,cs)=>match a r with
   | some ds=>ap t cs ds
   | none=>none
  | none=>none
 | _=>none
def noF:Nat->D->Bool
 | _,.none=>true
 | _,.bool _=>true
 | _,.int _=>true
 | _,.str _=>true
 | n+1,.tuple ds=>ds.all (noF n)
 | n+1,.list ds=>ds.all (noF n)
 | n+1,.dict es=>es.all λp=>(match p.1 with | .none=>false | _=>true)&&noF n p.2
 | _,_=>false
def ZkJ:List Nat->Env->Option (List D)
 | [],_=>some []
 | i::is,r=>match r[i]? with
  | some (some (.pl d))=>(ZkJ is r).map (d::·)
  | _=>none
@[simp] def Zh2(m:List D->Option D)(t:Nat)(is:List Nat)(a:EF):EF:=λr=>match a r with
 | some d1=>match ZkJ is r with
  | some cs=>if cs.all (noF 20)then match m [d1,fnD t cs]with
    | some d=>if noF 20 d then some d else none
    | none=>none
   else none
  | none=>none
 | none=>none
def ZkA(n m:Nat)(e:EF):List D->List D->Option D:=λcs ds=>if ds.length=n/\cs.length=m/\ds.all (noF 20)=true then e ((ds++cs).map λd=>some (B.pl d))else none
@[simp] def ZfG(a:BF):EF:=λr=>match a r with
 | some x=>match Zlk x with
  | some ds=>match ZaI ds with
   | some ns=>some (match ns.min? with | some i=>.int i | none=>.none)
   | none=>none
  | none=>none
 | none=>none
abbrev NF:=Env->Option (List (List Ky × D))
@[simp] def Zkc(a:SF)(m:NF):NF:=λr=>match a r with
 | some (.nx r')=>m r'
 | _=>none
@[simp] def ZoD(j:Nat):NF:=λr=>match r[j]? with
 | some (some (.ot kvs))=>some kvs
 | _=>none
def newOf(k n:Nat)(m:NF):List D->Option (List (List Ky × D)):=λds=>if ds.length=k then m (ZeB n ds)else none
@[simp] def ZiX(m:List D->Option (List (List Ky × D)))(a:AF):BF:=λr=>match a r with
 | some ds=>match m ds with
  | some kvs=>if kvs.all (λp=>Zjg p.2)then some (.ot kvs)else none
  | none=>none
 | none=>none
end HM
namespace HP
open PySem PySem.Spec PyProof.Rows L2
@[reducible] def Zde(H':Hp)(b:Addr):HO->Prop
 | .tbl _=>∃ps',H' b=some (.tbl ps')
 | o=>H' b=some o
def Zaz(H H':Hp):Prop:=∀b o,H b=some o->Zde H' b o
theorem Zde.of{H':Hp}{b:Addr}{o:HO}(h:H' b=some o):Zde H' b o:=by cases o<;>first | exact h | exact⟨_,h⟩
theorem Zde.ex{H':Hp}{b:Addr}{o:HO}(h:Zde H' b o):∃u,H' b=some u:=by cases o<;>first | exact⟨_,h⟩ | (obtain⟨ps,e⟩:=h; exact⟨_,e⟩)
theorem Zde.no{H':Hp}{b:Addr}{o:HO}(h:Zde H' b o)(n:∀ps,o≠.tbl ps):H' b=some o:=by cases o<;>first | exact h | exact absurd rfl (n _)
theorem Zaz.of{H H':Hp}(s:Zq H H'):Zaz H H':=λb o h=>.of (s b o h)
theorem Zaz.refl(H:Hp):Zaz H H:=.of (.refl H)
theorem Zaz.trans{H H1 H2:Hp}(a:Zaz H H1)(b:Zaz H1 H2):Zaz H H2:=λc o h=>by have h1:=a c o h;cases o<;>first | exact b c _ h1 | (obtain⟨ps,e⟩:=h1; exact(show ∃ps',H2 c=some (.tbl ps') from b c _ e))
theorem Zaz.free{H H':Hp}(e:Zaz H H'){l:Addr}(h:H' l=none):H l=none:=by
 cases q:H l with
 | none=>rfl
 | some o=>obtain⟨u,z⟩:=(e l o q).ex;rw[h]at z; cases z
theorem Zaz.back{H H':Hp}(e:Zaz H H'){l:Addr}{o u:HO}(h:H l=some o)(h':H' l=some u)(n:∀ps,u≠.tbl ps):o=u:=by have z:=e l o h;cases o<;>first | (obtain⟨ps,q⟩:=z; rw[h']at q; cases q; exact absurd rfl (n _)) | (have z:H' l=some _:=z; rw[h']at z; cases z; rfl)
def Zcy(H:Hp):Hp:=λb=>match H b with
 | some (.tbl _)=>none
 | x=>x
def nt:HO->Bool
 | .tbl _=>false
 | _=>true
def NoT(F:Hp):Prop:=∀b o,F b=some o->nt o=true
theorem Zct{H:Hp}{b:Addr}{o:HO}(h:H b=some o)(n:nt o=true):Zcy H b=some o:=by unfold Zcy; rw[h];cases o<;>first | rfl | cases n
theorem Zgt{H:Hp}{b:Addr}{o:HO}(h:Zcy H b=some o):H b=some o/\nt o=true:=by
 unfold Zcy at h;split at h
 ·cases h
 ·rename_i n
  refine⟨h,?_⟩;cases o<;>first | rfl | exact absurd h (n _)
theorem ZiS{H:Hp}:Zq (Zcy H) H:=λb o h=>(Zgt h).1
theorem NoT.drop{H:Hp}:NoT (Zcy H):=λb o h=>(Zgt h).2
theorem NoT.sub{F H:Hp}(n:NoT F)(s:Zq F H):Zq F (Zcy H):=λb o h=>Zct (s b o h) (n b o h)
theorem NoT.upd{F:Hp}{p:Addr}{o:HO}(n:NoT F)(h:nt o=true):NoT (upd F p o):=λb u z=>by
 by_cases hb:b=p
 ·subst hb; rw[ZE]at z; cases z; exact h
 ·rw[ZB hb]at z; exact n b u z
theorem Zaz.ntb{H H':Hp}(s:Zaz H H'){b:Addr}{o:HO}(h:H b=some o)(n:nt o=true):H' b=some o:=(s b o h).no λps z=>by subst z; cases n
def Dk(vvs:List (List Key × V))(u:HO):Prop:=u=.dT vvs\/∃o,u=.frz o (.dT vvs)
def sw(a:Addr)(ob:HO)(G:Hp):Hp:=λb=>if b=a then(G a).map (λ_=>ob)else G b
class FX where
 tl:List (Addr × Str)
 fv:Nat->List PyData->Hp->Addr->Prop
 sw:∀{t:Nat} {cs:List PyData} {F:Hp} {a b:Addr} {ob:HO} {vvs:List (List Key × V)},(∀u,F a=some u->Dk vvs u)->Dk vvs ob->fv t cs F b->fv t cs (sw a ob F) b
 drop:∀{t:Nat} {cs:List PyData} {F:Hp} {a:Addr},fv t cs F a->fv t cs (Zcy F) a
 mono:∀{t:Nat} {cs:List PyData} {F F':Hp} {a:Addr},fv t cs F a->Zq F F'->fv t cs F' a
variable[FX]
def Zbm(a:Addr)(o:Obj):HO:=.ext λh=>h.get? a=some o
def Zlx(o:Obj)(q:Str):Prop:=∃vs t,o.data=.fields vs/\vs[1]?=some (.str q t)
def Tb(H:Hp):Prop:=∀P q,(P,q)∈FX.tl->∃ps,H P=some (.tbl ps)/\TriplesOk ps.toList/\∀pos c,ZBG pos ps.toList=some c->∃a o,c=.ref a/\H a=some (Zbm a o)/\Zlx o q
def Zlc:HO->Bool
 | .lst _=>true
 | .dK _=>true
 | .dT _=>true
 | _=>false
def te:HO->Bool
 | .tbl _=>true
 | .ext _=>true
 | _=>false
theorem Zr4{o:HO}(h:Zlc o=true)(h':te o=true):False:=by cases o<;>simp_all [Zlc,te]
theorem Tb.keep{H H':Hp}(t:Tb H)(k:∀a o,H a=some o->te o=true->H' a=some o):Tb H':=λP q hP=>by obtain⟨ps,h1,h2,h3⟩:=t P q hP;refine⟨ps,k _ _ h1 rfl,h2,λpos c hc=>?_⟩;obtain⟨a,o,e1,e2,e3⟩:=h3 pos c hc;exact⟨a,o,e1,k _ _ e2 rfl,e3⟩
theorem Dk.te{vvs:List (List Key × V)}{u:HO}(h:Dk vvs u):te u=false:=by rcases h with h | ⟨o,h⟩<;>subst h<;>rfl
theorem Dk.ntt{vvs:List (List Key × V)}{u:HO}(h:Dk vvs u):nt u=true:=by rcases h with h | ⟨o,h⟩<;>subst h<;>rfl
theorem Tb.sw{G:Hp}{a:Addr}{ob:HO}{vvs:List (List Key × V)}(hG:∀u,G a=some u->Dk vvs u)(t:Tb G):Tb (HP.sw a ob G):=t.keep λb o z ht=>by
 have hb:b≠a:=λe=>by subst e; rw[(hG o z).te]at ht; cases ht
 unfold HP.sw; rw[if_neg hb]; exact z
theorem Tb.unsw{G:Hp}{a:Addr}{ob:HO}{vvs:List (List Key × V)}(hob:Dk vvs ob)(t:Tb (HP.sw a ob G)):Tb G:=t.keep λb o z ht=>by
 unfold HP.sw at z;split at z
 ·obtain⟨u,_,e⟩:=Zx2.mp z
  subst e; rw[hob.te]at ht; cases ht
 ·exact z
theorem Zde.cong{H H':Hp}{b:Addr}{o:HO}(e:H' b=H b)(h:Zde H b o):Zde H' b o:=by unfold Zde at h ⊢; rw[e]; exact h
theorem Zaz.sw{H0 H:Hp}{a:Addr}{ob:HO}(s:Zaz H0 H):Zaz (HP.sw a ob H0) (HP.sw a ob H):=λb o z=>by
 by_cases hb:b=a
 ·subst hb
  unfold HP.sw at z;rw[if_pos rfl]at z;obtain⟨u,h1,h2⟩:=Zx2.mp z;obtain⟨w,hw⟩:=(s _ _ h1).ex;refine .of ?_;unfold HP.sw;rw[if_pos rfl,hw,h2.symm]; rfl
 ·unfold HP.sw at z
  rw[if_neg hb]at z;refine(s b o z).cong ?_;unfold HP.sw; rw[if_neg hb]
theorem Tb.same{H H':Hp}(t:Tb H)(s:Zq H H'):Tb H':=t.keep λa o h _=>s a o h
theorem Zjd{F F':Hp}{a:Addr}{u:HO}(r:Rd F a u)(s:Zq F F'):Rd F' a u:=r.imp (λh=>s _ _ h) λ⟨o,h⟩=>⟨o,s _ _ h⟩
def Zxs(K:Zx0)(a:Addr)(vs:List V):Prop:=∃(o:Obj) (its:Array Value) (n:Nat),K.lookup a=some o/\o.cls=.type "tuple"/\o.data=.seq its n/\its.size<=sizeLine/\Vals vs its.toList
theorem ZtY{K:Zx0}{F F':Hp}{a:Addr}{vs:List V}(h:SqT K F a vs)(s:Zq F F'):SqT K F' a vs:=h.imp (λh=>Zjd h s) id
inductive Rep(K:Zx0)(F:Hp):PyData->V->Prop where
 | non:Rep K F .none .non
 | bl (b:Bool):Rep K F (.bool b) (.bl b)
 | int (i:Int):Rep K F (.int i) (.int i)
 | str (x:Str):Rep K F (.str x) (.str x)
 | tupk {a:Addr} {x:Str} (h:Zxs K a [.str x]):Rep K F (.tuple [.str x]) (.ref a)
 | tup {a:Addr} {ds:List PyData} {vs:List V} (h:F a=some (.tup vs)) (hl:ds.length=vs.length) (hr:∀(i:Nat) (d:PyData) (v:V),ds[i]?=some d->vs[i]?=some v->Rep K F d v):Rep K F (.tuple ds) (.ref a)
 | lst {a:Addr} {ds:List PyData} {vs:List V} (h:SqL K F a vs) (hl:ds.length=vs.length) (hr:∀(i:Nat) (d:PyData) (v:V),ds[i]?=some d->vs[i]?=some v->Rep K F d v):Rep K F (.list ds) (.ref a)
 | dct {a:Addr} {es:List (PyData × PyData)} {kvs:List (List Key × PyData)} {vvs:List (List Key × V)} (h:Rd F a (.dT vvs)) (he:es=HM.Zg kvs) (hk:kvs.map (·.1)=vvs.map (·.1)) (hr:∀(i:Nat) (d:PyData) (v:V),(kvs.map (·.2))[i]?=some d->(vvs.map (·.2))[i]?=some v->Rep K F d v):Rep K F (.dict es) (.ref a)
 | fn {a:Addr} {t:Nat} {cs:List PyData} (h:FX.fv t cs F a):Rep K F (.dict [(.none,.int (Int.ofNat t)),(.none,.list cs)]) (.ref a)
def Zv(K:Zx0)(F:Hp)(ds:List PyData)(vs:List V):Prop:=ds.length=vs.length/\∀(i:Nat) (d:PyData) (v:V),ds[i]?=some d->vs[i]?=some v->Rep K F d v
section
variable{K:Zx0}{F F':Hp}{d:PyData}{v:V}{ds es:List PyData}{vs us:List V}
theorem Rep.mono(r:Rep K F d v)(s:Zq F F'):Rep K F' d v:=by
 induction r with
 | non=>exact .non
 | bl b=>exact .bl b
 | int i=>exact .int i
 | str x=>exact .str x
 | tup h hl _ ih=>exact .tup (s _ _ h) hl ih
 | tupk h=>exact .tupk h
 | lst h hl _ ih=>exact .lst (s.seq h) hl ih
 | dct h he hk _ ih=>exact .dct (Zjd h s) he hk ih
 | fn h=>exact .fn (FX.mono h s)
theorem Rep.drop(r:Rep K F d v):Rep K (Zcy F) d v:=by
 induction r with
 | non=>exact .non
 | bl b=>exact .bl b
 | int i=>exact .int i
 | str x=>exact .str x
 | tup h hl _ ih=>exact .tup (Zct h rfl) hl ih
 | tupk h=>exact .tupk h
 | lst h hl _ ih =>
  refine .lst ?_ hl ih;rcases h with(h | ⟨o,h⟩) | h
  ·exact .inl (.inl (Zct h rfl))
  ·exact .inl (.inr ⟨o,Zct h rfl⟩)
  ·exact .inr h
 | dct h he hk _ ih =>
  refine .dct ?_ he hk ih;rcases h with h | ⟨o,h⟩
  ·exact .inl (Zct h rfl)
  ·exact .inr ⟨o,Zct h rfl⟩
 | fn h=>exact .fn (FX.drop h)
theorem Zv.drop'(r:Zv K F ds vs):Zv K (Zcy F) ds vs:=⟨r.1,λi d v h1 h2=>(r.2 i d v h1 h2).drop⟩
theorem Zaz.dr{H H':Hp}(s:Zaz H H'):Zq (Zcy H) H':=λb o h=>s.ntb (Zgt h).1 (Zgt h).2
theorem Rep.monoT{H H':Hp}(r:Rep K H d v)(s:Zaz H H'):Rep K H' d v:=r.drop.mono s.dr
theorem Zv.mono(r:Zv K F ds vs)(s:Zq F F'):Zv K F' ds vs:=⟨r.1,λi d v h1 h2=>(r.2 i d v h1 h2).mono s⟩
theorem Zv.nil:Zv K F [] []:=⟨rfl,λi d v h=>by simp at h⟩
theorem Zv.cons(r:Rep K F d v)(q:Zv K F ds vs):Zv K F (d::ds) (v::vs) :=
 ⟨by rw[Zyg,Zyg,q.1],λi e u h1 h2=>by
  cases i with
  | zero=>rw[ZzZ]at h1 h2;cases h1; cases h2; exact r
  | succ i=>rw[ZyD]at h1 h2;exact q.2 i e u h1 h2⟩
theorem Zv.nil_inv(r:Zv K F [] vs):vs=[]:=ZAy r.1.symm
theorem Zv.cons_inv(r:Zv K F (d::ds) vs):∃v us,vs=v::us/\Rep K F d v/\Zv K F ds us:=by
 cases vs with
 | nil=>exact absurd r.1 (by simp)
 | cons v us =>
  refine⟨v,us,rfl,r.2 0 d v rfl rfl,?_,λi e u h1 h2=>r.2 (i+1) e u ?_ ?_⟩
  ·have:=r.1
   rw[Zyg,Zyg]at this;omega
  ·rw[ZyD]; exact h1
  ·rw[ZyD]; exact h2
theorem Zv.append(r:Zv K F ds vs)(q:Zv K F es us):Zv K F (ds++es) (vs++us):=by
 refine⟨by rw[Zyl,Zyl,r.1,q.1],λi e u h1 h2=>?_⟩
 by_cases hi:i<ds.length
 ·rw[ZyB hi]at h1
  rw[ZyB (by rw[<-r.1]; exact hi)]at h2;exact r.2 i e u h1 h2
 ·rw[ZyM (by omega)]at h1
  rw[ZyM (by have:=r.1; omega),<-r.1]at h2;exact q.2 _ e u h1 h2
theorem Zv.get(r:Zv K F ds vs){i:Nat}(h:ds[i]?=some d):∃v,vs[i]?=some v/\Rep K F d v:=by
 have hi:i<vs.length:=by rw[<-r.1]; exact(Zyd.mp h).1
 exact⟨vs[i],Zye hi,r.2 i d _ h (Zye hi)⟩
theorem Zv.drop(r:Zv K F ds vs)(n:Nat):Zv K F (ds.drop n) (vs.drop n) :=
 ⟨by rw[ZAF,ZAF,r.1],λi e u h1 h2=>by rw[List.getElem?_drop]at h1 h2;exact r.2 _ e u h1 h2⟩
theorem Zv.take(r:Zv K F ds vs)(n:Nat):Zv K F (ds.take n) (vs.take n) :=
 ⟨by rw[ZzB,ZzB,r.1],λi e u h1 h2=>by
  by_cases hi:i<n
  ·rw[ZB7 hi]at h1 h2
   exact r.2 _ e u h1 h2
  ·rw[List.getElem?_take_eq_none (by omega)]at h1
   cases h1⟩
theorem Zv.set(r:Zv K F ds vs)(q:Rep K F d v)(j:Nat):Zv K F (ds.set j d) (vs.set j v):=by
 refine⟨by rw[Zzd,Zzd,r.1],λi e u h1 h2=>?_⟩;have hi:i<ds.length:=by have:=(Zyd.mp h1).1; rwa [Zzd]at this
 by_cases e1:j=i
 ·subst e1
  rw[ZyR hi]at h1;rw[ZyR (by rw[<-r.1]; exact hi)]at h2;cases h1; cases h2; exact q
 ·rw[Zyz e1]at h1 h2
  exact r.2 i e u h1 h2
theorem Zv.rep(r:Zv K F ds vs)(k:Nat):Zv K F (ZyA k ds).flatten (ZyA k vs).flatten:=by
 induction k with
 | zero=>exact Zv.nil
 | succ k ih=>rw[ZzK,ZzK,ZAc,ZAc]; exact r.append ih
theorem Zv.one(r:Rep K F d v):Zv K F [d] [v]:=.cons r .nil
end
def Fre(H:Hp)(a:Addr)(o:HO):Prop:=H a=none\/∃xs,o=.tup xs/\H a=some (.tup xs)
theorem Fre.back{H H':Hp}{a:Addr}{o:HO}(s:Zaz H H')(f:Fre H' a o):Fre H a o:=by
 rcases f with f | ⟨xs,e,f⟩
 ·exact .inl (s.free f)
 ·cases q:H a with
  | none=>exact .inl q
  | some u =>
   have:=s.back q f λ_ z=>by cases z
   subst this;exact .inr ⟨xs,e,q⟩
theorem Fre.no{H:Hp}{a:Addr}{o u:HO}(f:Fre H a o)(h:H a=some u)(n:∀xs,u≠.tup xs):False:=by
 rcases f with f | ⟨xs,_,f⟩
 ·rw[h]at f; cases f
 ·rw[h]at f; cases f; exact n xs rfl
structure Ext(F H F' H':Hp):Prop where
 ff:Zq F F'
 hh:Zaz H H'
 sub:Zq F' H'
 new:∀a o,F' a=some o->F a=some o\/Fre H a o
 tab:Tb H->Tb H'
 nts:NoT F->NoT F'
theorem Ext.refl{F H:Hp}(s:Zq F H):Ext F H F H:=⟨Zq.refl F,Zaz.refl H,s,λ_ _ h=>.inl h,id,id⟩
theorem Ext.trans{F H F1 H1 F2 H2:Hp}(a:Ext F H F1 H1)(b:Ext F1 H1 F2 H2):Ext F H F2 H2 :=
 ⟨a.ff.trans b.ff,a.hh.trans b.hh,b.sub,λx o h=>by
  rcases b.new x o h with q | q
  ·exact a.new x o q
  ·exact .inr (q.back a.hh),λt=>b.tab (a.tab t),λt=>b.nts (a.nts t)⟩
theorem Zkb{F:Hp}{p:Addr}{o:HO}(h:F p=none):Zq F (upd F p o):=λb q z=>by rw[ZB (Zau z h)]; exact z
theorem Ext.lay{F H F' H':Hp}(e:Ext F H F' H'){p:Addr}{o:HO}(h:H' p=none)(no:nt o=true:=by rfl):Ext F H (upd F' p o) (upd H' p o):=by
 have hF:F' p=none:=e.sub.free h;refine⟨λb q z=>?_,e.hh.trans (.of (Zkb h)),λb q z=>?_,λb q z=>?_,λt=>(e.tab t).same (Zkb h),λt=>(e.nts t).upd no⟩
 ·rw[ZB (Zau (e.ff b q z) hF)]; exact e.ff b q z
 ·by_cases hb:b=p
  ·subst hb; rw[ZE]at z ⊢; exact z
  ·rw[ZB hb]at z ⊢; exact e.sub b q z
 ·by_cases hb:b=p
  ·subst hb; exact .inr (.inl (e.hh.free h))
  ·rw[ZB hb]at z; exact e.new b q z
theorem Ext.lay'{F H F' H':Hp}(e:Ext F H F' H'){p:Addr}{o:HO}(h:H' p=none):Ext F H F' (upd H' p o):=by refine⟨e.ff,e.hh.trans (.of (Zkb h)),λb q z=>?_,e.new,λt=>(e.tab t).same (Zkb h),e.nts⟩;rw[ZB (Zau (e.sub b q z) h)]; exact e.sub b q z
theorem Zq.upd'{F:Hp}{p:Addr}{o:HO}(h:F p=none):Zq F (upd F p o):=λb q z=>by rw[ZB (Zau z h)]; exact z
def ZcH(F H:Hp):Hp:=λa=>match H a with
 | some (.tup xs)=>some (.tup xs)
 | _=>F a
theorem Zn8{F H:Hp}{a:Addr}{xs:List V}(h:H a=some (.tup xs)):ZcH F H a=some (.tup xs):=by unfold ZcH; rw[h]
theorem ZdD{F H:Hp}(s:Zq F H):Zq F (ZcH F H):=λa o h=>by
 have:=s a o h;unfold ZcH;split
 ·rename_i xs q
  rw[q]at this;exact this
 ·exact h
theorem Ext.tups{F H F' H':Hp}(e:Ext F H F' H'):Ext F H (ZcH F' H') H':=by
 have key:Ext F' H' (ZcH F' H') H':=by
  refine⟨ZdD e.sub,Zaz.refl H',λa o h=>?_,λa o h=>?_,id,λn a o h=>?_⟩
  ·unfold ZcH at h
   split at h
   ·rename_i xs q; rw[q]; exact h
   ·exact e.sub a o h
  ·unfold ZcH at h
   split at h
   ·rename_i xs q
    cases h;exact .inr (.inr ⟨xs,rfl,q⟩)
   ·exact .inl h
  ·unfold ZcH at h
   split at h
   ·cases h; rfl
   ·exact n a o h
 exact e.trans key
inductive Zab(K:Zx0)(F H:Hp):HM.B->V->List Addr->Prop where
 | pl {d:PyData} {v:V} (r:Rep K F d v):Zab K F H (.pl d) v []
 | ol {a:Addr} {ds:List PyData} {vs:List V} (h:H a=some (.lst vs)) (r:Zv K F ds vs):Zab K F H (.ol ds) (.ref a) [a]
 | ok {a:Addr} {kvs:List (Key × PyData)} {vvs:List (Key × V)} (h:H a=some (.dK vvs)) (hk:kvs.map (·.1)=vvs.map (·.1)) (r:Zv K F (kvs.map (·.2)) (vvs.map (·.2))):Zab K F H (.ok kvs) (.ref a) [a]
 | ot {a:Addr} {kvs:List (List Key × PyData)} {vvs:List (List Key × V)} (h:H a=some (.dT vvs)) (hk:kvs.map (·.1)=vvs.map (·.1)) (r:Zv K F (kvs.map (·.2)) (vvs.map (·.2))):Zab K F H (.ot kvs) (.ref a) [a]
 | otl {a:Addr} {kvs:List (List Key × List PyData)} {vvs:List (List Key × V)} {ls:List Addr} (h:H a=some (.dT vvs)) (hk:kvs.map (·.1)=vvs.map (·.1)) (hv:vvs.map (·.2)=ls.map V.ref)
   (r:∀(i:Nat) (ds:List PyData) (l:Addr),(kvs.map (·.2))[i]?=some ds->ls[i]?=some l->∃vs,H l=some (.lst vs)/\Zv K F ds vs):Zab K F H (.otl kvs) (.ref a) (a::ls)
 | hd {a:Addr} {o:Obj} {es:List (PyData × PyData)} {kvs:List (List Key × PyData)} {vvs:List (List Key × V)} (h:F a=some (.frz o (.dT vvs))) (he:es=HM.Zg kvs) (hk:kvs.map (·.1)=vvs.map (·.1)) (r:Zv K F (kvs.map (·.2)) (vvs.map (·.2))):Zab K F H (.hd es) (.ref a) []
 | hf {a:Addr} {t:Nat} {cs:List PyData} (h:FX.fv t cs F a):Zab K F H (.hd [(.none,.int (Int.ofNat t)),(.none,.list cs)]) (.ref a) []
section
variable{K:Zx0}{F F' H H':Hp}{b:HM.B}{v:V}{fp:List Addr}
theorem Zab.mono(r:Zab K F H b v fp)(s:Zq F F')(k:∀a∈fp,∀o,H a=some o->Zde H' a o):Zab K F' H' b v fp:=by
 cases r with
 | pl r=>exact .pl (r.mono s)
 | ol h r=>exact .ol (k _ (by simp) _ h) (r.mono s)
 | ok h hk r=>exact .ok (k _ (by simp) _ h) hk (r.mono s)
 | ot h hk r=>exact .ot (k _ (by simp) _ h) hk (r.mono s)
 | hd h he hk r=>exact .hd (s _ _ h) he hk (r.mono s)
 | hf h=>exact .hf (FX.mono h s)
 | otl h hk hv r=>refine .otl (k _ (by simp) _ h) hk hv λi ds l h1 h2=>?_;obtain⟨vs,q1,q2⟩:=r i ds l h1 h2;exact⟨vs,k l (Zx4 _ (Zyu h2)) _ q1,q2.mono s⟩
theorem Zab.there2(r:Zab K F H b v fp){a:Addr}(h:a∈fp):∃o,H a=some o/\Zlc o=true:=by
 cases r with
 | pl r=>simp at h
 | hd _ _ _ _=>simp at h
 | hf _=>simp at h
 | ol q r=>simp at h; subst h; exact⟨_,q,rfl⟩
 | ok q hk r=>simp at h; subst h; exact⟨_,q,rfl⟩
 | ot q hk r=>simp at h; subst h; exact⟨_,q,rfl⟩
 | @otl a' kvs vvs ls q hk hv r =>
  rcases Zyo.mp h with e | e
  ·subst e; exact⟨_,q,rfl⟩
  ·obtain⟨i,hi⟩:=List.getElem?_of_mem e
   have hl:kvs.length=ls.length:=by have e1:=congrArg ZyN hk;have e2:=congrArg ZyN hv;rw[Zx1,Zx1]at e1 e2;omega
   have hi':i<kvs.length:=by rw[hl]; exact(Zyd.mp hi).1
   obtain⟨vs,q1,_⟩:=r i (kvs[i].2) a (by simp[hi']) hi;exact⟨_,q1,rfl⟩
theorem Zab.there'(r:Zab K F H b v fp){a:Addr}(h:a∈fp):∃o,H a=some o/\∀xs,o≠.tup xs:=by
 cases r with
 | pl r=>simp at h
 | hd _ _ _ _=>simp at h
 | hf _=>simp at h
 | ol q r=>simp at h; subst h; exact⟨_,q,λ_ z=>by cases z⟩
 | ok q hk r=>simp at h; subst h; exact⟨_,q,λ_ z=>by cases z⟩
 | ot q hk r=>simp at h; subst h; exact⟨_,q,λ_ z=>by cases z⟩
 | @otl a' kvs vvs ls q hk hv r =>
  rcases Zyo.mp h with e | e
  ·subst e; exact⟨_,q,λ_ z=>by cases z⟩
  ·obtain⟨i,hi⟩:=List.getElem?_of_mem e
   have hl:kvs.length=ls.length:=by have e1:=congrArg ZyN hk;have e2:=congrArg ZyN hv;rw[Zx1,Zx1]at e1 e2;omega
   have hi':i<kvs.length:=by rw[hl]; exact(Zyd.mp hi).1
   obtain⟨vs,q1,_⟩:=r i (kvs[i].2) a (by simp[hi']) hi;exact⟨_,q1,λ_ z=>by cases z⟩
theorem Zab.there(r:Zab K F H b v fp){a:Addr}(h:a∈fp):∃o,H a=some o:=let ⟨o,q,_⟩:=r.there' h; ⟨o,q⟩
end
structure Zbn(K:Zx0)(F0 H0 F H:Hp)(r:HM.Env)(σ:L2.St)(fp:Nat->List Addr):Prop where
 ext:Ext F0 H0 F H
 len:r.length=σ.length
 at_:∀(i:Nat) (b:HM.B),r[i]?=some (some b)->∃v,σ[i]?=some (some v)/\Zab K F H b v (fp i)
 emp:∀(i:Nat),(∀b,r[i]?≠some (some b))->fp i=[]
 own:∀(i:Nat) (a:Addr),a∈fp i->F a=none/\H0 a=none
 nd:∀i,(fp i).Nodup
 dis:∀(i j:Nat) (a:Addr),i≠j->a∈fp i->¬a∈fp j
 tb:Tb H0
 nt:NoT F0
def At(K:Zx0)(F0 H0 F H:Hp)(r:HM.Env)(σ:L2.St):Prop:=∃fp,Zbn K F0 H0 F H r σ fp
section
variable{K:Zx0}{F0 H0 F H F' H':Hp}{r:HM.Env}{σ:L2.St}{fp:Nat->List Addr}{i:Nat}{b:HM.B}{v:V}{d:PyData}
theorem Zbn.bound(e:Zbn K F0 H0 F H r σ fp){a:Addr}(h:a∈fp i):∃b,r[i]?=some (some b):=by
 cases q:r[i]? with
 | none=>rw[e.emp i (λb z=>by rw[q]at z; cases z)]at h; simp at h
 | some x =>
  cases x with
  | none=>rw[e.emp i (λb z=>by rw[q]at z; cases z)]at h; simp at h
  | some b=>exact⟨b,rfl⟩
theorem Zbn.there'(e:Zbn K F0 H0 F H r σ fp){a:Addr}(h:a∈fp i):∃o,H a=some o/\∀xs,o≠.tup xs:=by obtain⟨b,hb⟩:=e.bound h;obtain⟨v,_,q⟩:=e.at_ i b hb;exact q.there' h
theorem Zbn.there2(e:Zbn K F0 H0 F H r σ fp){a:Addr}(h:a∈fp i):∃o,H a=some o/\Zlc o=true:=by obtain⟨b,hb⟩:=e.bound h;obtain⟨v,_,q⟩:=e.at_ i b hb;exact q.there2 h
theorem Zbn.there(e:Zbn K F0 H0 F H r σ fp){a:Addr}(h:a∈fp i):∃o,H a=some o:=let ⟨o,q,_⟩:=e.there' h; ⟨o,q⟩
theorem Zbn.sub(e:Zbn K F0 H0 F H r σ fp):Zq F H:=e.ext.sub
theorem Zbn.grow(e:Zbn K F0 H0 F H r σ fp)(x:Ext F H F' H'):Zbn K F0 H0 F' H' r σ fp:=by
 refine⟨e.ext.trans x,e.len,λi b h=>?_,e.emp,λi a h=>⟨?_,(e.own i a h).2⟩,e.nd,e.dis,e.tb,e.nt⟩
 ·obtain⟨v,h1,h2⟩:=e.at_ i b h
  exact⟨v,h1,h2.mono x.ff λa _ o q=>x.hh a o q⟩
 ·cases q:F' a with
  | none=>rfl
  | some o =>
   rcases x.new a o q with z | z
   ·rw[(e.own i a h).1]at z; cases z
   ·obtain⟨o',h',hn⟩:=e.there' h
    exact(z.no h' hn).elim
theorem At.grow(e:At K F0 H0 F H r σ)(x:Ext F H F' H'):At K F0 H0 F' H' r σ:=let ⟨fp,e⟩:=e; ⟨fp,e.grow x⟩
theorem At.tb(e:At K F0 H0 F H r σ):Tb H:=let ⟨_,e⟩:=e; e.ext.tab e.tb
theorem At.tbx(e:At K F0 H0 F H r σ)(x:Ext F H F' H'):Tb H':=x.tab e.tb
theorem At.nt(e:At K F0 H0 F H r σ):NoT F:=let ⟨_,e⟩:=e; e.ext.nts e.nt
theorem At.ntx(e:At K F0 H0 F H r σ)(x:Ext F H F' H'):NoT F':=x.nts e.nt
theorem At.nt0(e:At K F0 H0 F H r σ):NoT F0:=let ⟨_,e⟩:=e; e.nt
theorem At.sub(e:At K F0 H0 F H r σ):Zq F H:=let ⟨_,e⟩:=e; e.ext.sub
theorem At.ext(e:At K F0 H0 F H r σ):Ext F0 H0 F H:=let ⟨_,e⟩:=e; e.ext
theorem At.refl(e:At K F0 H0 F H r σ):Ext F H F H:=.refl e.sub
theorem At.plain(e:At K F0 H0 F H r σ)(h:r[i]?=some (some (.pl d))):∃v,σ[i]?=some (some v)/\Rep K F d v:=by
 obtain⟨fp,e⟩:=e;obtain⟨v,h1,h2⟩:=e.at_ i _ h;generalize fp i=f at h2;cases h2 with
 | pl q=>exact⟨v,h1,q⟩
theorem At.any(e:At K F0 H0 F H r σ)(h:r[i]?=some (some b)):∃v fp,σ[i]?=some (some v)/\Zab K F H b v fp:=by obtain⟨fp,e⟩:=e;obtain⟨v,h1,h2⟩:=e.at_ i _ h;exact⟨v,_,h1,h2⟩
theorem At.store(e:At K F0 H0 F H r σ){fp':List Addr}(q:Zab K F H b v fp')(nd:fp'.Nodup)(h1:∀a∈fp',F a=none/\H0 a=none)(h2:∀fp,Zbn K F0 H0 F H r σ fp->∀j a,j≠i->a∈fp j->¬a∈fp') :
  At K F0 H0 F H (r.set i (some b)) (σ.set i (some v)):=by
 obtain⟨fp,e⟩:=e;have h2:=h2 fp e
 by_cases hi:i<r.length
 ·refine⟨λj=>if j=i then fp' else fp j,e.ext,by rw[Zzd,Zzd,e.len],λj c h=>?_,λj h=>?_,λj a h=>?_,λj=>?_,λj k a hjk h=>?_,e.tb,e.nt⟩
  ·by_cases hj:j=i
   ·subst hj
    rw[ZyR hi]at h;cases h;refine⟨v,ZyR (by rw[<-e.len]; exact hi),?_⟩;rw[if_pos rfl]; exact q
   ·rw[Zyz (Zy1 hj)]at h
    obtain⟨u,q1,q2⟩:=e.at_ j c h;refine⟨u,by rw[Zyz (Zy1 hj)]; exact q1,?_⟩;rw[if_neg hj]; exact q2
  ·by_cases hj:j=i
   ·subst hj
    exact absurd (ZyR hi) (h b)
   ·show(if j=i then fp' else fp j)=[]
    rw[if_neg hj];exact e.emp j λc z=>h c (by rw[Zyz (Zy1 hj)]; exact z)
  ·by_cases hj:j=i
   ·rw[if_pos hj]at h; exact h1 a h
   ·rw[if_neg hj]at h; exact e.own j a h
  ·show(if j=i then fp' else fp j).Nodup
   by_cases hj:j=i
   ·rw[if_pos hj]; exact nd
   ·rw[if_neg hj]; exact e.nd j
  ·show ¬a∈(if k=i then fp' else fp k)
   by_cases hj:j=i
   ·rw[if_pos hj]at h
    by_cases hk:k=i
    ·exact absurd (hj.trans hk.symm) hjk
    ·rw[if_neg hk]; exact λz=>h2 k a hk z h
   ·rw[if_neg hj]at h
    by_cases hk:k=i
    ·rw[if_pos hk]; exact h2 j a hj h
    ·rw[if_neg hk]; exact e.dis j k a hjk h
 ·have e1:r.set i (some b)=r:=ZB9 (by omega)
  have e2:σ.set i (some v)=σ:=ZB9 (by have:=e.len; omega);rw[e1,e2];exact⟨fp,e⟩
theorem At.set(e:At K F0 H0 F H r σ)(q:Rep K F d v):At K F0 H0 F H (r.set i (some (.pl d))) (σ.set i (some v)) :=
 e.store (.pl q) ZzH (λa h=>by simp at h) λ_ _ _ _ _ _ h=>by simp at h
theorem Zbn.changeW(e:Zbn K F0 H0 F H r σ fp)(hv:σ[i]?=some (some v)){fp':List Addr}(q:Zab K F H' b v fp')(nd:fp'.Nodup)(h1:∀a∈fp',a∈fp i\/(F a=none/\H0 a=none/\∀j,a ∉ fp j))
  (h2:∀a o,H a=some o->¬a∈fp i->H' a=some o):At K F0 H0 F H' (r.set i (some b)) σ:=by
 have sF:Zq F H':=λa o z=>h2 a o (e.sub a o z) λm=>by rw[(e.own i a m).1]at z; cases z
 have sH:Zaz H0 H':=λa o z=>by
  have nm:¬a∈fp i:=λm=>by rw[(e.own i a m).2]at z; cases z
  have y:=e.ext.hh a o z;cases o<;>first | exact h2 a _ y nm | (obtain⟨ps,q⟩:=y; exact⟨ps,h2 a _ q nm⟩)
 have sT:Tb H0->Tb H':=λt=>(e.ext.tab t).keep λa o z ho=>h2 a o z λm=>by obtain⟨o',q1,q2⟩:=e.there2 m;rw[z]at q1; cases q1; exact Zr4 q2 ho
 have e':Zbn K F0 H0 F H' (r.set i none) (σ.set i none) (λj=>if j=i then[]else fp j):=by
  refine⟨⟨e.ext.ff,sH,sF,e.ext.new,sT,e.ext.nts⟩,by rw[Zzd,Zzd,e.len],λj c h=>?_,λj h=>?_,λj a h=>?_,λj=>?_,λj k a hjk h=>?_,e.tb,e.nt⟩
  ·by_cases hj:j=i
   ·subst hj
    by_cases hi:j<r.length
    ·rw[ZyR hi]at h; cases h
    ·rw[ZCt (by rw[Zzd]; omega)]at h; cases h
   ·rw[Zyz (Zy1 hj)]at h
    obtain⟨u,q1,q2⟩:=e.at_ j c h;refine⟨u,by rw[Zyz (Zy1 hj)]; exact q1,?_⟩;rw[if_neg hj];exact q2.mono (Zq.refl F) λa ha o z=>.of (h2 a o z (e.dis j i a hj ha))
  ·show(if j=i then[]else fp j)=[]
   by_cases hj:j=i
   ·rw[if_pos hj]
   ·rw[if_neg hj]
    exact e.emp j λc z=>h c (by rw[Zyz (Zy1 hj)]; exact z)
  ·by_cases hj:j=i
   ·rw[if_pos hj]at h; simp at h
   ·rw[if_neg hj]at h; exact e.own j a h
  ·show(if j=i then[]else fp j).Nodup
   by_cases hj:j=i
   ·rw[if_pos hj]; exact ZzH
   ·rw[if_neg hj]; exact e.nd j
  ·show ¬a∈(if k=i then[]else fp k)
   by_cases hj:j=i
   ·rw[if_pos hj]at h; simp at h
   ·rw[if_neg hj]at h
    by_cases hk:k=i
    ·rw[if_pos hk]; simp
    ·rw[if_neg hk]; exact e.dis j k a hjk h
 have hF:∀a∈fp',F a=none/\H0 a=none:=λa ha=>by
  rcases h1 a ha with z | z
  ·exact e.own i a z
  ·exact⟨z.1,z.2.1⟩
 have e2:=At.store (i:=i) ⟨_,e'⟩ q nd hF λfq eq j a hj ha z=>by
  obtain⟨c,hc⟩:=eq.bound ha;rw[Zyz (Zy1 hj)]at hc;obtain⟨u1,s1,r1⟩:=eq.at_ j c (by rw[Zyz (Zy1 hj)]; exact hc);obtain⟨u2,s2,r2⟩:=e.at_ j c hc;rw[Zyz (Zy1 hj),s2]at s1;cases s1;have hm:a∈fp j:=by
   have r2':=r2.mono (H':=H') (Zq.refl F) λa ha o z=>.of (h2 a o z (e.dis j i a hj ha))
   clear r2
   generalize fq j=f1 at r1 ha;generalize fp j=f2 at r2' ⊢;cases r1 with
   | pl _=>simp at ha
   | hd _ _ _ _=>simp at ha
   | hf _=>simp at ha
   | ol _ _=>cases r2' with | ol _ _=>exact ha
   | ok _ _ _=>cases r2' with | ok _ _ _=>exact ha
   | ot _ _ _=>cases r2' with | ot _ _ _=>exact ha
   | otl a1 _ v1 _ =>
    cases r2' with
    | otl a2 _ v2 _ =>
     rw[a1]at a2;cases a2;rw[v1]at v2;have:∀{l l':List Addr},l.map V.ref=l'.map V.ref->l=l':=by
      intro l
      induction l with
      | nil=>intro l' h; cases l' with | nil=>rfl | cons _ _=>simp at h
      | cons x xs ih =>
       intro l' h;cases l' with
       | nil=>simp at h
       | cons y ys =>
        rw[Zx6,Zx6]at h;injection h with h1 h2
        injection h1 with h1
        rw[h1,ih h2]
     rw[<-this v2]; exact ha
  rcases h1 a z with w | w
  ·exact e.dis j i a hj hm w
  ·exact w.2.2 j hm
 rw[ZBo,ZBo]at e2;have es:σ.set i (some v)=σ:=by have hi:i<σ.length:=(Zyd.mp hv).1;have hq:σ[i]=some v:=(Zyd.mp hv).2;rw[<-hq];exact ZAB hi
 rwa [es]at e2
theorem Zbn.change(e:Zbn K F0 H0 F H r σ fp)(hv:σ[i]?=some (some v)){fp':List Addr}(q:Zab K F H' b v fp')(nd:fp'.Nodup)(h1:∀a∈fp',a∈fp i\/H a=none)
  (h2:∀a o,H a=some o->¬a∈fp i->H' a=some o):At K F0 H0 F H' (r.set i (some b)) σ :=
 e.changeW hv q nd (λa ha=>(h1 a ha).imp id λz=>⟨e.sub.free z,e.ext.hh.free z,λj hj=>by obtain⟨o,ho⟩:=e.there hj;rw[z]at ho; cases ho⟩) h2
theorem At.storeNew{Hb:Hp}(e:At K F0 H0 F H r σ)(hb:At K F0 H0 F' Hb r σ)(sb:Zaz Hb H){fp':List Addr}(q:Zab K F H b v fp')(nd:fp'.Nodup)(h1:∀a∈fp',F a=none/\Hb a=none) :
  At K F0 H0 F H (r.set i (some b)) (σ.set i (some v)):=by
 refine e.store q nd (λa h=>⟨(h1 a h).1,hb.ext.hh.free (h1 a h).2⟩) λfp e1 j a hj ha z=>?_;obtain⟨fq,eb⟩:=hb;obtain⟨c,hc⟩:=e1.bound ha;obtain⟨u1,s1,r1⟩:=e1.at_ j c hc;obtain⟨u2,s2,r2⟩:=eb.at_ j c hc;rw[s2]at s1;cases s1;have hn:=(h1 a z).2;have old:∀{x:Addr} {o o':HO},Hb x=some o->H x=some o'->(∀ps,o'≠.tbl ps)->o=o':=λ{x o o'} h1 h2 n=>sb.back h1 h2 n;generalize fp j=f1 at r1 ha;generalize fq j=f2 at r2;cases r1 with
 | pl _=>simp at ha
 | hd _ _ _ _=>simp at ha
 | hf _=>simp at ha
 | ol k _=>cases r2 with | ol k' _=>simp at ha; subst ha; rw[hn]at k'; cases k'
 | ok k _ _=>cases r2 with | ok k' _ _=>simp at ha; subst ha; rw[hn]at k'; cases k'
 | ot k _ _=>cases r2 with | ot k' _ _=>simp at ha; subst ha; rw[hn]at k'; cases k'
 | otl k _ v1 _ =>
  cases r2 with
  | otl k' hk' v2 r2' =>
   have eo:=old k' k λ_ z=>by cases z
   injection eo with eo
   subst eo;have v2':=v2;rw[v1]at v2;rcases Zyo.mp ha with z2 | z2
   ·subst z2; rw[hn]at k'; cases k'
   ·have:V.ref a∈ZBz V.ref _:=Zyf.mpr ⟨a,z2,rfl⟩
    rw[v2]at this;obtain⟨a',m1,m2⟩:=Zyf.mp this;injection m2 with m2
    subst m2;obtain⟨o,ho⟩:=Zab.there (Zab.otl k' hk' v2' r2') (Zx4 _ m1);rw[hn]at ho; cases ho
theorem At.rebase(e:At K F0 H0 F H r σ):At K F H0 F H r σ:=by obtain⟨fp,e⟩:=e;exact⟨fp,⟨Zq.refl F,e.ext.hh,e.ext.sub,λ_ _ z=>.inl z,e.ext.tab,id⟩,e.len,e.at_,e.emp,e.own,e.nd,e.dis,e.tb,e.ext.nts e.nt⟩
theorem Ext.unbase{F1 H1:Hp}(x:Ext F0 H0 F1 H1)(y:Ext F1 H0 F H):Ext F0 H0 F H :=
 ⟨x.ff.trans y.ff,y.hh,y.sub,λa o z=>(y.new a o z).elim (λq=>x.new a o q) .inr,y.tab,λt=>y.nts (x.nts t)⟩
theorem At.unbase{F1 H1:Hp}(x:Ext F0 H0 F1 H1)(n:NoT F0)(e:At K F1 H0 F H r σ):At K F0 H0 F H r σ:=by obtain⟨fp,e⟩:=e;exact⟨fp,x.unbase e.ext,e.len,e.at_,e.emp,e.own,e.nd,e.dis,e.tb,n⟩
theorem Zbn.freeze{fp:Nat->List Addr}(e:Zbn K F0 H0 F H r σ fp)(i:Nat){b:HM.B}{a:Addr}{ob:HO}{d:PyData}(hb:r[i]?=some (some b))(h1:σ[i]?=some (some (.ref a)))(hfp:fp i=[a])(ha:H a=some ob)(hr:Zq F (upd F a ob)->Rep K (upd F a ob) d (.ref a))(no:HP.nt ob=true:=by rfl) :
  ∃F',Ext F0 H0 F' H/\Zq F F'/\At K F0 H0 F' H (r.set i (some (.pl d))) σ:=by
 have hF:F a=none:=(e.own i a (by rw[hfp]; simp)).1;have s:Zq F (upd F a ob):=Zq.upd' hF;have x:Ext F0 H0 (upd F a ob) H:=by
  refine⟨e.ext.ff.trans s,e.ext.hh,λc o z=>?_,λc o z=>?_,e.ext.tab,λt=>(e.ext.nts t).upd no⟩
  ·by_cases hc:c=a
   ·subst hc; rw[ZE]at z; cases z; exact ha
   ·rw[ZB hc]at z; exact e.sub c o z
  ·by_cases hc:c=a
   ·subst hc; exact .inr (.inl (e.own i c (by rw[hfp]; simp)).2)
   ·rw[ZB hc]at z; exact e.ext.new c o z
 refine⟨_,x,s,?_⟩;have e1:Zbn K F0 H0 (upd F a ob) H (r.set i none) (σ.set i none) (λj=>if j=i then[]else fp j):=by
  refine⟨x,by rw[Zzd,Zzd,e.len],λj c h=>?_,λj h=>?_,λj c h=>?_,λj=>?_,λj k c hjk h=>?_,e.tb,e.nt⟩
  ·by_cases hj:j=i
   ·subst hj
    rw[ZyR (Zyd.mp hb).1]at h; cases h
   ·rw[Zyz (Zy1 hj)]at h
    obtain⟨u,q1,q2⟩:=e.at_ j c h;refine⟨u,by rw[Zyz (Zy1 hj)]; exact q1,?_⟩;rw[if_neg hj]; exact q2.mono s λ_ _ _ z=>.of z
  ·show(if j=i then[]else fp j)=[]
   by_cases hj:j=i
   ·rw[if_pos hj]
   ·rw[if_neg hj]
    exact e.emp j λc z=>h c (by rw[Zyz (Zy1 hj)]; exact z)
  ·by_cases hj:j=i
   ·rw[if_pos hj]at h; simp at h
   ·rw[if_neg hj]at h
    have hca:c≠a:=λz=>e.dis j i c hj h (by rw[hfp,z]; simp);exact⟨by rw[ZB hca]; exact(e.own j c h).1,(e.own j c h).2⟩
  ·show(if j=i then[]else fp j).Nodup
   by_cases hj:j=i
   ·rw[if_pos hj]; exact ZzH
   ·rw[if_neg hj]; exact e.nd j
  ·show ¬c∈(if k=i then[]else fp k)
   by_cases hj:j=i
   ·rw[if_pos hj]at h; simp at h
   ·rw[if_neg hj]at h
    by_cases hk:k=i
    ·rw[if_pos hk]; simp
    ·rw[if_neg hk]; exact e.dis j k c hjk h
 have rp:=hr s;have e2:=At.set (i:=i) ⟨_,e1⟩ rp;rw[ZBo,ZBo]at e2;have es:σ.set i (some (.ref a))=σ:=by have hi:i<σ.length:=(Zyd.mp h1).1;have hq:σ[i]=some (.ref a):=(Zyd.mp h1).2;rw[<-hq];exact ZAB hi
 rwa [es]at e2
theorem At.freeze(e:At K F0 H0 F H r σ)(i:Nat):∃F',Ext F0 H0 F' H/\Zq F F'/\At K F0 H0 F' H (HM.Zje i r) σ:=by
 unfold HM.Zje;split
 ·rename_i ds hb
  obtain⟨fp,e⟩:=e;obtain⟨v,h1,h2⟩:=e.at_ i _ hb;generalize hfp:fp i=f at h2;cases h2 with
  | @ol a _ vs ha q=>exact e.freeze i hb h1 hfp ha λs=>.lst (.of ZE) q.1 (q.mono s).2
 ·rename_i kvs hb
  obtain⟨fp,e⟩:=e;obtain⟨v,h1,h2⟩:=e.at_ i _ hb;generalize hfp:fp i=f at h2;cases h2 with
  | @ot a _ vvs ha hk q=>exact e.freeze i hb h1 hfp ha λs=>.dct (.inl ZE) rfl hk (q.mono s).2
 ·exact⟨F,e.ext,Zq.refl F,e⟩
end
inductive Now(K:Zx0)(r:HM.Env)(σ:L2.St)(H:Hp)(C:Hp->Hp->Hp->Prop):Prop
 | mk (F0 H0 F:Hp) (at_:At K F0 H0 F H r σ) (k:C F0 H0 F):Now K r σ H C
end HP
namespace HP
open PySem PySem.Spec PyProof.Rows L2
variable[FX]
def tAt(K:Zx0)(r:HM.Env)(P:Hp->Hp->Hp->V->Prop):TE:=λσ H Q=>Now K r σ H λF0 H0 F=>∀v F' H',Ext F H F' H'->P H F' H' v->Q v H'
def XE(X:Cx)(e:Expr)(f:HM.EF):Prop:=∀r d,f r=some d->PE X e (tAt X.K r λ_ F' _ v=>Rep X.K F' d v)
def XB(X:Cx)(e:Expr)(f:HM.BF):Prop:=∀r b,f r=some b->PE X e (tAt X.K r λ_ F' H' v=>∃fp,Zab X.K F' H' b v fp)
def XF(X:Cx)(e:Expr)(f:HM.BF):Prop:=∀r b,f r=some b->PE X e (tAt X.K r λH F' H' v=>∃fp,Zab X.K F' H' b v fp/\fp.Nodup/\∀a∈fp,F' a=none/\H a=none)
def XT(X:Cx)(e:Expr)(f:HM.TF):Prop:=∀r c,f r=some c->PT X e λσ H Q=>Now X.K r σ H λF0 H0 F=>∀F' H',Ext F H F' H'->Q c H'
def XW(X:Cx)(e:Expr)(f:HM.TF):Prop:=∀r c,f r=some c->PW X e λσ H Q=>Now X.K r σ H λF0 H0 F=>∀F' H',Ext F H F' H'->Q c H'
structure XA(X:Cx)(es:List Expr)(f:HM.AF):Prop where
 len:∀r ds,f r=some ds->ds.length=es.length
 pa:∀r ds,f r=some ds->PA X es λσ H Q=>Now X.K r σ H λF0 H0 F=>∀vs F' H',Ext F H F' H'->Zv X.K F' ds vs->Q vs H'
def ItD(K:Zx0)(J:It)(ds:List PyData)(F:Hp):Prop:=∀F' H,Zq F F'->Zq F' H ->
 (∀(i:Nat) (d:PyData),ds[i]?=some d->J.go i H/\∀x H',J.yld i H x H'->H'=H/\Rep K (ZcH F' H) d x)/\J.stop ds.length H
def XI(X:Cx)(tg e:Expr)(f:HM.IF):Prop:=∀r ds,f r=some ds->PI X tg e λσ H R=>Now X.K r σ H λF0 H0 F=>∀J F' H',Ext F H F' H'->ItD X.K J ds F'->R J H'
def ZxN(K:Zx0)(F0 H0:Hp)(o:HM.Out)(E:Ends):Prop:=match o with
 | .nx r=>∀σ F H,At K F0 H0 F H r σ->E.nx σ H
 | .rt d=>∀v F H,Ext F0 H0 F H->Rep K F d v->E.rt v H
 | .bk r=>∀σ F H,At K F0 H0 F H r σ->E.bk σ H
 | .ct r=>∀σ F H,At K F0 H0 F H r σ->E.ct σ H
def tSt(K:Zx0)(r:HM.Env)(o:HM.Out):TS:=λE σ H=>Now K r σ H λF0 H0 F=>ZxN K F0 H0 o E
def XS(X:Cx)(st:Stmt)(g:HM.SF):Prop:=∀r o,g r=some o->PS X st (tSt X.K r o)
def XSs(X:Cx)(sts:List Stmt)(g:HM.SF):Prop:=∀r o,g r=some o->PSs X sts (tSt X.K r o)
theorem PE.imp{X:Cx}{e:Expr}{t u:TE}(h:PE X e t)(hi:∀σ H Q,u σ H Q->t σ H Q):PE X e u:=λpins s σ H Q I q=>h pins s σ H Q I (hi σ H Q q)
theorem PT.imp{X:Cx}{e:Expr}{t u:TT}(h:PT X e t)(hi:∀σ H Q,u σ H Q->t σ H Q):PT X e u:=λpins s σ H Q I q=>h pins s σ H Q I (hi σ H Q q)
theorem PW.imp{X:Cx}{e:Expr}{t u:TT}(h:PW X e t)(hi:∀σ H Q,u σ H Q->t σ H Q):PW X e u:=λwh pins s σ H Q I q=>h wh pins s σ H Q I (hi σ H Q q)
theorem PA.imp{X:Cx}{es:List Expr}{t u:TA}(h:PA X es t)(hi:∀σ H Q,u σ H Q->t σ H Q):PA X es u:=λp pins s σ H Q I q=>h p pins s σ H Q I (hi σ H Q q)
theorem PS.imp{X:Cx}{st:Stmt}{t u:TS}(h:PS X st t)(hi:∀E σ H,u E σ H->t E σ H):PS X st u:=λpins s σ H E I q=>h pins s σ H E I (hi E σ H q)
theorem PSs.imp{X:Cx}{sts:List Stmt}{t u:TS}(h:PSs X sts t)(hi:∀E σ H,u E σ H->t E σ H):PSs X sts u:=λpins s σ H E I q=>h pins s σ H E I (hi E σ H q)
section
variable{X:Cx}{a b c e:Expr}{fa fb fc:HM.EF}{pos p:Pos}
theorem ZsS{i:Nat}{r:HM.Env}{d:PyData}(h:HM.Zc i r=some d):r[i]?=some (some (.pl d)):=by
 unfold HM.Zc at h;split at h
 ·rename_i q; cases h; exact q
 ·cases h
theorem Zs3{i:Nat}{r:HM.Env}{d:HM.B}(h:HM.Zo i r=some d):r[i]?=some (some d):=by
 unfold HM.Zo at h;split at h
 ·rename_i q; cases h; exact q
 ·cases h
theorem Za(i:Nat){x:Str}{pos:Pos}(hN:X.N[i]?=some x:=by rfl)(hv:Vis X.env.scope x:=by first | exact ZyY rfl | exact ZyC (ZyY rfl) | exact ZyC (ZyC rfl))(hd:(x==("__debug__":Str))=false:=by decide)
  (hcd:(x==("__classdict__":Str))=false:=by decide):XE X (.Name x pos) (HM.Zc i):=by
 intro r d h;refine PE.imp (Zca hN hv hd hcd) λσ H Q ⟨F0,H0,F,at_,k⟩=>?_;obtain⟨v,h1,h2⟩:=at_.plain (ZsS h);exact⟨v,h1,k v F H at_.refl h2⟩
theorem Zt(i:Nat){x:Str}{pos:Pos}(hN:X.N[i]?=some x:=by rfl)(hv:Vis X.env.scope x:=by first | exact ZyY rfl | exact ZyC (ZyY rfl) | exact ZyC (ZyC rfl))(hd:(x==("__debug__":Str))=false:=by decide)
  (hcd:(x==("__classdict__":Str))=false:=by decide):XB X (.Name x pos) (HM.Zo i):=by
 intro r d h;refine PE.imp (Zca hN hv hd hcd) λσ H Q ⟨F0,H0,F,at_,k⟩=>?_;obtain⟨v,fp,h1,h2⟩:=at_.any (Zs3 h);exact⟨v,h1,k v F H at_.refl ⟨fp,h2⟩⟩
theorem ZfJ{v:V}{d:PyData}(h:PE X e (tC v))(r:∀F,Rep X.K F d v):XE X e (HM.eC d):=by intro r' d' h';cases h';exact PE.imp h λσ H Q ⟨F0,H0,F,at_,k⟩=>k v F H at_.refl (r F)
theorem Zk{i:Int}{j:Nat}:XE X (.Constant (.int i) j pos) (HM.eC (.int i)):=ZfJ Zr3 λ_=>.int i
theorem Zb0{q:Bool}{j:Nat}:XE X (.Constant (.bool q) j pos) (HM.eC (.bool q)):=ZfJ ZwK λ_=>.bl q
theorem Zb1{j:Nat}:XE X (.Constant .none j pos) (HM.eC .none):=ZfJ ZrA λ_=>.non
theorem Zi1{x:Str}{i:Int}(hm:∃t,X.mg x=some (.int i t))(hg:Gl X x:=by rfl)(hd:(x==("__debug__":Str))=false:=by decide):XE X (.Name x pos) (HM.eC (.int i)):=by obtain⟨t,hm⟩:=hm;exact ZfJ (ZpK hg hm (v:=.int i) ⟨t,rfl⟩ hd) λ_=>.int i
theorem Zu7{i:Int}{j:Nat}{p':Pos}:XE X (.UnaryOp .USub (.Constant (.int i) j p') pos) (HM.eC (.int (-i))):=by intro r d h;cases h;intro pins s σ H Q I q;obtain⟨F0,H0,F,at_,k⟩:=q;refine UnaryOp_ (thn (Zr3 pins s σ H (λv H'=>v=.int i/\H'=H) I ⟨rfl,rfl⟩) λu s1 ⟨x,H1,I1,r1,e1,e2⟩=>?_);subst e1 e2;obtain⟨t,rfl⟩:=r1;exact neg_int ⟨.int (-i),H1,I1.tok _,⟨_,rfl⟩,k _ F H1 at_.refl (.int _)⟩
theorem ZaJ(h:XE X e fa):XB X e (HM.bOf fa):=by intro r b hb;obtain⟨d,h1,h2⟩:=Zx2.mp hb;subst h2;exact PE.imp (h r d h1) λσ H Q ⟨F0,H0,F,at_,k⟩=>⟨F0,H0,F,at_,λv F' H' x q=>k v F' H' x ⟨[],.pl q⟩⟩
theorem ZaW{f:HM.BF}(h:XF X e f):XB X e f:=λr b hb=>PE.imp (h r b hb) λσ H Q ⟨F0,H0,F,at_,k⟩=>⟨F0,H0,F,at_,λv F' H' x ⟨fp,q,_⟩=>k v F' H' x ⟨fp,q⟩⟩
theorem ZcN{f:HM.BF}(h:XF X e f):XE X e (HM.eOf f):=by
 intro r d hd;unfold HM.eOf at hd;obtain⟨b,h1,h2⟩:=ZA1.mp hd;refine PE.imp (h r b h1) λσ H Q ⟨F0,H0,F,at_,k⟩=>⟨F0,H0,F,at_,λv F' H' x ⟨fp,q,_,hn⟩=>?_⟩;cases q with
 | pl q=>cases h2;exact k v F' H' x q
 | @ol l ds vs hl q =>
  cases h2;have hF:F' l=none:=(hn l (by simp)).1;have s:Zq F' (upd F' l (.lst vs)):=Zq.upd' hF;refine k _ (upd F' l (.lst vs)) H' ⟨x.ff.trans s,x.hh,λc o z=>?_,λc o z=>?_,x.tab,λt=>(x.nts t).upd rfl⟩ (.lst (.of ZE) q.1 (q.mono s).2)
  ·by_cases hc:c=l
   ·subst hc; rw[ZE]at z; cases z; exact hl
   ·rw[ZB hc]at z; exact x.sub c o z
  ·by_cases hc:c=l
   ·subst hc; exact .inr (.inl (hn c (by simp)).2)
   ·rw[ZB hc]at z; exact x.new c o z
 | @ot l kvs vvs hl hk q =>
  cases h2;have hF:F' l=none:=(hn l (by simp)).1;have s:Zq F' (upd F' l (.dT vvs)):=Zq.upd' hF;refine k _ (upd F' l (.dT vvs)) H' ⟨x.ff.trans s,x.hh,λc o z=>?_,λc o z=>?_,x.tab,λt=>(x.nts t).upd rfl⟩ (.dct (.inl ZE) rfl hk (q.mono s).2)
  ·by_cases hc:c=l
   ·subst hc; rw[ZE]at z; cases z; exact hl
   ·rw[ZB hc]at z; exact x.sub c o z
  ·by_cases hc:c=l
   ·subst hc; exact .inr (.inl (hn c (by simp)).2)
   ·rw[ZB hc]at z; exact x.new c o z
 | ok _ _ _=>cases h2
 | hd h3 h4 h5 h6=>cases h2; exact k _ F' H' x (.dct (.inr ⟨_,h3⟩) h4 h5 h6.2)
 | hf h3=>cases h2; exact k _ F' H' x (.fn h3)
 | otl _ _ _ _=>cases h2
def Bin(K:Zx0)(r:R2)(g:PyData->PyData->Option PyData):Prop:=∀(F H:Hp) (x y z:PyData) (v w:V) (Q:VK),Zq F H->g x y=some z->Rep K F x v->Rep K F y w->(∀u,Rep K F z u->Q u H)->r v w H Q
structure Zn7(X:Cx)(op:Operator)(g:PyData->PyData->Option PyData):Prop where
 ex:∃r,OpR X (ZBg op) r/\Bin X.K r g
structure Zgm(X:Cx)(op:CmpOp)(g:PyData->PyData->Option PyData):Prop where
 ex:∃r,OpR X (Zy6 op) r/\Bin X.K r g
 n1:op≠.In
 n2:op≠.NotIn
theorem Zhc{g:PyData->PyData->Option PyData}{r:HM.Env}{d:PyData}(h:HM.op2 g fa fb r=some d):∃x y,fa r=some x/\fb r=some y/\g x y=some d:=by
 unfold HM.op2 at h;split at h
 ·split at h
  ·exact⟨_,_,by assumption,by assumption,h⟩
  ·cases h
 ·cases h
theorem two{K:Zx0}{r:HM.Env}{x y:PyData}{P:Hp->Hp->Hp->V->Prop}{σ:L2.St}{H:Hp}{Q:VK}{R:V->V->Hp->VK->Prop}(h:tAt K r P σ H Q)
  (hk:∀H F2 H2 v w,Zq F2 H2->Rep K F2 x v->Rep K F2 y w->(∀u F3 H3,Ext F2 H2 F3 H3->P H F3 H3 u->Q u H3)->Zaz H H2->R v w H2 Q) :
  tOp R (tAt K r λ_ F' _ v=>Rep K F' x v) (tAt K r λ_ F' _ v=>Rep K F' y v) σ H Q:=by
 obtain⟨F0,H0,F,at_,k⟩:=h;refine⟨F0,H0,F,at_,λv F1 H1 x1 r1=>⟨F0,H0,F1,at_.grow x1,λw F2 H2 x2 r2=>?_⟩⟩;exact hk H F2 H2 v w x2.sub (r1.mono x2.ff) r2 (λu F3 H3 x3 q=>k u F3 H3 ((x1.trans x2).trans x3) q) (x1.hh.trans x2.hh)
theorem ZI{op:Operator}{g:PyData->PyData->Option PyData}(o:Zn7 X op g)(ha:XE X a fa)(hb:XE X b fb):XE X (.BinOp a op b pos) (HM.op2 g fa fb):=by intro r d h;obtain⟨x,y,h1,h2,h3⟩:=Zhc h;obtain⟨R,o1,o2⟩:=o.ex;refine PE.imp (Zq8 o1 (ha r x h1) (hb r y h2)) λσ H Q q=>?_;exact two q λ_ F2 H2 v w s r1 r2 k _=>o2 F2 H2 x y d v w Q s h3 r1 r2 λu ru=>k u F2 H2 (.refl s) ru
theorem Ze5{op:CmpOp}{g:PyData->PyData->Option PyData}(o:Zgm X op g)(ha:XE X a fa)(hb:XE X b fb):XE X (.Compare a [op] [b] pos) (HM.op2 g fa fb):=by intro r d h;obtain⟨x,y,h1,h2,h3⟩:=Zhc h;obtain⟨R,o1,o2⟩:=o.ex;refine PE.imp (Zp2 o1 (ha r x h1) (hb r y h2) (Zj8 _ o.n1 o.n2)) λσ H Q q=>?_;exact two q λ_ F2 H2 v w s r1 r2 k _=>o2 F2 H2 x y d v w Q s h3 r1 r2 λu ru=>k u F2 H2 (.refl s) ru
theorem Zff{r:HM.Env}{c:Bool}(h:HM.tV fa r=some c):fa r=some (.bool c):=by
 unfold HM.tV at h;split at h
 ·rename_i q; cases h; exact q
 ·cases h
theorem Rep.bool_inv{K:Zx0}{F:Hp}{c:Bool}{v:V}(h:Rep K F (.bool c) v):v=.bl c:=by cases h; rfl
theorem Rep.int_inv{K:Zx0}{F:Hp}{i:Int}{v:V}(h:Rep K F (.int i) v):v=.int i:=by cases h; rfl
theorem Rep.none_inv{K:Zx0}{F:Hp}{v:V}(h:Rep K F .none v):v=.non:=by cases h; rfl
theorem Zav{op:CmpOp}{g:PyData->PyData->Option PyData}(o:Zgm X op g)(ha:XE X a fa)(hb:XE X b fb):XT X (.Compare a [op] [b] pos) (HM.tV (HM.op2 g fa fb)):=by intro r d h;obtain⟨x,y,h1,h2,h3⟩:=Zhc (Zff h);obtain⟨R,o1,o2⟩:=o.ex;refine PT.imp (Zlq o1 (ha r x h1) (hb r y h2) (Zj8 _ o.n1 o.n2)) λσ H Q ⟨F0,H0,F,at_,k⟩=>?_;refine⟨F0,H0,F,at_,λv F1 H1 x1 r1=>⟨F0,H0,F1,at_.grow x1,λw F2 H2 x2 r2=>?_⟩⟩;refine o2 F2 H2 x y _ v w _ x2.sub h3 (r1.mono x2.ff) r2 λu ru=>?_;exact⟨d,ru.bool_inv,k F2 H2 (x1.trans x2)⟩
theorem Zb4(h:XE X e fa)(he:∀whole,isTrue e X.env whole=(do let v <-whole; standAt e.pos; holding [v] (truthy v)):=by intro _; rfl):XT X e (HM.tV fa):=by intro r c hc;refine PT.imp (Zwf (h r _ (Zff hc)) he) λσ H Q ⟨F0,H0,F,at_,k⟩=>?_;exact⟨F0,H0,F,at_,λv F1 H1 x1 r1=>⟨c,r1.bool_inv,k F1 H1 x1⟩⟩
theorem ZdM{t:HM.TF}(h:XT X a t):XT X (.UnaryOp .Not a pos) (HM.ZeS t):=by intro r c hc;obtain⟨d,h1,h2⟩:=Zx2.mp hc;subst h2;refine PT.imp (ZvK (h r d h1)) λσ H Q ⟨F0,H0,F,at_,k⟩=>?_;exact⟨F0,H0,F,at_,λF1 H1 x1=>k F1 H1 x1⟩
theorem ZmP{t:HM.TF}(h:XW X e t):XT X e t:=λr c hc=>(h r c hc).pt
theorem Zua{t:HM.TF}(h:XT X a t):XW X (.BoolOp .And [a] pos) t:=λr c hc=>ZuO (h r c hc)
theorem Zki{t:HM.TF}(h:XT X a t):XW X (.BoolOp .Or [a] pos) t:=λr c hc=>Zwc (h r c hc)
theorem Zoe{e:Expr}:PW X e λ_ _ _=>False:=λ_ _ _ _ _ _ _ h=>h.elim
theorem ZhR{e:Expr}:PE X e λ_ _ _=>False:=λ_ _ _ _ _ _ h=>h.elim
theorem Zu8{t u:HM.TF}{rest:List Expr}(ha:XT X a t)(hb:XW X (.BoolOp .And (b::rest) pos) u):XW X (.BoolOp .And (a::b::rest) pos) (HM.ZoM t u):=by
 intro r c hc;unfold HM.ZoM at hc;split at hc
 ·rename_i q
  refine PW.imp (ZrR (ha r true q) (hb r c hc)) λσ H Q ⟨F0,H0,F,at_,k⟩=>?_;exact⟨F0,H0,F,at_,λF1 H1 x1=>Zk8 ⟨F0,H0,F1,at_.grow x1,λF2 H2 x2=>k F2 H2 (x1.trans x2)⟩⟩
 ·rename_i q
  cases hc;refine PW.imp (ZrR (ha r false q) Zoe) λσ H Q ⟨F0,H0,F,at_,k⟩=>?_;exact⟨F0,H0,F,at_,λF1 H1 x1=>Zlg (k F1 H1 x1)⟩
 ·cases hc
theorem ZmF{t u:HM.TF}{rest:List Expr}(ha:XT X a t)(hb:XW X (.BoolOp .Or (b::rest) pos) u):XW X (.BoolOp .Or (a::b::rest) pos) (HM.tOr t u):=by
 intro r c hc;unfold HM.tOr at hc;split at hc
 ·rename_i q
  cases hc;refine PW.imp (Zt6 (ha r true q) Zoe) λσ H Q ⟨F0,H0,F,at_,k⟩=>?_;exact⟨F0,H0,F,at_,λF1 H1 x1=>Zk8 (k F1 H1 x1)⟩
 ·rename_i q
  refine PW.imp (Zt6 (ha r false q) (hb r c hc)) λσ H Q ⟨F0,H0,F,at_,k⟩=>?_;exact⟨F0,H0,F,at_,λF1 H1 x1=>Zlg ⟨F0,H0,F1,at_.grow x1,λF2 H2 x2=>k F2 H2 (x1.trans x2)⟩⟩
 ·cases hc
theorem Ze6{op:BoolOp}(h:XE X a fa):XE X (.BoolOp op [a] pos) fa:=λr d hd=>Zv7 (h r d hd)
theorem Ze7{rest:List Expr}(ha:XE X a fa)(hb:XE X (.BoolOp .And (b::rest) pos) fb):XE X (.BoolOp .And (a::b::rest) pos) (HM.Zgi fa fb):=by
 intro r d hd;unfold HM.Zgi at hd;split at hd
 ·rename_i q
  refine PE.imp (Zrn (ha r _ q) (hb r d hd)) λσ H Q ⟨F0,H0,F,at_,k⟩=>?_;exact⟨F0,H0,F,at_,λv F1 H1 x1 r1=>⟨true,r1.bool_inv,Zk8 ⟨F0,H0,F1,at_.grow x1,λw F2 H2 x2 r2=>k w F2 H2 (x1.trans x2) r2⟩⟩⟩
 ·rename_i q
  cases hd;refine PE.imp (Zrn (ha r _ q) ZhR) λσ H Q ⟨F0,H0,F,at_,k⟩=>?_;exact⟨F0,H0,F,at_,λv F1 H1 x1 r1=>⟨false,r1.bool_inv,Zlg (k _ F1 H1 x1 (.bl false))⟩⟩
 ·cases hd
theorem ZtZ{t:HM.TF}(hc:XT X c t)(ha:XE X a fa)(hb:XE X b fb):XE X (.IfExp c a b pos) (HM.eIf t fa fb):=by
 intro r d hd;unfold HM.eIf at hd;split at hd
 ·rename_i q
  refine PE.imp (Zoi (hc r _ q) (ha r d hd) ZhR) λσ H Q ⟨F0,H0,F,at_,k⟩=>?_;exact⟨F0,H0,F,at_,λF1 H1 x1=>Zk8 ⟨F0,H0,F1,at_.grow x1,λw F2 H2 x2 r2=>k w F2 H2 (x1.trans x2) r2⟩⟩
 ·rename_i q
  refine PE.imp (Zoi (hc r _ q) ZhR (hb r d hd)) λσ H Q ⟨F0,H0,F,at_,k⟩=>?_;exact⟨F0,H0,F,at_,λF1 H1 x1=>Zlg ⟨F0,H0,F1,at_.grow x1,λw F2 H2 x2 r2=>k w F2 H2 (x1.trans x2) r2⟩⟩
 ·cases hd
theorem ZmQ{op op':CmpOp}{g g':PyData->PyData->Option PyData}(o:Zgm X op g)(o':Zgm X op' g')(ha:XE X a fa)(hb:XE X b fb)(hc:XE X c fc)
  (hm:lastMarks [op,op'] [b,c]=false:=by with_unfolding_all rfl):XE X (.Compare a [op,op'] [b,c] pos) (HM.Zkv g g' fa fb fc):=by
 intro r d hd;unfold HM.Zkv at hd;obtain⟨R,o1,o2⟩:=o.ex;obtain⟨R',o1',o2'⟩:=o'.ex;split at hd
 ·rename_i x hx
  split at hd
  ·rename_i y hy
   split at hd
   ·rename_i hg
    split at hd
    ·rename_i z hz
     refine PE.imp (ZoJ o1 o1' (ha r x hx) (hb r y hy) (hc r z hz) hm) λσ H Q ⟨F0,H0,F,at_,k⟩=>?_;refine⟨F0,H0,F,at_,λv F1 H1 x1 r1=>⟨F0,H0,F1,at_.grow x1,λw F2 H2 x2 r2=>?_⟩⟩;refine o2 F2 H2 x y _ v w _ x2.sub hg (r1.mono x2.ff) r2 λu ru=>?_;refine⟨true,ru.bool_inv,Zk8 ⟨F0,H0,F2,(at_.grow x1).grow x2,λw' F3 H3 x3 r3=>?_⟩⟩;exact o2' F3 H3 y z d w w' Q x3.sub hd (r2.mono x3.ff) r3 λu' ru'=>k u' F3 H3 ((x1.trans x2).trans x3) ru'
    ·cases hd
   ·rename_i hg
    cases hd;refine PE.imp (ZoJ o1 o1' (ha r x hx) (hb r y hy) ZhR hm) λσ H Q ⟨F0,H0,F,at_,k⟩=>?_;refine⟨F0,H0,F,at_,λv F1 H1 x1 r1=>⟨F0,H0,F1,at_.grow x1,λw F2 H2 x2 r2=>?_⟩⟩;refine o2 F2 H2 x y _ v w _ x2.sub hg (r1.mono x2.ff) r2 λu ru=>?_;exact⟨false,ru.bool_inv,Zlg (k _ F2 H2 (x1.trans x2) (.bl false))⟩
   ·cases hd
  ·cases hd
 ·cases hd
theorem Zh:XA X [] HM.Zn:=by refine⟨λr ds h=>by cases h; rfl,λr ds h=>?_⟩;cases h;exact PA.imp ZbK λσ H Q ⟨F0,H0,F,at_,k⟩=>k [] F H at_.refl .nil
theorem Zb{es:List Expr}{f:HM.AF}(ha:XE X e fa)(hr:XA X es f)(hs:Zyc (e::es) X.env=(false,eval e X.env)::Zyc es X.env:=by rfl):XA X (e::es) (HM.Zd fa f):=by
 refine⟨λr ds h=>?_,λr ds h=>?_⟩
 ·unfold HM.Zd at h
  split at h
  ·obtain⟨xs,h1,h2⟩:=Zx2.mp h
   subst h2;rw[Zyg,Zyg,hr.len r xs h1]
  ·cases h
 unfold HM.Zd at h;split at h
 ·rename_i x hx
  obtain⟨xs,h1,h2⟩:=Zx2.mp h;subst h2;refine PA.imp (Zak (ha r x hx) (hr.pa r xs h1) hs) λσ H Q ⟨F0,H0,F,at_,k⟩=>?_;exact⟨F0,H0,F,at_,λv F1 H1 x1 r1=>⟨F0,H0,F1,at_.grow x1,λvs F2 H2 x2 r2=>k (v::vs) F2 H2 (x1.trans x2) (.cons (r1.mono x2.ff) r2)⟩⟩
 ·cases h
theorem ZdN{es:List Expr}{f:HM.AF}{x1:Nat}(h:XA X es f)(hl:es.length<=100:=by exact Nat.le_of_ble_eq_true rfl):XE X (.Tuple es x1 pos) (HM.ZeR f):=by
 intro r d hd;obtain⟨ds,h1,h2⟩:=Zx2.mp hd;subst h2;refine PE.imp (Zwm (h.pa r ds h1)) λσ H Q ⟨F0,H0,F,at_,k⟩=>⟨F0,H0,F,at_,λvs F1 H1 x1 r1=>⟨?_,λp hp=>?_⟩⟩
 ·have e1:=h.len r ds h1
  have e2:=r1.1;have e3:(100:Nat)<=sizeLine:=by decide
  omega
 ·have hF:F1 p=none:=x1.sub.free hp
  exact k _ (upd F1 p (.tup vs)) _ (x1.lay hp) (.tup ZE r1.1 (r1.mono (Zq.upd' hF)).2)
theorem Zb5{es:List Expr}{f:HM.AF}(h:XA X es f)(hl:es.length<=100:=by exact Nat.le_of_ble_eq_true rfl):XF X (.List es pos) (HM.ZeC f):=by
 intro r d hd;obtain⟨ds,h1,h2⟩:=Zx2.mp hd;subst h2;refine PE.imp (ZvJ (h.pa r ds h1)) λσ H Q ⟨F0,H0,F,at_,k⟩=>⟨F0,H0,F,at_,λvs F1 H1 x1 r1=>⟨?_,λp hp=>?_⟩⟩
 ·have e1:=h.len r ds h1
  have e2:=r1.1;have e3:(100:Nat)<=sizeLine:=by decide
  omega
 ·have hF:F1 p=none:=x1.sub.free hp
  refine k _ F1 _ (x1.lay' hp) ⟨[p],.ol ZE r1,by simp,λa ha=>?_⟩;have:a=p:=by simpa using ha
  subst this;exact⟨hF,x1.hh.free hp⟩
end
end HP
namespace HP
open PySem PySem.Spec PyProof.Rows L2
variable[FX]
section
variable{X:Cx}{a b c e:Expr}{fa fb fc:HM.EF}{pos p:Pos}{st:Stmt}{rest:List Stmt}{g u:HM.SF}
theorem ZlK(h:X.xe=λ_ _=>False):PassesOwn (model X.prog X.w) X.A X.env X.xe:=by rw[h]; exact PassesOwn.never
theorem Z0:XSs X [] HM.ZaD:=by intro r o h;cases h;exact PSs.imp ZuC λE σ H ⟨F0,H0,F,at_,k⟩=>k σ F H at_
theorem Zj(h:XS X st g):XSs X [st] g:=λr o ho=>Zp8 (h r o ho)
theorem Zf(h1:XS X st g)(h2:XSs X rest u):XSs X (st::rest) (HM.Zr g u):=by
  intro r o h
  unfold HM.Zr at h
  split at h
  · rename_i r' q
    refine PSs.imp (Zh3 (h1 r _ q) (h2 r' o h)) λE σ H ⟨F0,H0,F,at_,k⟩=>?_
    exact⟨F0,H0,F,at_,λσ' F' H' at'=>⟨F0,H0,F',at',k⟩⟩
  all_goals first
    | cases h
      rename_i q
      refine PSs.imp (Zh3 (h1 r _ q) ZgB) λE σ H ⟨F0,H0,F,at_,k⟩=>?_
      exact⟨F0,H0,F,at_,k⟩
    | cases h
theorem ZmR:XS X st HM.Zns:=λr o h=>nomatch h
theorem ZA(h:XE X e fa):XS X (.Return (some e) pos) (HM.ZC fa):=by intro r o ho;obtain⟨d,h1,h2⟩:=Zx2.mp ho;subst h2;refine PS.imp (ZoL (h r d h1)) λE σ H ⟨F0,H0,F,at_,k⟩=>?_;exact⟨F0,H0,F,at_,λv F' H' x q=>k v F' H' (at_.ext.trans x) q⟩
theorem ZfH(h:XE X e fa)(hs:Zz3 e none pos.line X.env=pure false:=by rfl):XS X (.Expr e pos) (HM.ZhW fa):=by intro r o ho;obtain⟨d,h1,h2⟩:=Zx2.mp ho;subst h2;refine PS.imp (Zhf (h r d h1) hs) λE σ H ⟨F0,H0,F,at_,k⟩=>?_;exact⟨F0,H0,F,at_,λv F' H' x q=>k σ F' H' (at_.grow x)⟩
theorem ZaH{t:HM.TF}{sa sb:List Stmt}(hc:XT X c t)(ha:XSs X sa g)(hb:XSs X sb u):XS X (.If c sa sb pos) (HM.sIf t g u):=by
 intro r o ho;unfold HM.sIf at ho;split at ho
 ·rename_i q
  refine PS.imp (Zt2 (hc r _ q) (ha r o ho) ZgB) λE σ H ⟨F0,H0,F,at_,k⟩=>?_;exact⟨F0,H0,F,at_,λF' H' x=>Zk8 ⟨F0,H0,F',at_.grow x,k⟩⟩
 ·rename_i q
  refine PS.imp (Zt2 (hc r _ q) ZgB (hb r o ho)) λE σ H ⟨F0,H0,F,at_,k⟩=>?_;exact⟨F0,H0,F,at_,λF' H' x=>Zlg ⟨F0,H0,F',at_.grow x,k⟩⟩
 ·cases ho
theorem Zcz(i:Nat)(h:XS X st g):XS X st (HM.ZdH i g):=by intro r o ho;refine PS.imp (h (HM.Zje i r) o ho) λE σ H ⟨F0,H0,F,at_,k⟩=>?_;obtain⟨F',_,_,a'⟩:=at_.freeze i;exact⟨F0,H0,F',a',k⟩
theorem ZN(i:Nat){x:Str}{p':Pos}(hN:X.N.Nodup)(h:XE X e fa)(hi:X.N[i]?=some x:=by rfl)(hx:Loc X.env.scope x:=by first | exact ZyY rfl | exact ZyC rfl)
  (hs:Zz3 e (some (.Name x p')) pos.line X.env=pure false:=by rfl) (hf:X.fn x=true\/X.env.scope.names.lookup x=some .local:=by first | exact .inl rfl | exact .inr rfl) :
  XS X (.Assign [.Name x p'] e pos) (HM.Z9 i fa):=by
 intro r o ho;obtain⟨d,h1,h2⟩:=Zx2.mp ho;subst h2;refine PS.imp (ZnZ hN hi hx (h r d h1) hs hf) λE σ H ⟨F0,H0,F,at_,k⟩=>?_;exact⟨F0,H0,F,at_,λv F' H' x q=>k _ F' H' ((at_.grow x).set q)⟩
theorem Zam(i:Nat){x:Str}{p':Pos}{f:HM.BF}(hN:X.N.Nodup)(h:XF X e f)(hi:X.N[i]?=some x:=by rfl)(hx:Loc X.env.scope x:=by first | exact ZyY rfl | exact ZyC rfl)
  (hs:Zz3 e (some (.Name x p')) pos.line X.env=pure false:=by rfl) (hf:X.fn x=true\/X.env.scope.names.lookup x=some .local:=by first | exact .inl rfl | exact .inr rfl) :
  XS X (.Assign [.Name x p'] e pos) (HM.ZQ i f):=by
 intro r o ho;obtain⟨d,h1,h2⟩:=Zx2.mp ho;subst h2;refine PS.imp (ZnZ hN hi hx (h r d h1) hs hf) λE σ H ⟨F0,H0,F,at_,k⟩=>?_;exact⟨F0,H0,F,at_,λv F' H' x ⟨fp,q,nd,hn⟩=>k _ F' H' ((at_.grow x).storeNew at_ x.hh q nd hn)⟩
theorem Zbj(i:Nat){x:Str}{p':Pos}{iter:Expr}{body:List Stmt}{fi:HM.IF}(hN:X.N.Nodup)(hxe:X.xe=λ_ _=>False)(hc:X.calm=true)(hi:XI X (.Name x p') iter fi)(hb:XSs X body g)(hix:X.N[i]?=some x:=by rfl)
  (hx:Loc X.env.scope x:=by first | exact ZyY rfl | exact ZyC rfl) (hf:X.fn x=true\/X.env.scope.names.lookup x=some .local:=by first | exact .inl rfl | exact .inr rfl)
  (hs:∀x,ZzI iter X.env x=pure x:=by intro _; rfl):XS X (.For (.Name x p') iter body [] pos) (HM.Zbd i fi g):=by
 intro r o ho;unfold HM.Zbd at ho;split at ho
 ·rename_i ds hds
  split at ho
  ·rename_i hbig
   have pb:PSs X body (λE σ H=>∃r o,g r=some o/\tSt X.K r o E σ H):=λpins s σ H E I ⟨r,o,h1,h2⟩=>hb r o h1 pins s σ H E I h2;refine PS.imp (Zwx (ZlK hxe) hc (hi r ds hds) (Zjf hN hix hx hf) pb hs) λE σ H ⟨F0,H0,F,at_,k⟩=>?_;refine⟨F0,H0,F,at_,λJ F1 H1 x1 it=>?_⟩;refine⟨λn m σ H=>∃F r,At X.K F0 H0 F H r σ/\Zq F1 F/\n+m=ds.length/\HM.Z2 i g (ds.drop n) r=some o,⟨ds.length,F1,r,at_.grow x1,Zq.refl _,by omega,ho⟩,?_⟩
   rintro n m σ H ⟨F2,r2,at2,s2,hn,go⟩
   obtain⟨it1,it2⟩:=it F2 H s2 at2.sub;cases m with
   | zero =>
    have e:n=ds.length:=by omega
    subst e;rw[List.drop_length]at go;cases go;exact .inl ⟨it2,k σ F2 H at2⟩
   | succ m =>
    have hlt:n<ds.length:=by omega
    rw[ZB1 hlt]at go;obtain⟨j1,j2⟩:=it1 n ds[n] (Zye hlt);refine .inr ⟨j1,λσ' H'=>∃F r,At X.K F0 H0 F H' r σ'/\Zq F1 F/\HM.Z2 i g (ds.drop (n+1)) r=some o,λσ' H' ⟨F,r,a1,a2,a3⟩=>⟨m,by omega,F,r,a1,a2,by omega,a3⟩,λy H' hy=>?_⟩;obtain⟨e1,ry⟩:=j2 y H' hy;subst e1;obtain⟨F3,at3,s3,ry⟩:∃F3,At X.K F0 H0 F3 H' r2 σ/\Zq F1 F3/\Rep X.K F3 ds[n] y:=⟨_,at2.grow at2.refl.tups,s2.trans (ZdD at2.sub),ry⟩;have a3:=at3.set (i:=i) ry;have a4:=a3.rebase;unfold HM.Z2 at go;split at go
    ·rename_i r' hr
     exact⟨_,_,hr,F3,H0,F3,a4,λσ' F' H' a'=>⟨F',r',a'.unbase at3.ext at3.nt0,s3.trans a'.ext.ff,go⟩⟩
    ·rename_i r' hr
     exact⟨_,_,hr,F3,H0,F3,a4,λσ' F' H' a'=>⟨F',r',a'.unbase at3.ext at3.nt0,s3.trans a'.ext.ff,go⟩⟩
    ·rename_i r' hr
     cases go;exact⟨_,_,hr,F3,H0,F3,a4,λσ' F' H' a'=>k σ' F' H' (a'.unbase at3.ext at3.nt0)⟩
    ·rename_i d hr
     cases go;exact⟨_,_,hr,F3,H0,F3,a4,λv F' H' x q=>k v F' H' (at3.ext.unbase x) q⟩
    ·cases go
  ·cases ho
 ·cases ho
end
def spD(K:Zx0)(n:Nat)(M:List PyData->Option PyData):Sp:=λvs H Q _=>∃F ds d,vs.length=n/\Zq F H/\Tb H/\NoT F/\Zv K F ds vs/\M ds=some d/\∀v F' H',Ext F H F' H'->Rep K F' d v->Q v H'
structure Callee(P:Program)(w:World)(K:Zx0)(mg:Str->Option Value)(base:Heap)(k:Nat)(x:Str)(M:List PyData->Option PyData):Prop where
 ex:∃f fd ps,(∀ds d,M ds=some d->ds.length=ps.length)/\Zds P w K mg base CX0 k f fd ps (spD K ps.length M)/\mg x=some (.ref f)/\Zzp K (.ref f)=true/\Binds K fd ps []
theorem Callee.mono{P:Program}{w:World}{K:Zx0}{mg:Str->Option Value}{base:Heap}{j k:Nat}{x:Str}{M:List PyData->Option PyData}(C:Callee P w K mg base j x M)(h:j<=k):Callee P w K mg base k x M:=by obtain⟨f,fd,ps,l,F,r⟩:=C.ex;exact⟨f,fd,ps,l,F.mono h,r⟩
section
variable{X:Cx}{pos p:Pos}{e:Expr}{es:List Expr}{f:HM.AF}
theorem Zi{k:Nat}{x:Str}{M:List PyData->Option PyData}(C:Callee X.prog X.w X.K X.mg X.base k x M)(hr:Zag k X.A)(ha:XA X (e::es) f)(hg:Gl X x:=by rfl)(hdb:(x==("__debug__":Str))=false:=by decide)
  (he:Zyc (e::es) X.env=(false,eval e X.env)::Zyc es X.env:=by rfl) (hpl:(backTo pos (Zyc es X.env)).any (·.1)=false:=by rfl):XE X (.Call (.Name x p) (e::es) [] pos) (HM.Zl M f):=by
 intro r d hd;unfold HM.Zl at hd;split at hd
 ·rename_i ds hds
  obtain⟨fa,fd,ps,hl,F,hm,hk,hb⟩:=C.ex;refine PE.imp (Zjc (E:=E0) F hr hg hm hk hb .nil ZmJ (ha.pa r ds hds) hdb he hpl) λσ H Q ⟨F0,H0,F1,at_,k⟩=>?_;refine⟨F0,H0,F1,at_,λvs F' H' x q=>?_⟩;show spD X.K ps.length M (vs++[]) H' Q E0;rw[ZyJ];exact⟨F',ds,d,by rw[<-q.1]; exact hl ds d hd,x.sub,at_.tbx x,at_.ntx x,q,hd,λv F2 H2 x2 q2=>k v F2 H2 (x.trans x2) q2⟩
 ·cases hd
end
theorem Zgp{K:Zx0}{F H:Hp}{N:List Str}{ds:List PyData}{vs:List V}(s:Zq F H)(tb:Tb H)(nt:NoT F)(q:Zv K F ds vs)(hl:ds.length<=N.length):At K F H F H (HM.ZeB N.length ds) (L2.start N vs):=by
 have hv:=q.1;refine⟨λ_=>[],.refl s,?_,λi b h=>?_,λ_ _=>rfl,λi a h=>by simp at h,λ_=>ZzH,λi j a _ h=>by simp at h,tb,nt⟩
 ·unfold HM.ZeB L2.start
  rw[Zyl,Zyl,Zx1,Zx1,ZyP,ZyP,hv]
 ·unfold HM.ZeB at h
  by_cases hi:i<ds.length
  ·rw[ZyB (by rw[Zx1]; exact hi),Zyr,Zye hi]at h
   cases h;obtain⟨v,h1,h2⟩:=q.get (Zye hi);refine⟨v,?_,.pl h2⟩;unfold L2.start;rw[ZyB (by rw[Zx1,<-hv]; exact hi),Zyr,h1];rfl
  ·rw[ZyM (by rw[Zx1]; omega),ZAq]at h
   split at h<;>cases h
theorem ZpI{P:Program}{w:World}{K:Zx0}{mg:Str->Option Value}{base:Heap}{k:Nat}{x qual:Str}{st:Stmt}{f:Addr}{fd:FuncData}{N ps:List Str}{g:HM.SF}(Fn:Fun K x qual st f fd)(S:Zw N ps (Ze st))
  (body:∀(cdv:Value) (A:Around) (outer:List Env) (s:Shared) (H:Hp) (E:XK),Zag k (A.deeper (envOfC qual (Ze st) s.heap.objs.size f cdv))->XSs (Zga CX0 P w K mg base N qual (Ze st) f cdv A outer s H E).nox (ZaR st) g) :
  Zds P w K mg base CX0 (k+1) f fd ps (spD K ps.length (HM.fnOf ps.length N.length g)):=by
 have hpl:ps.length<=N.length:=by have:=congrArg ZyN S.pre; rw[ZzB]at this; omega
 refine Fn.ok S (λvs H Q E h=>?_) (λcdv A outer s H vs Q E hr h=>?_)
 ·obtain⟨_,_,_,h,_⟩:=h
  exact h
 ·obtain⟨F,ds,d,hl,sub,tb,nt,q,hM,kk⟩:=h
  unfold HM.fnOf at hM;split at hM
  ·rename_i hds
   have a0:=Zgp (N:=N) sub tb nt q (by omega);split at hM
   ·rename_i r hr'
    cases hM;exact⟨_,body cdv A outer s H E hr _ _ hr',F,H,F,a0,λσ F' H' a'=>kk .non F' H' a'.ext .non⟩
   ·rename_i d' hr'
    cases hM;exact⟨_,body cdv A outer s H E hr _ _ hr',F,H,F,a0,λv F' H' x q=>kk v F' H' x q⟩
   ·cases hM
  ·cases hM
theorem Zu{P:Program}{w:World}{K:Zx0}{mg:Str->Option Value}{base:Heap}{k:Nat}{x qual:Str}{st:Stmt}{f:Addr}{fd:FuncData}{N ps:List Str}{g:HM.SF}(Fn:Fun K x qual st f fd)(S:Zw N ps (Ze st))(hm:mg x=some (.ref f))(hb:Binds K fd ps [])
  (body:∀(cdv:Value) (A:Around) (outer:List Env) (s:Shared) (H:Hp) (E:XK),Zag k (A.deeper (envOfC qual (Ze st) s.heap.objs.size f cdv))->XSs (Zga CX0 P w K mg base N qual (Ze st) f cdv A outer s H E).nox (ZaR st) g) :
  Callee P w K mg base (k+1) x (HM.fnOf ps.length N.length g):=by
 refine⟨f,fd,ps,λds d h=>?_,ZpI Fn S body,hm,Fn.kp,hb⟩;unfold HM.fnOf at h;split at h
 ·assumption
 ·cases h
end HP
namespace HP
open PySem PySem.Spec PyProof.Rows L2
variable[FX]
section
variable{X:Cx}{a b c e:Expr}{fa fb fc:HM.EF}{pos p:Pos}
theorem Zf6{h:Int->Int->Option PyData}{x y z:PyData}(e:HM.Zfs h x y=some z):∃i j,x=.int i/\y=.int j/\h i j=some z:=by
 unfold HM.Zfs at e;split at e
 ·exact⟨_,_,rfl,rfl,e⟩
 ·cases e
theorem ZnH{K:Zx0}{g:Int->Int->V}{h:Int->Int->PyData}(hr:∀F i j,Rep K F (h i j) (g i j)):Bin K (rI0 g) (HM.Zfs λi j=>some (h i j)):=by intro F H x y z v w Q s e r1 r2 k;obtain⟨i,j,rfl,rfl,e⟩:=Zf6 e;cases e;exact⟨i,j,r1.int_inv,r2.int_inv,k _ (hr F i j)⟩
theorem ZbP:Zn7 X .Add HM.Zbo:=⟨_,Zvs,ZnH λ_ _ _=>.int _⟩
theorem Zto:Zn7 X .Sub HM.Zld:=⟨_,Zvk,ZnH λ_ _ _=>.int _⟩
theorem ZeK:Zn7 X .Mult HM.Zdc:=by
 refine⟨_,Zvu,λF H x y z v w Q s e r1 r2 k=>?_⟩;obtain⟨i,j,rfl,rfl,e'⟩:=Zf6 e;split at e'
 ·rename_i hs
  cases e';refine⟨i,j,r1.int_inv,r2.int_inv,?_,k _ (.int _)⟩;unfold HM.ZY at hs;rw[ZzJ,ZAX,ZAX]at hs;unfold ZqE;omega
 ·cases e'
theorem oMod:Zn7 X .Mod HM.ZtO:=by
 refine⟨_,ZvL,λF H x y z v w Q s e r1 r2 k=>?_⟩;obtain⟨i,j,rfl,rfl,e'⟩:=Zf6 e;split at e'
 ·rename_i hs
  cases e';exact⟨i,j,r1.int_inv,r2.int_inv,hs,k _ (.int _)⟩
 ·cases e'
theorem cLt:Zgm X .Lt HM.gLt:=⟨⟨_,ZwJ,ZnH λ_ _ _=>.bl _⟩,by decide,by decide⟩
theorem cLe:Zgm X .LtE HM.gLe:=⟨⟨_,ZwD,ZnH λ_ _ _=>.bl _⟩,by decide,by decide⟩
theorem cGt:Zgm X .Gt HM.gGt:=⟨⟨_,ZwO,ZnH λ_ _ _=>.bl _⟩,by decide,by decide⟩
theorem Rep.non_iff{K:Zx0}{F:Hp}{d:PyData}{v:V}(h:Rep K F d v):decide (v=.non)=match d with | .none=>true | _=>false:=by cases h<;>first | rfl | exact decide_eq_false (λz=>nomatch z)
theorem Zs9:Zgm X .Is HM.Zny:=by
 refine⟨⟨_,ZvT,λF H x y z v w Q s e r1 r2 k=>?_⟩,by decide,by decide⟩;unfold HM.Zny at e;split at e
 ·refine⟨r2.none_inv,k _ ?_⟩
  rw[r1.non_iff];split at e
  ·cases e; exact .bl _
  ·rename_i hx
   cases e;cases x<;>first | exact .bl _ | exact absurd rfl hx
 ·cases e
theorem Zi2:Zgm X .IsNot HM.ZeG:=by
 refine⟨⟨_,ZuT,λF H x y z v w Q s e r1 r2 k=>?_⟩,by decide,by decide⟩;unfold HM.ZeG at e;split at e
 ·refine⟨r2.none_inv,k _ ?_⟩
  rw[r1.non_iff];split at e
  ·cases e; exact .bl _
  ·rename_i hx
   cases e;cases x<;>first | exact .bl _ | exact absurd rfl hx
 ·cases e
theorem Zg1{h:Heap}:∀{ds:List PyData} {us:List Value},ds.length=us.length->(∀(i:Nat) d u,ds[i]?=some d->us[i]?=some u->∃as,Reads h u d as)->∃as,ReadsAll h us ds as
 | [],[],_,_=>⟨[],.nil⟩
 | [],_::_,hl,_=>by simp at hl
 | _::_,[],hl,_=>by simp at hl
 | d::ds,u::us,hl,k=>by obtain⟨as,h1⟩:=k 0 d u rfl rfl;obtain⟨bs,h2⟩:=Zg1 (ds:=ds) (us:=us) (by simpa using hl) λi d u e1 e2=>k (i+1) d u (by simpa using e1) (by simpa using e2);exact⟨_,.cons h1 h2⟩
theorem ZpY:∀{ds:List PyData},ZAz ds=true->∀{i:Nat} {d:PyData},ds[i]?=some d->d.canLay0=true
 | [],_,i,d,e=>by simp at e
 | x::ds,h,i,d,e=>by
  have h':(x.canLay0&&ZAz ds)=true:=h;rw[Zyk]at h';cases i with
  | zero=>rw[ZzZ]at e; cases e; exact h'.1
  | succ i=>rw[ZyD]at e; exact ZpY h'.2 e
theorem Zof{ds:List PyData}(h:ZAz ds=true){i:Nat}{d:PyData}(e:ds[i]?=some d):d.canLay0=true:=ZpY h e
theorem Rep.reads{pins:List (Addr × Obj)}{s:Shared}{σ:L2.St}{H F:Hp}{d:PyData}{v:V}(I:Inv X pins σ H s)(sub:Zq F H)(r:Rep X.K F d v):d.canLay0=true->∀u,RelV v u->∃as,Reads s.heap u d as:=by
 induction r with
 | non=>intro _ u ru; cases ru; exact⟨[],.none⟩
 | bl b=>intro _ u ru; cases ru; exact⟨[],.bool b⟩
 | int i=>intro _ u ru; obtain⟨t,rfl⟩:=ru; exact⟨[],.int i t⟩
 | str x=>intro _ u ru; obtain⟨t,rfl⟩:=ru; exact⟨[],.str x t⟩
 | dct _ _ _ _ _=>intro z; cases z
 | fn _=>intro z; cases z
 | @tupk a x h=>intro z u ru;cases ru;obtain⟨its,rv,⟨o,ho,hc,n,hd⟩,_⟩:=I.tuple (.inr h);obtain⟨u,rfl,t,rfl⟩:=rv.one;exact⟨_,.tuple ho hc hd (by simpa using ReadsAll.cons (.str x t) .nil)⟩
 | @tup a ds vs h hl _ ih =>
  intro z u ru;cases ru;obtain⟨its,rv,⟨o,ho,hc,n,hd⟩,_⟩:=I.tuple (.of (sub _ _ h));obtain⟨as,hr⟩:=Zg1 (h:=s.heap) (ds:=ds) (us:=its) (hl.trans rv.length) λi d u e1 e2=>by
   have hi:i<vs.length:=by rw[<-hl]; exact(Zyd.mp e1).1
   obtain⟨u',q1,q2⟩:=rv.get (Zye hi);rw[e2]at q1;cases q1;exact ih i d _ e1 (Zye hi) (Zof z e1) u q2
  exact⟨_,.tuple ho hc hd (by simpa using hr)⟩
 | @lst a ds vs h hl _ ih =>
  intro z u ru;cases ru;obtain⟨its,rv,⟨o,n,ho,hc,_,hd⟩,_⟩:=I.list (sub.seq h);obtain⟨as,hr⟩:=Zg1 (h:=s.heap) (ds:=ds) (us:=its) (hl.trans rv.length) λi d u e1 e2=>by
   have hi:i<vs.length:=by rw[<-hl]; exact(Zyd.mp e1).1
   obtain⟨u',q1,q2⟩:=rv.get (Zye hi);rw[e2]at q1;cases q1;exact ih i d _ e1 (Zye hi) (Zof z e1) u q2
  exact⟨_,.list ho hc hd (by simpa using hr)⟩
def Zvl(K:Zx0)(neg:Bool):R2:=λv w H Q=>∃F x y,Zq F H/\Rep K F x v/\Rep K F y w/\HM.Zad x=true/\HM.Zad y=true/\Q (.bl (if neg then !PyData.eqv x y else Zy4 x y)) H
theorem ZdE{d:PyData}(h:HM.Zad d=true):d.canLay0=true/\d.depth<=60:=by unfold HM.Zad at h;simpa using h
theorem Zw0{k:Nat}(hr:Zag k X.A):OpR X (Zy6 .Eq) (Zvl X.K false):=by intro pins s σ H v w u u' Q I r1 r2 ⟨F,x,y,sub,q1,q2,p1,p2,q⟩;obtain⟨a1,a2⟩:=ZdE p1;obtain⟨b1,b2⟩:=ZdE p2;obtain⟨as,h1⟩:=q1.reads I sub a1 u r1;obtain⟨bs,h2⟩:=q2.reads I sub b1 u' r2;refine PySem.SeqAt.eqOverData X.prog X.w X.A X.xe s u u' x y as bs _ h1 h2 a1 b1 ?_ ⟨.bl _,H,I,rfl,q⟩;have:=hr.un;have:min x.depth y.depth<=60:=ZyO (ZCi _ _) a2;omega
theorem ZwF{k:Nat}(hr:Zag k X.A):OpR X (Zy6 .NotEq) (Zvl X.K true):=by intro pins s σ H v w u u' Q I r1 r2 ⟨F,x,y,sub,q1,q2,p1,p2,q⟩;obtain⟨a1,a2⟩:=ZdE p1;obtain⟨b1,b2⟩:=ZdE p2;obtain⟨as,h1⟩:=q1.reads I sub a1 u r1;obtain⟨bs,h2⟩:=q2.reads I sub b1 u' r2;refine PySem.SeqAt.neOverData X.prog X.w X.A X.xe s u u' x y as bs _ h1 h2 a1 b1 ?_ ⟨.bl _,H,I,rfl,q⟩;have:=hr.un;have:min x.depth y.depth<=60:=ZyO (ZCi _ _) a2;omega
theorem cEq{k:Nat}(hr:Zag k X.A):Zgm X .Eq HM.gEq:=by
 refine⟨⟨_,Zw0 hr,λF H x y z v w Q s e r1 r2 k=>?_⟩,by decide,by decide⟩;unfold HM.gEq at e;split at e
 ·rename_i hp
  cases e;rw[Zyk]at hp;exact⟨F,x,y,s,r1,r2,hp.1,hp.2,k _ (.bl _)⟩
 ·cases e
theorem cNe{k:Nat}(hr:Zag k X.A):Zgm X .NotEq HM.gNe:=by
 refine⟨⟨_,ZwF hr,λF H x y z v w Q s e r1 r2 k=>?_⟩,by decide,by decide⟩;unfold HM.gNe at e;split at e
 ·rename_i hp
  cases e;rw[Zyk]at hp;exact⟨F,x,y,s,r1,r2,hp.1,hp.2,k _ (.bl _)⟩
 ·cases e
theorem Zf8{K:Zx0}{F H:Hp}{q:HM.B}{v:V}{fp:List Addr}{ds:List PyData}(sub:Zq F H)(r:Zab K F H q v fp)(h:HM.Zbe q=some ds):∃a vs,v=.ref a/\(SqL K H a vs\/SqT K H a vs)/\Zv K F ds vs:=by
 cases r with
 | pl r =>
  cases r with
  | tup h1 h2 h3=>cases h; exact⟨_,_,rfl,.inr (.of (sub _ _ h1)),h2,h3⟩
  | @tupk a x h1=>cases h; exact⟨_,_,rfl,.inr (.inr h1),.one (.str x)⟩
  | lst h1 h2 h3=>cases h; exact⟨_,_,rfl,.inl (sub.seq h1),h2,h3⟩
  | dct _ _ _ _=>cases h
  | fn _=>cases h
  | non=>cases h
  | bl _=>cases h
  | int _=>cases h
  | str _=>cases h
 | ol h1 r=>cases h; exact⟨_,_,rfl,.inl (.of h1),r⟩
 | ok _ _ _=>cases h
 | hd _ _ _ _=>cases h
 | hf _=>cases h
 | ot _ _ _=>cases h
 | otl _ _ _ _=>cases h
theorem Zuh{K:Zx0}{F:Hp}{ds:List PyData}{vs:List V}{i:Int}{d:PyData}(r:Zv K F ds vs)(h:HM.atD ds i=some d):∃v,atI vs i=some v/\Rep K F d v:=by
 unfold HM.atD at h;split at h
 ·rename_i j hj
  obtain⟨v,h1,h2⟩:=r.get h;refine⟨v,?_,h2⟩;unfold atI;rw[<-r.1,show ixN ds.length i=some j from hj];exact h1
 ·cases h
theorem Z1{fb':HM.BF}(ha:XB X a fb')(hb:XE X b fb)(hs:ZpR b:=by intro _ _; rfl):XE X (.Subscript a b pos) (HM.eIx fb' fb):=by
 intro r d h;unfold HM.eIx at h;split at h
 ·rename_i x hx
  split at h
  ·rename_i ds hds
   split at h
   ·rename_i i hi
    refine PE.imp (ZwR ZvI (ha r x hx) (hb r _ hi) hs) λσ H Q ⟨F0,H0,F,at_,k⟩=>?_;refine⟨F0,H0,F,at_,λv F1 H1 x1 ⟨fp,r1⟩=>⟨F0,H0,F1,at_.grow x1,λw F2 H2 x2 r2=>?_⟩⟩;obtain⟨l,vs,e1,hq,rs⟩:=Zf8 x2.sub (r1.mono x2.ff λ_ _ _ z=>x2.hh _ _ z) hds;obtain⟨u,hu,ru⟩:=Zuh rs h;have fin:=k u F2 H2 (x1.trans x2) ru;rcases hq with hq | hq
    ·exact .inl ⟨l,vs,i,u,e1,r2.int_inv,hq,hu,fin⟩
    ·exact .inr (.inl ⟨l,vs,i,u,e1,r2.int_inv,hq,hu,fin⟩)
   ·cases h
  ·cases h
 ·cases h
def PAB(X:Cx)(e:Expr)(r:HM.Env)(q:HM.B):Prop:=PA X [e] λσ H Q=>Now X.K r σ H λF0 H0 F=>∀v fp F' H',Ext F H F' H'->Zab X.K F' H' q v fp->Q [v] H'
theorem Zfa{f:HM.BF}{r:HM.Env}{q:HM.B}(ha:XB X e f)(h:f r=some q)(hs:Zyc [e] X.env=[(false,eval e X.env)]:=by rfl):PAB X e r q:=by refine PA.imp (Zak (ha r q h) ZbK hs) λσ H Q ⟨F0,H0,F,at_,k⟩=>?_;exact⟨F0,H0,F,at_,λv F1 H1 x1 ⟨fp,r1⟩=>k v fp F1 H1 x1 r1⟩
end
end HP
namespace HP
open PySem PySem.Spec PyProof.Rows L2
variable[FX]
theorem Zv3:ZyX "all" = some (.builtin "all"):=by decide +kernel
theorem Zwj:ZyX "len" = some (.builtin "len"):=by decide +kernel
theorem ZrJ:ZyX "max" = some (.builtin "max"):=by decide +kernel
theorem Zsd:ZyX "min" = some (.builtin "min"):=by decide +kernel
theorem ZlX:ZyX "sorted" = some (.builtin "sorted"):=by decide +kernel
theorem ZmC:ZyX "isinstance" = some (.builtin "isinstance"):=by decide +kernel
theorem ZnG:ZyX "int" = some (.type "int"):=by decide +kernel
theorem Zuw:ZyX "bool" = some (.type "bool"):=by decide +kernel
theorem ZpW:ZyX "list" = some (.type "list"):=by decide +kernel
theorem Zkd:ZyX "tuple" = some (.type "tuple"):=by decide +kernel
theorem ZvQ:ZyX "set" = some (.type "set"):=by decide +kernel
section
variable{X:Cx}{a b c e:Expr}{fa fb fc:HM.EF}{pos p:Pos}{f:HM.BF}
theorem ZbH(hm:X.mg "len" = none)(ha:XB X a f)(hg:Gl X "len":=by rfl)(hs:Zyc [a] X.env=[(false,eval a X.env)]:=by rfl):XE X (.Call (.Name "len" p) [a] [] pos) (HM.Za8 f):=by
 intro r d h;unfold HM.Za8 at h;split at h
 ·rename_i x hx
  obtain⟨n,h1,h2⟩:=Zx2.mp h;subst h2;refine PE.imp (Zdr (ZoP.or Zrt) hg hm Zwj (Zfa ha hx hs) (he:=hs)) λσ H Q ⟨F0,H0,F,at_,k⟩=>?_;refine⟨F0,H0,F,at_,λv fp F1 H1 x1 r1=>?_⟩;have fin:=λ(m:Nat) (e:m=n)=>k (.int m) F1 H1 x1 (by rw[e]; exact .int _);cases r1 with
  | pl q =>
   cases q with
   | tup q1 q2 q3=>cases h1; exact .inl ⟨_,_,rfl,.inr (.of (x1.sub _ _ q1)),fin _ q2.symm⟩
   | tupk q1=>cases h1; exact .inl ⟨_,_,rfl,.inr (.inr q1),fin _ rfl⟩
   | lst q1 q2 q3=>cases h1; exact .inl ⟨_,_,rfl,.inl (x1.sub.seq q1),fin _ q2.symm⟩
   | dct _ _ _ _=>cases h1
   | fn _=>cases h1
   | non=>cases h1
   | bl _=>cases h1
   | int _=>cases h1
   | str _=>cases h1
  | ol q1 q2=>cases h1; exact .inl ⟨_,_,rfl,.inl (.of q1),fin _ q2.1.symm⟩
  | ok q1 q2 q3=>cases h1;refine .inr ⟨_,_,rfl,q1,fin _ ?_⟩;have:=congrArg ZyN q2;rw[Zx1,Zx1]at this;exact this.symm
  | ot _ _ _=>cases h1
  | otl _ _ _ _=>cases h1
  | hd _ _ _ _=>cases h1
  | hf _=>cases h1
 ·cases h
theorem Zal(hm:X.mg "tuple" = none)(ha:XB X a f)(hg:Gl X "tuple":=by rfl)(hs:Zyc [a] X.env=[(false,eval a X.env)]:=by rfl):XE X (.Call (.Name "tuple" p) [a] [] pos) (HM.ZaC f):=by
 intro r d h;unfold HM.ZaC at h;split at h
 ·rename_i x hx
  obtain⟨ds,h1,h2⟩:=Zx2.mp h;subst h2;refine PE.imp (Zdu Zmz hg hm Zkd (Zfa ha hx hs) (he:=hs)) λσ H Q ⟨F0,H0,F,at_,k⟩=>?_;refine⟨F0,H0,F,at_,λv fp F1 H1 x1 r1=>?_⟩;have new:∀(vs:List V),Zv X.K F1 ds vs->∀l,H1 l=none->Q (.ref l) (upd H1 l (.tup vs)):=λvs q l hl=>k _ (upd F1 l (.tup vs)) _ (x1.lay hl) (.tup ZE q.1 (q.mono (Zq.upd' (x1.sub.free hl))).2);cases r1 with
  | pl q =>
   cases q with
   | tup q1 q2 q3=>cases h1; exact⟨_,_,rfl,.inr ⟨.of (x1.sub _ _ q1),k _ F1 H1 x1 (.tup q1 q2 q3)⟩⟩
   | tupk q1=>cases h1; exact⟨_,_,rfl,.inr ⟨.inr q1,k _ F1 H1 x1 (.tupk q1)⟩⟩
   | lst q1 q2 q3=>cases h1; exact⟨_,_,rfl,.inl ⟨x1.sub.seq q1,new _ ⟨q2,q3⟩⟩⟩
   | dct _ _ _ _=>cases h1
   | fn _=>cases h1
   | non=>cases h1
   | bl _=>cases h1
   | int _=>cases h1
   | str _=>cases h1
  | ol q1 q2=>cases h1; exact⟨_,_,rfl,.inl ⟨.of q1,new _ q2⟩⟩
  | ok _ _ _=>cases h1
  | ot _ _ _=>cases h1
  | otl _ _ _ _=>cases h1
  | hd _ _ _ _=>cases h1
  | hf _=>cases h1
 ·cases h
theorem ZeM{K:Zx0}{F H F1 H1:Hp}{ds:List PyData}{vs:List V}{l:Addr}{P:V->Hp->Hp->Prop}(x1:Ext F H F1 H1)(q:Zv K F1 ds vs)(hl:H1 l=none)
  (k:∀v F' H',Ext F H F' H'->(∃fp,Zab K F' H' (.ol ds) v fp/\fp.Nodup/\∀a∈fp,F' a=none/\H a=none)->P v F' H'):P (.ref l) F1 (upd H1 l (.lst vs)):=by
 refine k _ F1 _ (x1.lay' hl) ⟨[l],.ol ZE q,by simp,λa ha=>?_⟩;have:a=l:=by simpa using ha
 subst this;exact⟨x1.sub.free hl,x1.hh.free hl⟩
theorem Zid(hm:X.mg "list" = none)(ha:XB X a f)(hg:Gl X "list":=by rfl)(hs:Zyc [a] X.env=[(false,eval a X.env)]:=by rfl):XF X (.Call (.Name "list" p) [a] [] pos) (HM.Zhl f):=by
 intro r d h;unfold HM.Zhl at h;split at h
 ·rename_i x hx
  obtain⟨ds,h1,h2⟩:=Zx2.mp h;subst h2;refine PE.imp (Zdu ZnD hg hm ZpW (Zfa ha hx hs) (he:=hs)) λσ H Q ⟨F0,H0,F,at_,k⟩=>?_;refine⟨F0,H0,F,at_,λv fp F1 H1 x1 r1=>?_⟩;obtain⟨l,vs,e1,hq,rs⟩:=Zf8 x1.sub r1 h1;subst e1;exact⟨l,vs,rfl,hq,λl' hl'=>ZeM (P:=λv _ H'=>Q v H') x1 rs hl' k⟩
 ·cases h
theorem ZkP{K:Zx0}{F:Hp}:∀{ds:List PyData} {vs:List V} {bs:List Bool},HM.Ze8 ds=some bs->Zv K F ds vs->vs=bs.map V.bl
 | [],vs,bs,h,r=>by cases h;exact r.nil_inv
 | d::ds,vs,bs,h,r=>by
  obtain⟨v,us,rfl,r1,r2⟩:=r.cons_inv;cases d with
  | bool b=>obtain⟨bs',h1,h2⟩:=Zx2.mp h;subst h2;rw[r1.bool_inv,ZkP h1 r2];rfl
  | none=>cases h
  | int _=>cases h
  | str _=>cases h
  | list _=>cases h
  | tuple _=>cases h
  | dict _=>cases h
end
end HP
namespace HP
open PySem PySem.Spec PyProof.Rows L2
variable[FX]
section
variable{X:Cx}{a b c e:Expr}{fa fb fc:HM.EF}{pos p:Pos}{f:HM.BF}
theorem Zpy:∀{bs:List Bool} {us:List Value},Vals (bs.map V.bl) us->LSm.BoolsAre us bs:=by
 intro bs
 induction bs with
 | nil=>intro us r; rw[ZzU]at r; cases r; exact .nil
 | cons b bs ih =>
  intro us r;rw[Zx6]at r;cases r with
  | cons r1 r2=>cases r1;exact .cons b (ih r2)
theorem Zvm{A:Around}{s:Shared}{l:Addr}{vs:List Value}{bs:List Bool}{dflt:Bool}(hh:A.handled=none)(hl:s.heap.IsList l vs.toArray)(hb:LSm.BoolsAre vs bs){E:Value->Shared->Prop}{Q:Value->Shared->Prop}{prog:Program}{w:World}
  (h:∀it fp wr (P:Nat->Value->Prop) St,Walks prog w A it fp wr vs.length P St->St 0 (s.heap.push { cls:=.type "list_iterator",data:=.fields #[.ref l,rawInt 0] })->TruthOf prog w A P (λi=>(bs[i]?).getD dflt)->wr=[s.heap.objs.size]->it=s.heap.objs.size->Q (.ref it) { s with heap:=s.heap.push { cls:=.type "list_iterator",data:=.fields #[.ref l,rawInt 0] } }) :
  wpAny (model prog w) A (pyIter (.ref l)) Q E s:=by
 have hlt:l<s.heap.objs.size:=let ⟨_,e,_⟩:=hl; Zyh e
 refine ZBT hl ?_;have W:=Walks.list (prog:=prog) (w:=w) hh s.heap.objs.size l (Zyp hlt) vs.toArray;rw[Zyj]at W;refine h _ _ _ _ _ W ⟨⟨_,Zyi _ rfl,rfl,rfl⟩,hl.push _⟩ (λi v s' Q' E' hP hQ=>?_) rfl rfl;obtain⟨b,e,rfl⟩:=hb.get i v (by simpa using hP);simp only[e,Option.getD_some]at hQ;exact ZzX hQ
theorem Zr6(hc:X.calm=true):ZaZ X (.builtin "all") (λxs H Q=>∃(p:Addr) (bs:List Bool),xs=[.ref p]/\SqL X.K H p (bs.map V.bl)/\Q (.bl (bs.all id)) H):=by intro pins s σ H xs us Q I r h;obtain⟨p,bs,rfl,hq,q⟩:=h;obtain⟨u,rfl,rx⟩:=vals1 r;cases rx;obtain⟨its,rv,pl,hz⟩:=I.list hq;have hb:=Zpy rv;refine call_all_walk (Zvm (dflt:=true) (A:=X.A.in1) (I.ok.hd hc) pl.isList hb λit fp wr P St W st tr e1 e2=>?_);subst e1 e2;refine⟨_,_,_,_,P,St,_,rfl,W,st,tr,λh' tk hk=>?_⟩;rw[hb.length,LSm.range_all bs];exact⟨.bl _,H,I.kept (LSm.kept_iter hk),rfl,q⟩
theorem Zgh{K:Zx0}{F H:Hp}{q:HM.B}{v:V}{fp:List Addr}{ds:List PyData}(sub:Zq F H)(r:Zab K F H q v fp)(h:HM.Zlk q=some ds):∃a vs,v=.ref a/\SqL K H a vs/\Zv K F ds vs:=by
 cases r with
 | pl r =>
  cases r with
  | lst h1 h2 h3=>cases h; exact⟨_,_,rfl,sub.seq h1,h2,h3⟩
  | dct _ _ _ _=>cases h
  | fn _=>cases h
  | tupk _=>cases h
  | tup _ _ _=>cases h
  | non=>cases h
  | bl _=>cases h
  | int _=>cases h
  | str _=>cases h
 | ol h1 r=>cases h; exact⟨_,_,rfl,.of h1,r⟩
 | ok _ _ _=>cases h
 | hd _ _ _ _=>cases h
 | hf _=>cases h
 | ot _ _ _=>cases h
 | otl _ _ _ _=>cases h
theorem Zg4(hm:X.mg "all" = none)(hc:X.calm=true)(ha:XB X a f)(hg:Gl X "all":=by rfl)(hs:Zyc [a] X.env=[(false,eval a X.env)]:=by rfl):XE X (.Call (.Name "all" p) [a] [] pos) (HM.ZiK f):=by
 intro r d h;unfold HM.ZiK at h;split at h
 ·rename_i x hx
  split at h
  ·rename_i ds hds
   obtain⟨bs,h1,h2⟩:=Zx2.mp h;subst h2;refine PE.imp (Zdr (Zr6 hc) hg hm Zv3 (Zfa ha hx hs) (he:=hs)) λσ H Q ⟨F0,H0,F,at_,k⟩=>?_;refine⟨F0,H0,F,at_,λv fp F1 H1 x1 r1=>?_⟩;obtain⟨l,vs,e1,hq,rs⟩:=Zgh x1.sub r1 hds;rw[ZkP h1 rs]at hq;exact⟨l,bs,by rw[e1],hq,k _ F1 H1 x1 (.bl _)⟩
  ·cases h
 ·cases h
theorem ZkB{tyn:String}{t:HM.Ty}(hr:∀(s:Shared) (d:PyData) (v:V) (u:Value) (Q:Value->Shared->Prop),RelV v u->(∃(K:Zx0) (F:Hp),Rep K F d v)->(∀es,d≠.dict es)->(∀x,v=.ref x->∃o,s.heap.get? x=some o/\((∃ds,d=.tuple ds/\o.cls=.type "tuple")\/(∃ds,d=.list ds/\o.cls=.type "list")\/∃ds,d=.dict ds/\o.cls=.type "dict")) ->
   (∀tk,Q (.bool (HM.Zh0 t d)) { s with toks:=tk })->wpAny (model X.prog X.w) X.A (call (.builtin "isinstance") [u,.type tyn]) Q X.xe s) :
  ZaZ X (.builtin "isinstance") (λxs H Q=>∃F d v,xs=[v,.ty tyn]/\Zq F H/\Rep X.K F d v/\(∀es,d≠.dict es)/\Q (.bl (HM.Zh0 t d)) H):=by
 intro pins s σ H xs us Q I r h;obtain⟨F,d,v,rfl,sub,rp,nd,q⟩:=h;obtain⟨u,u',rfl,ru,ru'⟩:=vals2 r;cases(show u'=ZAT tyn from ru');refine hr s d v u _ ru ⟨_,_,rp⟩ nd (λx e=>?_) λtk=>⟨.bl _,H,I.tok tk,rfl,q⟩;subst e;cases rp with
 | tup h1 h2 h3=>obtain⟨its,rv,⟨o,ho,hc,n,hd⟩,_⟩:=I.tuple (.of (sub _ _ h1));exact⟨o,ho,.inl ⟨_,rfl,hc⟩⟩
 | tupk h1=>obtain⟨its,rv,⟨o,ho,hc,n,hd⟩,_⟩:=I.tuple (.inr h1);exact⟨o,ho,.inl ⟨_,rfl,hc⟩⟩
 | lst h1 h2 h3=>obtain⟨its,rv,⟨o,n,ho,hc,_,hd⟩,_⟩:=I.list (sub.seq h1);exact⟨o,ho,.inr (.inl ⟨_,rfl,hc⟩)⟩
 | @dct a es kvs vvs h1 _ _ _=>obtain⟨_,_,xs,_,o,es,ep,q1,q2,_⟩:=(show Z8 X.prog X.w H s.heap x (.dT vvs) from ZkL I.hok (Zjd h1 sub));exact⟨o,q1,.inr (.inr ⟨_,rfl,q2.1⟩)⟩
 | fn _=>exact absurd rfl (nd _)
theorem Ztr:ZaZ X (.builtin "isinstance") (λxs H Q=>∃F d v,xs=[v,.ty "bool"]/\Zq F H/\Rep X.K F d v/\(∀es,d≠.dict es)/\Q (.bl (HM.Zh0 .bool d)) H):=by
 refine ZkB λs d v u Q ru ⟨K,F,rp⟩ nd ho k=>?_;cases rp with
 | non=>cases ru; exact IsiPair.NoneType_bool (k _)
 | bl _=>cases ru; exact IsiPair.bool_bool (k _)
 | int _=>obtain⟨t,rfl⟩:=ru; exact IsiPair.int_bool (k _)
 | str _=>obtain⟨t,rfl⟩:=ru; exact IsiPair.str_bool (k _)
 | tup _ _ _ | tupk _ =>
  cases ru;obtain⟨o,h1,⟨_,_,h2⟩ | ⟨_,e,_⟩ | ⟨_,e,_⟩⟩:=ho _ rfl
  ·exact IsiPair.tuple_bool h1 h2 (k _)
  ·cases e
  ·cases e
 | lst _ _ _ =>
  cases ru;obtain⟨o,h1,⟨_,e,_⟩ | ⟨_,_,h2⟩ | ⟨_,e,_⟩⟩:=ho _ rfl
  ·cases e
  ·exact IsiPair.list_bool h1 h2 (k _)
  ·cases e
 | dct _ _ _ _ =>
  cases ru;obtain⟨o,h1,⟨_,e,_⟩ | ⟨_,e,_⟩ | ⟨_,_,h2⟩⟩:=ho _ rfl
  ·cases e
  ·cases e
  ·exact IsiPair.dict_bool h1 h2 (k _)
 | fn _=>exact absurd rfl (nd _)
theorem ZuB:ZaZ X (.builtin "isinstance") (λxs H Q=>∃F d v,xs=[v,.ty "int"]/\Zq F H/\Rep X.K F d v/\(∀es,d≠.dict es)/\Q (.bl (HM.Zh0 .int d)) H):=by
 refine ZkB λs d v u Q ru ⟨K,F,rp⟩ nd ho k=>?_;cases rp with
 | non=>cases ru; exact IsiPair.NoneType_int (k _)
 | bl _=>cases ru; exact IsiPair.bool_int (k _)
 | int _=>obtain⟨t,rfl⟩:=ru; exact IsiPair.int_int (k _)
 | str _=>obtain⟨t,rfl⟩:=ru; exact IsiPair.str_int (k _)
 | tup _ _ _ | tupk _ =>
  cases ru;obtain⟨o,h1,⟨_,_,h2⟩ | ⟨_,e,_⟩ | ⟨_,e,_⟩⟩:=ho _ rfl
  ·exact IsiPair.tuple_int h1 h2 (k _)
  ·cases e
  ·cases e
 | lst _ _ _ =>
  cases ru;obtain⟨o,h1,⟨_,e,_⟩ | ⟨_,_,h2⟩ | ⟨_,e,_⟩⟩:=ho _ rfl
  ·cases e
  ·exact IsiPair.list_int h1 h2 (k _)
  ·cases e
 | dct _ _ _ _ =>
  cases ru;obtain⟨o,h1,⟨_,e,_⟩ | ⟨_,e,_⟩ | ⟨_,_,h2⟩⟩:=ho _ rfl
  ·cases e
  ·cases e
  ·exact IsiPair.dict_int h1 h2 (k _)
 | fn _=>exact absurd rfl (nd _)
theorem Zsb:ZaZ X (.builtin "isinstance") (λxs H Q=>∃F d v,xs=[v,.ty "tuple"]/\Zq F H/\Rep X.K F d v/\(∀es,d≠.dict es)/\Q (.bl (HM.Zh0 .tuple d)) H):=by
 refine ZkB λs d v u Q ru ⟨K,F,rp⟩ nd ho k=>?_;cases rp with
 | non=>cases ru; exact IsiPair.NoneType_tuple (k _)
 | bl _=>cases ru; exact IsiPair.bool_tuple (k _)
 | int _=>obtain⟨t,rfl⟩:=ru; exact IsiPair.int_tuple (k _)
 | str _=>obtain⟨t,rfl⟩:=ru; exact IsiPair.str_tuple (k _)
 | tup _ _ _ | tupk _ =>
  cases ru;obtain⟨o,h1,⟨_,_,h2⟩ | ⟨_,e,_⟩ | ⟨_,e,_⟩⟩:=ho _ rfl
  ·exact IsiPair.tuple_tuple h1 h2 (k _)
  ·cases e
  ·cases e
 | lst _ _ _ =>
  cases ru;obtain⟨o,h1,⟨_,e,_⟩ | ⟨_,_,h2⟩ | ⟨_,e,_⟩⟩:=ho _ rfl
  ·cases e
  ·exact IsiPair.list_tuple h1 h2 (k _)
  ·cases e
 | dct _ _ _ _ =>
  cases ru;obtain⟨o,h1,⟨_,e,_⟩ | ⟨_,e,_⟩ | ⟨_,_,h2⟩⟩:=ho _ rfl
  ·cases e
  ·cases e
  ·exact IsiPair.dict_tuple h1 h2 (k _)
 | fn _=>exact absurd rfl (nd _)
theorem ZtK:ZaZ X (.builtin "isinstance") (λxs H Q=>∃F d v,xs=[v,.ty "list"]/\Zq F H/\Rep X.K F d v/\(∀es,d≠.dict es)/\Q (.bl (HM.Zh0 .list d)) H):=by
 refine ZkB λs d v u Q ru ⟨K,F,rp⟩ nd ho k=>?_;cases rp with
 | non=>cases ru; exact IsiPair.NoneType_list (k _)
 | bl _=>cases ru; exact IsiPair.bool_list (k _)
 | int _=>obtain⟨t,rfl⟩:=ru; exact IsiPair.int_list (k _)
 | str _=>obtain⟨t,rfl⟩:=ru; exact IsiPair.str_list (k _)
 | tup _ _ _ | tupk _ =>
  cases ru;obtain⟨o,h1,⟨_,_,h2⟩ | ⟨_,e,_⟩ | ⟨_,e,_⟩⟩:=ho _ rfl
  ·exact IsiPair.tuple_list h1 h2 (k _)
  ·cases e
  ·cases e
 | lst _ _ _ =>
  cases ru;obtain⟨o,h1,⟨_,e,_⟩ | ⟨_,_,h2⟩ | ⟨_,e,_⟩⟩:=ho _ rfl
  ·cases e
  ·exact IsiPair.list_list h1 h2 (k _)
  ·cases e
 | dct _ _ _ _ =>
  cases ru;obtain⟨o,h1,⟨_,e,_⟩ | ⟨_,e,_⟩ | ⟨_,_,h2⟩⟩:=ho _ rfl
  ·cases e
  ·cases e
  ·exact IsiPair.dict_list h1 h2 (k _)
 | fn _=>exact absurd rfl (nd _)
theorem Zkj{tyn:Str}{tys:String}{t:HM.Ty}{p2:Pos}(hR:ZaZ X (.builtin "isinstance") (λxs H Q=>∃F d v,xs=[v,.ty tys]/\Zq F H/\Rep X.K F d v/\(∀es,d≠.dict es)/\Q (.bl (HM.Zh0 t d)) H))(bt:ZyX tyn=some (.type tys))
  (hm:X.mg "isinstance" = none) (hm2:X.mg tyn=none) (ha:XE X a fa) (hg:Gl X "isinstance") (hg2:Gl X tyn) (hn:tyn ≠ "__name__") (hd:(tyn==("__debug__":Str))=false)
  (hs1:Zyc [a,.Name tyn p2] X.env=(false,eval a X.env)::Zyc [.Name tyn p2] X.env) (hs2:Zyc [.Name tyn p2] X.env=[(false,eval (.Name tyn p2) X.env)]):XE X (.Call (.Name "isinstance" p) [a,.Name tyn p2] [] pos) (HM.Zft fa t):=by
 intro r d h;have key:∃x,fa r=some x/\(∀es,x≠.dict es)/\d=.bool (HM.Zh0 t x):=by
  unfold HM.Zft at h;split at h
  ·cases h
  ·rename_i x hn hx
   cases h;exact⟨x,hx,λes z=>hn es (by rw[z]),rfl⟩
  ·cases h
 obtain⟨x,h1,nd,h2⟩:=key;subst h2;refine PE.imp (Zdr hR hg hm ZmC (Zak (ha r x h1) (Zak (Zu0 (v:=.ty tys) hg2 hm2 bt rfl hn hd) ZbK (by rw[hs2]; rfl)) hs1) (he:=hs1) (hpl:=by rw[hs2]; rfl)) λσ H Q ⟨F0,H0,F,at_,k⟩=>?_;exact⟨F0,H0,F,at_,λv F1 H1 x1 r1=>⟨F1,x,v,rfl,x1.sub,r1,nd,k _ F1 H1 x1 (.bl _)⟩⟩
theorem ZoW{p2:Pos}(hm:X.mg "isinstance" = none)(hm2:X.mg "bool" = none)(ha:XE X a fa)(hg:Gl X "isinstance":=by rfl)(hg2:Gl X "bool":=by rfl)(hs1:Zyc [a,.Name "bool" p2] X.env=(false,eval a X.env)::Zyc [.Name "bool" p2] X.env:=by rfl) :
  XE X (.Call (.Name "isinstance" p) [a,.Name "bool" p2] [] pos) (HM.Zft fa .bool):=Zkj Ztr Zuw hm hm2 ha hg hg2 (by decide) (by decide) hs1 rfl
theorem Zqc{p2:Pos}(hm:X.mg "isinstance" = none)(hm2:X.mg "int" = none)(ha:XE X a fa)(hg:Gl X "isinstance":=by rfl)(hg2:Gl X "int":=by rfl)(hs1:Zyc [a,.Name "int" p2] X.env=(false,eval a X.env)::Zyc [.Name "int" p2] X.env:=by rfl) :
  XE X (.Call (.Name "isinstance" p) [a,.Name "int" p2] [] pos) (HM.Zft fa .int):=Zkj ZuB ZnG hm hm2 ha hg hg2 (by decide) (by decide) hs1 rfl
theorem ZfK{p2:Pos}(hm:X.mg "isinstance" = none)(hm2:X.mg "tuple" = none)(ha:XE X a fa)(hg:Gl X "isinstance":=by rfl)(hg2:Gl X "tuple":=by rfl)(hs1:Zyc [a,.Name "tuple" p2] X.env=(false,eval a X.env)::Zyc [.Name "tuple" p2] X.env:=by rfl) :
  XE X (.Call (.Name "isinstance" p) [a,.Name "tuple" p2] [] pos) (HM.Zft fa .tuple):=Zkj Zsb Zkd hm hm2 ha hg hg2 (by decide) (by decide) hs1 rfl
theorem ZoX{p2:Pos}(hm:X.mg "isinstance" = none)(hm2:X.mg "list" = none)(ha:XE X a fa)(hg:Gl X "isinstance":=by rfl)(hg2:Gl X "list":=by rfl)(hs1:Zyc [a,.Name "list" p2] X.env=(false,eval a X.env)::Zyc [.Name "list" p2] X.env:=by rfl) :
  XE X (.Call (.Name "isinstance" p) [a,.Name "list" p2] [] pos) (HM.Zft fa .list):=Zkj ZtK ZpW hm hm2 ha hg hg2 (by decide) (by decide) hs1 rfl
theorem Zu9(hm:X.mg "max" = none)(hc:X.calm=true)(ha:XE X a fa)(hb:XE X b fb)(hg:Gl X "max":=by rfl)(hs1:Zyc [a,b] X.env=(false,eval a X.env)::Zyc [b] X.env:=by rfl)(hs2:Zyc [b] X.env=[(false,eval b X.env)]:=by rfl) :
  XE X (.Call (.Name "max" p) [a,b] [] pos) (HM.op2 HM.Zwk fa fb):=by
 intro r d h;obtain⟨x,y,h1,h2,h3⟩:=Zhc h;obtain⟨i,j,rfl,rfl,e⟩:=Zf6 h3;cases e;refine PE.imp (Zdr (Zsa hc) hg hm ZrJ (Zak (ha r _ h1) (Zak (hb r _ h2) ZbK hs2) hs1) (he:=hs1) (hpl:=by rw[hs2]; rfl)) λσ H Q ⟨F0,H0,F,at_,k⟩=>?_;exact⟨F0,H0,F,at_,λv F1 H1 x1 r1=>⟨F0,H0,F1,at_.grow x1,λw F2 H2 x2 r2=>⟨i,j,by rw[r1.int_inv,r2.int_inv],k _ F2 H2 (x1.trans x2) (.int _)⟩⟩⟩
theorem Zva(hm:X.mg "min" = none)(hc:X.calm=true)(ha:XE X a fa)(hb:XE X b fb)(hg:Gl X "min":=by rfl)(hs1:Zyc [a,b] X.env=(false,eval a X.env)::Zyc [b] X.env:=by rfl)(hs2:Zyc [b] X.env=[(false,eval b X.env)]:=by rfl) :
  XE X (.Call (.Name "min" p) [a,b] [] pos) (HM.op2 HM.Zwe fa fb):=by
 intro r d h;obtain⟨x,y,h1,h2,h3⟩:=Zhc h;obtain⟨i,j,rfl,rfl,e⟩:=Zf6 h3;cases e;refine PE.imp (Zdr (Zr8 hc) hg hm Zsd (Zak (ha r _ h1) (Zak (hb r _ h2) ZbK hs2) hs1) (he:=hs1) (hpl:=by rw[hs2]; rfl)) λσ H Q ⟨F0,H0,F,at_,k⟩=>?_;exact⟨F0,H0,F,at_,λv F1 H1 x1 r1=>⟨F0,H0,F1,at_.grow x1,λw F2 H2 x2 r2=>⟨i,j,by rw[r1.int_inv,r2.int_inv],k _ F2 H2 (x1.trans x2) (.int _)⟩⟩⟩
theorem Zsz(hm:X.mg "int" = none)(ha:XE X a fa)(hg:Gl X "int":=by rfl)(hs:Zyc [a] X.env=[(false,eval a X.env)]:=by rfl):XE X (.Call (.Name "int" p) [a] [] pos) (HM.Zn1 fa):=by
 intro r d h;unfold HM.Zn1 at h;split at h
 ·rename_i i hi
  cases h;refine PE.imp (Zdu ZlR hg hm ZnG (Zak (ha r _ hi) ZbK hs) (he:=hs)) λσ H Q ⟨F0,H0,F,at_,k⟩=>?_;exact⟨F0,H0,F,at_,λv F1 H1 x1 r1=>.inl ⟨i,by rw[r1.int_inv],k _ F1 H1 x1 (.int _)⟩⟩
 ·rename_i q hq
  cases h;refine PE.imp (Zdu ZlR hg hm ZnG (Zak (ha r _ hq) ZbK hs) (he:=hs)) λσ H Q ⟨F0,H0,F,at_,k⟩=>?_;exact⟨F0,H0,F,at_,λv F1 H1 x1 r1=>.inr ⟨q,by rw[r1.bool_inv],k _ F1 H1 x1 (.int _)⟩⟩
 ·cases h
end
end HP
namespace HP
open PySem PySem.Spec PyProof.Rows L2
variable[FX]
section
variable{X:Cx}{a b c e:Expr}{fa fb fc:HM.EF}{pos p:Pos}{f:HM.BF}{tg:Expr}
theorem PI.imp{X:Cx}{tg e:Expr}{t u:TI}(h:PI X tg e t)(hi:∀σ H R,u σ H R->t σ H R):PI X tg e u:=λpins s σ H R I q=>h pins s σ H R I (hi σ H R q)
theorem Zvq{l:Expr}{tl:TE}(hl:PE X l tl):PI X tg l (λσ H R=>tl σ H λx H1=>∃a,x=.ref a/\((∃xs,SqL X.K H1 a xs)/\R (Itl X.K a) H1\/(∃xs,SqT X.K H1 a xs)/\R (Itt X.K a) H1)):=by
 intro pins s σ H R I h;refine thn (hl pins s σ H _ I h) λv s1 ⟨x,H1,I1,r1,q1⟩=>?_;obtain⟨a,e,q1⟩:=q1;subst e;cases r1;rcases q1 with⟨⟨xs,hq⟩,q⟩ | ⟨⟨xs,hq⟩,q⟩
 ·obtain⟨its,rv,p,hz⟩:=I1.list hq
  refine ZBT p.isList ⟨s1.heap.objs.size,[s1.heap.objs.size],_,_,H1,rfl,I1.kept (t':=s1.toks) λb o e=>Zx7 _ e,Zrm a _,⟨_,Zyi _ rfl,rfl,rfl⟩,λb hb=>?_,q⟩;obtain rfl:b=s1.heap.objs.size:=by simpa using hb
  exact I1.fpOk (Zyb _) (I1.hok.fresh (Zyb _))
 ·obtain⟨its,rv,p,hz⟩:=I1.tuple hq
  refine wpAny_pyIter_tuple (show s1.heap.IsTuple a its.toArray from p) ⟨s1.heap.objs.size,[s1.heap.objs.size],_,_,H1,rfl,I1.kept (t':=s1.toks) λb o e=>Zx7 _ e,Zq1 a _,⟨_,Zyi _ rfl,rfl,rfl⟩,λb hb=>?_,q⟩;obtain rfl:b=s1.heap.objs.size:=by simpa using hb
  exact I1.fpOk (Zyb _) (I1.hok.fresh (Zyb _))
theorem ZtM{K:Zx0}{F:Hp}{a:Addr}{ds:List PyData}{vs:List V}(h:SqL K F a vs)(r:Zv K F ds vs):ItD K (Itl K a) ds F:=by intro F' H s1 s2;have hq:SqL K H a vs:=(s1.trans s2).seq h;refine⟨λi d hd=>?_,⟨vs,hq,by rw[r.1]; exact Zyb _⟩⟩;obtain⟨v,h1,h2⟩:=r.get hd;refine⟨⟨vs,v,hq,h1⟩,λx H' hy=>?_⟩;obtain⟨e,y⟩:=hy;refine⟨e,?_⟩;have:=y vs hq;rw[h1]at this;cases this;exact h2.mono (s1.trans (ZdD s2))
theorem ZsM{K:Zx0}{F:Hp}{a:Addr}{ds:List PyData}{vs:List V}(h:SqT K F a vs)(r:Zv K F ds vs):ItD K (Itt K a) ds F:=by intro F' H s1 s2;have hq:SqT K H a vs:=ZtY h (s1.trans s2);refine⟨λi d hd=>?_,⟨vs,hq,by rw[r.1]; exact Zyb _⟩⟩;obtain⟨v,h1,h2⟩:=r.get hd;refine⟨⟨vs,v,hq,h1⟩,λx H' hy=>?_⟩;obtain⟨e,y⟩:=hy;refine⟨e,?_⟩;have:=y vs hq;rw[h1]at this;cases this;exact h2.mono (s1.trans (ZdD s2))
theorem ZuV{K:Zx0}{F:Hp}{a:Addr}{ds:List PyData}{vs:List V}(h:F a=some (.tup vs))(r:Zv K F ds vs):ItD K (Itt K a) ds F:=by intro F' H s1 s2;have hq:SqT K H a vs:=.of (s2 _ _ (s1 _ _ h));refine⟨λi d hd=>?_,⟨vs,hq,by rw[r.1]; exact Zyb _⟩⟩;obtain⟨v,h1,h2⟩:=r.get hd;refine⟨⟨vs,v,hq,h1⟩,λx H' hy=>?_⟩;obtain⟨e,y⟩:=hy;refine⟨e,?_⟩;have:=y vs hq;rw[h1]at this;cases this;exact h2.mono (s1.trans (ZdD s2))
theorem ZW(h:XE X e fa):XI X tg e (HM.Zah (HM.bOf fa)):=by
 intro r ds hd;unfold HM.Zah HM.bOf at hd;cases hx:fa r with
 | none=>rw[hx]at hd; cases hd
 | some d =>
  rw[hx]at hd;have hd:HM.Zbe (.pl d)=some ds:=hd;refine PI.imp (Zvq (h r d hx)) λσ H R ⟨F0,H0,F,at_,k⟩=>?_;refine⟨F0,H0,F,at_,λv F1 H1 x1 r1=>?_⟩;cases r1 with
  | @tupk a x h1=>cases hd;exact⟨a,rfl,.inr ⟨⟨_,.inr h1⟩,k _ F1 H1 x1 (ZsM (.inr h1) (.one (.str x)))⟩⟩
  | @tup a ds' vs h1 h2 h3=>cases hd;exact⟨a,rfl,.inr ⟨⟨vs,.of (x1.sub _ _ h1)⟩,k _ F1 H1 x1 (ZuV h1 ⟨h2,h3⟩)⟩⟩
  | @lst a ds' vs h1 h2 h3=>cases hd;exact⟨a,rfl,.inl ⟨⟨vs,x1.sub.seq h1⟩,k _ F1 H1 x1 (ZtM h1 ⟨h2,h3⟩)⟩⟩
  | dct _ _ _ _=>cases hd
  | fn _=>cases hd
  | non=>cases hd
  | bl _=>cases hd
  | int _=>cases hd
  | str _=>cases hd
theorem ZpQ{K:Zx0}{F:Hp}(lo:Int)(n:Nat):ItD K (Itr lo n) (HM.ZbS lo n) F:=by
 intro F' H s1 s2;have hl:(HM.ZbS lo n).length=n:=by unfold HM.ZbS; rw[Zx1,ZAd]
 refine⟨λi d hd=>?_,?_⟩
 ·have hi:i<n:=by rw[<-hl]; exact(Zyd.mp hd).1
  unfold HM.ZbS at hd;rw[Zyr,List.getElem?_range hi]at hd;cases hd;exact⟨hi,λx H' ⟨e1,e2⟩=>⟨e1,by rw[e2]; exact .int _⟩⟩
 ·rw[hl]; exact Zyb _
theorem Zjb{j:Int}(h:HM.okR j=true):-1000000<j/\j<1000000:=by unfold HM.okR at h;rw[ZAX]at h;omega
theorem ZbW(hm:X.mg "range" = none)(ha:XE X a fa)(hg:Gl X "range":=by rfl)(hs:Zyc [a] X.env=[(false,eval a X.env)]:=by rfl):XI X tg (.Call (.Name "range" p) [a] [] pos) (HM.Zcs fa):=by
 intro r ds hd;unfold HM.Zcs at hd;split at hd
 ·rename_i j hj
  split at hd
  ·rename_i hok
   cases hd;obtain⟨k1,k2⟩:=Zjb hok;refine PI.imp (Zso hg hm (Zak (ha r _ hj) ZbK hs) hs) λσ H R ⟨F0,H0,F,at_,k⟩=>?_;exact⟨F0,H0,F,at_,λv F1 H1 x1 r1=>⟨j,by rw[r1.int_inv],by omega,by omega,k _ F1 H1 x1 (ZpQ 0 j.toNat)⟩⟩
  ·cases hd
 ·cases hd
theorem Zq9(hm:X.mg "range" = none)(ha:XE X a fa)(hb:XE X b fb)(hg:Gl X "range":=by rfl)(hs:Zyc [a,b] X.env=[(false,eval a X.env),(false,eval b X.env)]:=by rfl)(hs2:Zyc [b] X.env=[(false,eval b X.env)]:=by rfl) :
  XI X tg (.Call (.Name "range" p) [a,b] [] pos) (HM.Zjh fa fb):=by
 intro r ds hd;unfold HM.Zjh at hd;split at hd
 ·rename_i i hi
  split at hd
  ·rename_i j hj
   split at hd
   ·rename_i hok
    cases hd;rw[Zyk]at hok;obtain⟨k1,k2⟩:=Zjb hok.1;obtain⟨k3,k4⟩:=Zjb hok.2;refine PI.imp (ZrH hg hm (Zak (ha r _ hi) (Zak (hb r _ hj) ZbK hs2) (by rw[hs,hs2])) hs hs2) λσ H R ⟨F0,H0,F,at_,k⟩=>?_;exact⟨F0,H0,F,at_,λv F1 H1 x1 r1=>⟨F0,H0,F1,at_.grow x1,λw F2 H2 x2 r2=>⟨i,j,by rw[r1.int_inv,r2.int_inv],⟨by omega,by omega,by omega,by omega⟩,k _ F2 H2 (x1.trans x2) (ZpQ i (j-i).toNat)⟩⟩⟩
   ·cases hd
  ·cases hd
 ·cases hd
theorem Zkk{ga gb:HM.BF}(ha:XB X a ga)(hb:XB X b gb):XF X (.BinOp a .Add b pos) (HM.Zlb ga gb):=by
 intro r d h;unfold HM.Zlb at h;split at h
 ·rename_i xs hx
  split at h
  ·rename_i ys hy
   split at h
   ·rename_i hz
    cases h;refine PE.imp (Zq8 Zvo (ha r _ hx) (hb r _ hy)) λσ H Q ⟨F0,H0,F,at_,k⟩=>?_;refine⟨F0,H0,F,at_,λv F1 H1 x1 ⟨fp,r1⟩=>⟨F0,H0,F1,at_.grow x1,λw F2 H2 x2 ⟨fq,r2⟩=>?_⟩⟩;cases r1 with
    | ol h1 q1 =>
     cases r2 with
     | ol h2 q2 =>
      have q1':=q1.mono x2.ff;refine⟨_,_,_,_,rfl,rfl,x2.hh _ _ h1,h2,?_,λl hl=>ZeM (P:=λv _ H'=>Q v H') (x1.trans x2) (q1'.append q2) hl k⟩;have e1:=q1.1;have e2:=q2.1;have e3:(1000000:Nat)<=sizeLine:=by decide
      unfold HM.big at hz;omega
   ·cases h
  ·cases h
 ·cases h
theorem Zvb{ga:HM.BF}(ha:XB X a ga)(hb:XE X b fb):XF X (.BinOp a .Mult b pos) (HM.Ztb ga fb):=by
 intro r d h;unfold HM.Ztb at h;split at h
 ·rename_i xs hx
  split at h
  ·rename_i i hy
   split at h
   ·rename_i hz
    cases h;rw[Zyk,decide_eq_true_eq,decide_eq_true_eq]at hz;refine PE.imp (Zq8 Zvv (ha r _ hx) (hb r _ hy)) λσ H Q ⟨F0,H0,F,at_,k⟩=>?_;refine⟨F0,H0,F,at_,λv F1 H1 x1 ⟨fp,r1⟩=>⟨F0,H0,F1,at_.grow x1,λw F2 H2 x2 r2=>?_⟩⟩;cases r1 with
    | ol h1 q1 =>
     have q1':=q1.mono x2.ff;refine⟨_,i,_,rfl,r2.int_inv,x2.hh _ _ h1,by omega,by omega,?_,λl hl=>ZeM (P:=λv _ H'=>Q v H') (x1.trans x2) (q1'.rep i.toNat) hl k⟩;have e1:=q1.1;have e3:(1000*1000:Nat)<=sizeLine:=by decide
     refine ZyO (Nat.mul_le_mul (?_:_<=1000) (?_:_<=1000)) e3<;>omega
   ·cases h
  ·cases h
 ·cases h
def XO(X:Cx)(e:Option Expr)(f:Option HM.EF):Prop:=∀r o,HM.Zqv f r=some o->PO X e λσ H Q=>Now X.K r σ H λF0 H0 F=>∀F' H',Ext F H F' H'->Q o H'
theorem Zur:XO X none none:=by intro r o h;cases h;intro pins s σ H Q I q;obtain⟨F0,H0,F,at_,k⟩:=q;exact Zuo pins s σ H Q I (k F H at_.refl)
theorem ZuZ(h:XE X e fa):XO X (some e) (some fa):=by
 intro r o ho;unfold HM.Zqv at ho;split at ho
 ·rename_i z; cases z
 ·rename_i g z
  cases z;split at ho
  ·rename_i i hi
   cases ho;intro pins s σ H Q I q;obtain⟨F0,H0,F,at_,k⟩:=q;exact ZuP (h r _ hi) pins s σ H Q I ⟨F0,H0,F,at_,λv F1 H1 x1 r1=>⟨i,r1.int_inv,k F1 H1 x1⟩⟩
  ·cases ho
theorem Zvc{ga:HM.BF}{lo hi:Option Expr}{fl fh:Option HM.EF}{p2:Pos}(ha:XB X a ga)(hl:XO X lo fl)(hh:XO X hi fh):XF X (.Subscript a (.Slice lo hi none p2) pos) (HM.ZtC ga fl fh):=by
 intro r d h;unfold HM.ZtC at h;split at h
 ·rename_i x hx
  split at h
  ·rename_i xs hxs
   split at h
   ·rename_i l hl'
    split at h
    ·rename_i u hu'
     cases h;refine PE.imp (Ztf ZuI (ha r _ hx) (hl r _ hl') (hh r _ hu')) λσ H Q ⟨F0,H0,F,at_,k⟩=>?_;refine⟨F0,H0,F,at_,λv F1 H1 x1 ⟨fp,r1⟩=>⟨F0,H0,F1,at_.grow x1,λF2 H2 x2=>⟨F0,H0,F2,(at_.grow x1).grow x2,λF3 H3 x3=>?_⟩⟩⟩;have x23:=x2.trans x3;obtain⟨l',vs,e1,hq,rs⟩:=Zgh x3.sub (r1.mono x23.ff λ_ _ _ z=>x23.hh _ _ z) hxs;refine⟨l',vs,e1,hq,λl2 hl2=>ZeM (P:=λv _ H'=>Q v H') (x1.trans x23) ?_ hl2 k⟩;unfold HM.cutD Zoy;rw[<-rs.1];exact(rs.drop _).take _
    ·cases h
   ·cases h
  ·cases h
 ·cases h
theorem Zbn.val{K:Zx0}{F0 H0 F H:Hp}{r:HM.Env}{σ:L2.St}{fp:Nat->List Addr}{i:Nat}{ds:List PyData}(e:Zbn K F0 H0 F H r σ fp)(h:r[i]?=some (some (.ol ds))) :
  ∃l vs,σ[i]?=some (some (.ref l))/\H l=some (.lst vs)/\Zv K F ds vs/\fp i=[l]:=by
 obtain⟨v,h1,h2⟩:=e.at_ i _ h;generalize hf:fp i=q at h2;cases h2 with
 | ol k1 k2=>exact⟨_,_,h1,k1,k2,rfl⟩
theorem At.chgList{K:Zx0}{F0 H0 F H:Hp}{r:HM.Env}{σ:L2.St}{i:Nat}{ds es:List PyData}(e:At K F0 H0 F H r σ)(h:r[i]?=some (some (.ol ds))) :
  ∃l vs,σ[i]?=some (some (.ref l))/\H l=some (.lst vs)/\Zv K F ds vs/\∀us,Zv K F es us->At K F0 H0 F (upd H l (.lst us)) (r.set i (some (.ol es))) σ:=by
 obtain⟨fp,e⟩:=e;obtain⟨l,vs,h1,h2,h3,h4⟩:=e.val h;refine⟨l,vs,h1,h2,h3,λus q=>e.change (fp':=[l]) h1 (.ol ZE q) (by simp) (λa ha=>.inl (by rw[h4]; exact ha)) λa o z hn=>?_⟩;rw[ZB (λz=>hn (by rw[h4,z]; simp))];exact z
theorem Zd2(i:Nat){x:Str}{p1 p2 p3:Pos}(ha:XE X a fa)(hN:X.N[i]?=some x:=by rfl)(hv:Vis X.env.scope x:=by first | exact ZyY rfl | exact ZyC (ZyY rfl) | exact ZyC (ZyC rfl))(hd:(x==("__debug__":Str))=false:=by decide)(hcd:(x==("__classdict__":Str))=false:=by decide)
  (hbase:Zz9 (.Name x p1) "append" X.env (eval (.Name x p1) X.env)=eval (.Name x p1) X.env:=by rfl)
  (hfew:((backTo p3 (Zyc [a] X.env)).all (λx=>!x.1)&&(ZB8 p3 (ZA9 [] X.env)).all (λx=>x.1.isSome)&&decide (([a]:List Expr).length+([]:List Keyword).length+(if([]:List Keyword).isEmpty then 0 else 1)<30))=true:=by rfl)
  (hline:(p2.endLine==p3.line)=true:=by rfl) (hs:Zyc [a] X.env=[(false,eval a X.env)]:=by rfl):XS X (.Expr (.Call (.Attribute (.Name x p1) "append" p2) [a] [] p3) pos) (HM.Zed i fa):=by
 intro r o h;unfold HM.Zed at h;split at h
 ·rename_i ds hds
  split at h
  ·rename_i d hd'
   split at h
   ·rename_i hz
    cases h;refine PS.imp (Zhf (ZmK Zz0 ZAP ZAQ Zgz (Zca hN hv hd hcd) (Zak (ha r d hd') ZbK hs) hbase hfew hline hs rfl)) λE σ H ⟨F0,H0,F,at_,k⟩=>?_;obtain⟨l,vs,e1,e2,e3,_⟩:=at_.chgList (es:=ds) hds;refine⟨.ref l,e1,.inl ⟨rfl,_,SqL.of e2⟩,F0,H0,F,at_,λv F1 H1 x1 r1=>?_⟩;have at1:=at_.grow x1;obtain⟨l',vs',f1,f2,f3,f4⟩:=at1.chgList (es:=ds++[d]) hds;rw[e1]at f1;cases f1;refine⟨_,vs',v,rfl,rfl,f2,?_,k _ F1 _ (f4 _ (f3.append (.one r1)))⟩;have e4:=f3.1;have e5:(1000000:Nat)<=sizeLine:=by decide
    unfold HM.big at hz;omega
   ·cases h
  ·cases h
 ·cases h
theorem Zub(i:Nat){x:Str}{p1 p2:Pos}(hk:XE X b fb)(ha:XE X a fa)(hN:X.N[i]?=some x:=by rfl)(hv:Vis X.env.scope x:=by first | exact ZyY rfl | exact ZyC (ZyY rfl) | exact ZyC (ZyC rfl))(hd:(x==("__debug__":Str))=false:=by decide)(hcd:(x==("__classdict__":Str))=false:=by decide)
  (hsub:∀v,assign (.Subscript (.Name x p1) b p2) X.env v=(do
   let ov <-holding [v] (eval (.Name x p1) X.env)
   let iv <-holding [v,ov] (eval b X.env)
   standAt p2
   holding [v,ov,iv] (setItem ov iv v)
   release [v,ov,iv] []):=by intro _; rfl)
  (hs:swapsWithSole [.Subscript (.Name x p1) b p2] a pos.line X.env=pure false:=by rfl) (hw:swappedStores [.Subscript (.Name x p1) b p2] a X.env=pure none:=by rfl)
  (h1:(ZAU [.Subscript (.Name x p1) b p2] X.env).map (·.2)=[assign (.Subscript (.Name x p1) b p2) X.env]:=by rfl):XS X (.Assign [.Subscript (.Name x p1) b p2] a pos) (HM.ZqF i fb fa):=by
 intro r o h;unfold HM.ZqF at h;split at h
 ·rename_i d hd'
  split at h
  ·rename_i ds hds
   split at h
   ·rename_i n hn
    split at h
    ·rename_i j hj
     cases h;refine PS.imp (Zwi (ha r d hd') (Zv8 (Zca hN hv hd hcd) (hk r _ hn) set_list hsub) hs hw h1) λE σ H ⟨F0,H0,F,at_,k⟩=>?_;refine⟨F0,H0,F,at_,λv F1 H1 x1 r1=>?_⟩;have at1:=at_.grow x1;obtain⟨l,vs,e1,e2,e3,_⟩:=at1.chgList (es:=ds) hds;refine⟨.ref l,e1,F0,H0,F1,at1,λw F2 H2 x2 r2=>?_⟩;obtain⟨l',vs',f1,f2,f3,f4⟩:=(at1.grow x2).chgList (es:=ds.set j d) hds;rw[e1]at f1;cases f1;refine⟨_,vs',n,j,rfl,r2.int_inv,f2,?_,k _ F2 _ (f4 _ (f3.set (r1.mono x2.ff) j))⟩;rw[<-f3.1];exact hj
    ·cases h
   ·cases h
  ·cases h
 ·cases h
end
end HP
namespace HP
open PySem PySem.Spec PyProof.Rows L2
variable[FX]
section
variable{K:Zx0}{F:Hp}{κ:Type}[DecidableEq κ]
def ZaO(K:Zx0)(F:Hp)(kvs:List (κ × PyData))(vvs:List (κ × V)):Prop:=kvs.map (·.1)=vvs.map (·.1)/\Zv K F (kvs.map (·.2)) (vvs.map (·.2))
theorem ZaO.nil:ZaO K F ([]:List (κ × PyData)) []:=⟨rfl,.nil⟩
theorem ZaO.cons{k:κ}{d:PyData}{v:V}{kvs:List (κ × PyData)}{vvs:List (κ × V)}(r:Rep K F d v)(q:ZaO K F kvs vvs):ZaO K F ((k,d)::kvs) ((k,v)::vvs) :=
 ⟨by rw[Zx6,Zx6,q.1],by rw[Zx6,Zx6]; exact .cons r q.2⟩
theorem ZaO.inv{kvs:List (κ × PyData)}{vvs:List (κ × V)}(q:ZaO K F kvs vvs):(kvs=[]/\vvs=[])\/∃k d v kvs' vvs',kvs=(k,d)::kvs'/\vvs=(k,v)::vvs'/\Rep K F d v/\ZaO K F kvs' vvs':=by
 cases kvs with
 | nil =>
  cases vvs with
  | nil=>exact .inl ⟨rfl,rfl⟩
  | cons p r=>exact absurd q.1 (by simp)
 | cons p kvs' =>
  cases vvs with
  | nil=>exact absurd q.1 (by simp)
  | cons p' vvs' =>
   obtain⟨k,d⟩:=p;obtain⟨k',v⟩:=p';obtain⟨q1,q2⟩:=q;rw[Zx6,Zx6]at q1 q2;injection q1 with e1 e2
   have e1:k=k':=e1;subst e1;obtain⟨v',us,e3,r1,r2⟩:=q2.cons_inv;injection e3 with e3 e4
   refine .inr ⟨k,d,v,kvs',vvs',rfl,rfl,?_,e2,?_⟩
   ·rw[show v=v' from e3]; exact r1
   ·rw[e4]; exact r2
theorem ZaO.len{kvs:List (κ × PyData)}{vvs:List (κ × V)}(q:ZaO K F kvs vvs):kvs.length=vvs.length:=by
 have:=congrArg ZyN q.1
 rwa [Zx1,Zx1]at this
theorem ZaO.any{kvs:List (κ × PyData)}{vvs:List (κ × V)}(k:κ)(q:ZaO K F kvs vvs):(kvs.any λp=>decide (p.1=k))=vvs.any λp=>decide (p.1=k):=by
 have e:∀{β:Type} (l:List (κ × β)),(l.any λp=>decide (p.1=k))=(l.map (·.1)).any λx=>decide (x=k):=λl=>by rw[List.any_map]; rfl
 rw[e,e,q.1]
theorem ZaO.repl{d:PyData}{v:V}(k:κ)(r:Rep K F d v):∀{kvs:List (κ × PyData)} {vvs:List (κ × V)},ZaO K F kvs vvs->ZaO K F (kvs.map λp=>if p.1=k then(p.1,d)else p) (vvs.map λp=>if p.1=k then(p.1,v)else p)
 | [],vvs,q=>by
  rcases q.inv with⟨_,e⟩ | ⟨_,_,_,_,_,e,_⟩
  ·subst e; exact .nil
  ·cases e
 | p::kvs,vvs,q=>by
  rcases q.inv with⟨e,_⟩ | ⟨k',d',v',kvs',vvs',e1,e2,r1,r2⟩
  ·cases e
  ·cases e1
   subst e2;have ih:=ZaO.repl k r r2;rw[Zx6,Zx6]
   by_cases h:k'=k
   ·rw[if_pos h,if_pos h]; exact .cons r ih
   ·rw[if_neg h,if_neg h]; exact .cons r1 ih
theorem ZaO.snoc{kvs:List (κ × PyData)}{vvs:List (κ × V)}{k:κ}{d:PyData}{v:V}(q:ZaO K F kvs vvs)(r:Rep K F d v):ZaO K F (kvs++[(k,d)]) (vvs++[(k,v)]) :=
 ⟨by rw[ZyE,ZyE,q.1]; rfl,by rw[ZyE,ZyE]; exact q.2.append (.one r)⟩
theorem ZaO.put{kvs:List (κ × PyData)}{vvs:List (κ × V)}{d:PyData}{v:V}(q:ZaO K F kvs vvs)(k:κ)(r:Rep K F d v):ZaO K F (HM.putD kvs k d) (putK vvs k v):=by
 unfold HM.putD putK;rw[q.any k]
 by_cases h:(vvs.any λp=>decide (p.1=k))=true
 ·rw[if_pos h,if_pos h]; exact q.repl k r
 ·rw[if_neg h,if_neg h]; exact q.snoc r
theorem ZaO.look{k:κ}:∀{kvs:List (κ × PyData)} {vvs:List (κ × V)},ZaO K F kvs vvs->(∀d,HM.Zm kvs k=some d->∃v,ZaN vvs k=some v/\Rep K F d v)/\(HM.Zm kvs k=none->ZaN vvs k=none)
 | [],vvs,q=>by
  rcases q.inv with⟨_,e⟩ | ⟨_,_,_,_,_,e,_⟩
  ·subst e; exact⟨λd h=>(by cases h),λ_=>rfl⟩
  ·cases e
 | p::kvs,vvs,q=>by
  rcases q.inv with⟨e,_⟩ | ⟨k',d',v',kvs',vvs',e1,e2,r1,r2⟩
  ·cases e
  ·cases e1
   subst e2;obtain⟨i1,i2⟩:=ZaO.look (k:=k) r2
   by_cases h:k'=k
   ·have e3:HM.Zm ((k',d')::kvs) k=some d':=by simp[HM.Zm,ZyW,h]
    rw[e3,Zd0 (p:=(k',v')) h];exact⟨λd hd=>(by cases hd; exact⟨v',rfl,r1⟩),λhd=>by cases hd⟩
   ·have e3:HM.Zm ((k',d')::kvs) k=HM.Zm kvs k:=by simp[HM.Zm,ZyW,h]
    rw[e3,ZdY (p:=(k',v')) h];exact⟨i1,i2⟩
theorem ZaO.some_iff{k:κ}{kvs:List (κ × PyData)}{vvs:List (κ × V)}(q:ZaO K F kvs vvs):(ZaN vvs k).isSome=(HM.Zm kvs k).isSome:=by
 obtain⟨i1,i2⟩:=q.look (k:=k);cases h:HM.Zm kvs k with
 | none=>rw[i2 h]; rfl
 | some d=>obtain⟨v,h1,_⟩:=i1 d h; rw[h1]; rfl
end
section
variable{K:Zx0}{F:Hp}
theorem Zgb{d:PyData}{k:Key}{v:V}(h:HM.Zh6 d=some k)(r:Rep K F d v):v=kV k:=by cases r<;>first | (cases h; rfl) | cases h
theorem ZlI:∀{ds:List PyData} {ks:List Key} {vs:List V},HM.Zgu ds=some ks->Zv K F ds vs->vs=ks.map kV
 | [],ks,vs,h,r=>by cases h; exact r.nil_inv
 | d::ds,ks,vs,h,r=>by
  obtain⟨v,us,rfl,r1,r2⟩:=r.cons_inv;unfold HM.Zgu at h;split at h
  ·rename_i k hk
   obtain⟨ks',h1,h2⟩:=Zx2.mp h;subst h2;rw[Zgb hk r1,ZlI h1 r2];rfl
  ·cases h
theorem ZpU:∀{ds:List PyData} {ks:List Key},HM.Zli ds=some ks->HM.Zgu ds=some ks
 | [],ks,h=>h
 | d::ds,ks,h=>by
  unfold HM.Zli at h;split at h
  ·cases ‹_=[]›
  ·rename_i i r e
   injection e with e1 e2
   subst e1 e2;obtain⟨ks',h1,h2⟩:=Zx2.mp h;subst h2;show(match HM.Zh6 (.int i)with | some k=>(HM.Zgu ds).map (k::·) | none=>none)=_;rw[ZpU h1];rfl
  ·cases h
theorem Zcc{d:PyData}{ks:List Key}{v:V}(h:HM.ZaV d=some ks)(r:Rep K F d v):∃b,v=.ref b/\F b=some (.tup (ks.map kV)):=by
 cases r with
 | tup h1 h2 h3=>refine⟨_,rfl,?_⟩;rw[<-ZlI (ZpU h) ⟨h2,h3⟩];exact h1
 | tupk _=>cases h
 | lst _ _ _=>cases h
 | dct _ _ _ _=>cases h
 | fn _=>cases h
 | non=>cases h
 | bl _=>cases h
 | int _=>cases h
 | str _=>cases h
end
section
variable{X:Cx}{a b c e:Expr}{fa fb fc:HM.EF}{pos p:Pos}{f:HM.BF}
theorem fresh_one{K:Zx0}{F H F1 H1:Hp}{o:HO}{q:HM.B}{l:Addr}{P:V->Hp->Hp->Prop}(x1:Ext F H F1 H1)(hl:H1 l=none)(hq:Zab K F1 (upd H1 l o) q (.ref l) [l])
  (k:∀v F' H',Ext F H F' H'->(∃fp,Zab K F' H' q v fp/\fp.Nodup/\∀a∈fp,F' a=none/\H a=none)->P v F' H'):P (.ref l) F1 (upd H1 l o):=by
 refine k _ F1 _ (x1.lay' hl) ⟨[l],hq,by simp,λa ha=>?_⟩;obtain rfl:a=l:=by simpa using ha
 exact⟨x1.sub.free hl,x1.hh.free hl⟩
theorem ZwB:XF X (.Dict [] [] pos) HM.fDk:=by intro r d h;cases h;exact PE.imp Ztu λσ H Q ⟨F0,H0,F,at_,k⟩ l hl=>fresh_one (P:=λv _ H'=>Q v H') at_.refl hl (.ok ZE rfl .nil) k
theorem ZmG:XF X (.Dict [] [] pos) HM.fDt:=by intro r d h;cases h;exact PE.imp ZoS λσ H Q ⟨F0,H0,F,at_,k⟩ l hl=>fresh_one (P:=λv _ H'=>Q v H') at_.refl hl (.ot ZE rfl .nil) k
theorem Zra:XF X (.Dict [] [] pos) HM.ZsW:=by intro r d h;cases h;exact PE.imp ZoS λσ H Q ⟨F0,H0,F,at_,k⟩ l hl=>fresh_one (P:=λv _ H'=>Q v H') at_.refl hl (.otl ZE rfl rfl λi ds l' h=>by simp at h) k
theorem ZsA(ha:XE X a fa)(hb:XE X b fb):XF X (.Dict [some a] [b] pos) (HM.Zok fa fb):=by
 intro r d h;unfold HM.Zok at h;split at h
 ·rename_i x hx
  split at h
  ·rename_i y hy
   split at h
   ·rename_i k hk
    cases h;refine PE.imp (Zum (ZsP (ha r x hx) (hb r y hy) Zun) rfl rfl (by simp) (by simp)) λσ H Q ⟨F0,H0,F,at_,kk⟩ l hl=>?_;have hFl:F l=none:=at_.sub.free hl;have x0:Ext F H F (upd H l (.dK [])):=at_.refl.lay' hl;refine⟨F0,H0,F,at_.grow x0,λv F1 H1 x1 r1=>⟨F0,H0,F1,(at_.grow x0).grow x1,λw F2 H2 x2 r2=>?_⟩⟩;have x12:=x1.trans x2;have hl2:H2 l=some (.dK []):=x12.hh l _ ZE;have hF2:F2 l=none:=by
     cases q:F2 l with
     | none=>rfl
     | some o =>
      rcases x12.new l o q with z | z
      ·rw[hFl]at z; cases z
      ·exact(z.no ZE λ_ q=>by cases q).elim
    refine⟨hl2,[(k,w)],?_,by simp,?_⟩
    ·rw[Zgb hk r1]
     rfl
    have xe:Ext F H F2 (upd H2 l (.dK (Zha [] [(k,w)]))):=by
     refine⟨x12.ff,λc o z=>?_,λc o z=>?_,λc o z=>?_,λt=>(x12.tab (t.same (Zkb hl))).keep λa u z hu=>?_,x12.nts⟩
     ·have hc:c≠l:=Zau z hl
      exact(x12.hh c o (by rw[ZB hc]; exact z)).cong (ZB hc)
     ·rw[ZB (λe=>by rw[e,hF2]at z; cases z)]
      exact x12.sub c o z
     ·rcases x12.new c o z with q | q
      ·exact .inl q
      ·exact .inr (q.back (.of (Zq.upd' hl)))
     ·rw[ZB (λe=>by subst e; rw[hl2]at z; cases z; cases hu)]; exact z
    refine kk _ F2 _ xe ⟨[l],.ok ZE rfl (.one r2),by simp,λc hc=>?_⟩;obtain rfl:c=l:=by simpa using hc
    exact⟨hF2,hl⟩
   ·cases h
  ·cases h
 ·cases h
end
end HP
namespace HP
open PySem PySem.Spec PyProof.Rows L2
variable[FX]
theorem At.chgOne{K:Zx0}{F0 H0 F H:Hp}{r:HM.Env}{σ:L2.St}{i:Nat}{q:HM.B}{l:Addr}(e:At K F0 H0 F H r σ)(h:r[i]?=some (some q))(hv:σ[i]?=some (some (.ref l)))(hone:∀v fp,Zab K F H q v fp->∃a,v=.ref a/\fp=[a]) :
  ∀o q',Zab K F (upd H l o) q' (.ref l) [l]->At K F0 H0 F (upd H l o) (r.set i (some q')) σ:=by
 intro o q' hq;obtain⟨fp,e⟩:=e;obtain⟨v,h1,h2⟩:=e.at_ i _ h;obtain⟨a,e1,e2⟩:=hone v _ h2;subst e1;rw[hv]at h1;cases h1;refine e.change (fp':=[l]) hv hq (by simp) (λc hc=>.inl (by rw[e2]; exact hc)) λc o' z hn=>?_;rw[ZB (λz=>hn (by rw[e2,z]; simp))];exact z
section
variable{X:Cx}{a b c e:Expr}{fa fb fc:HM.EF}{pos p:Pos}{f:HM.BF}
theorem ZeN{n:Nat}(h:n<HM.big):n<sizeLine:=by
 have e5:(1000000:Nat)<=sizeLine:=by decide
 unfold HM.big at h;omega
theorem ZfL(hu:X.A.units+1<cLine)(i:Nat){x:Str}{p1 p2:Pos}(hk:XE X b fb)(ha:XE X a fa)(hN:X.N[i]?=some x:=by rfl)(hv:Vis X.env.scope x:=by first | exact ZyY rfl | exact ZyC (ZyY rfl) | exact ZyC (ZyC rfl))(hd:(x==("__debug__":Str))=false:=by decide)(hcd:(x==("__classdict__":Str))=false:=by decide)
  (hs:Zz3 a (some (.Subscript (.Name x p1) b p2)) pos.line X.env=pure false:=by rfl):XS X (.Assign [.Subscript (.Name x p1) b p2] a pos) (HM.ZgU i fb fa):=by
 intro r o h;unfold HM.ZgU at h;split at h
 ·rename_i d hd'
  split at h
  ·rename_i y hy
   split at h
   ·rename_i kvs hb
    split at h
    ·rename_i k hk'
     split at h
     ·rename_i hz
      cases h;refine PS.imp (Zlo hu (Zca hN hv hd hcd) (hk r y hy) (ha r d hd') hs) λE σ H ⟨F0,H0,F,at_,kk⟩=>?_;refine⟨F0,H0,F,at_,λv F1 H1 x1 r1=>?_⟩;have at1:=at_.grow x1;obtain⟨u,fp,e1,e2⟩:=at1.any hb;refine⟨u,e1,F0,H0,F1,at1,λw F2 H2 x2 r2=>?_⟩;have at2:=at1.grow x2;cases e2 with
      | @ok l _ vvs e2 e3 e4=>have T:ZaO X.K F2 kvs vvs:=⟨e3,e4.mono x2.ff⟩;have T':=T.put k (r1.mono x2.ff);rw[Zgb hk' r2];have hH:H2 l=some (.dK vvs):=x2.hh _ _ e2;refine⟨l,_,rfl,Zh5.k hH (by rw[<-T.len]; exact ZeN hz),kk _ F2 _ (at2.chgOne hb e1 (λv fp q=>by cases q; exact⟨_,rfl,rfl⟩) _ _ (.ok ZE T'.1 T'.2))⟩
     ·cases h
    ·cases h
   ·rename_i kvs hb
    split at h
    ·rename_i k hk'
     split at h
     ·rename_i hz
      cases h;refine PS.imp (Zlo hu (Zca hN hv hd hcd) (hk r y hy) (ha r d hd') hs) λE σ H ⟨F0,H0,F,at_,kk⟩=>?_;refine⟨F0,H0,F,at_,λv F1 H1 x1 r1=>?_⟩;have at1:=at_.grow x1;obtain⟨u,fp,e1,e2⟩:=at1.any hb;refine⟨u,e1,F0,H0,F1,at1,λw F2 H2 x2 r2=>?_⟩;have at2:=at1.grow x2;cases e2 with
      | @ot l _ vvs e2 e3 e4=>have T:ZaO X.K F2 kvs vvs:=⟨e3,e4.mono x2.ff⟩;have T':=T.put k (r1.mono x2.ff);obtain⟨bb,rfl,hbb⟩:=Zcc hk' r2;have hH:H2 l=some (.dT vvs):=x2.hh _ _ e2;refine⟨l,_,rfl,Zh5.t hH (x2.sub _ _ hbb) (by rw[<-T.len]; exact ZeN hz),kk _ F2 _ (at2.chgOne hb e1 (λv fp q=>by cases q; exact⟨_,rfl,rfl⟩) _ _ (.ot ZE T'.1 T'.2))⟩
     ·cases h
    ·cases h
   ·cases h
  ·cases h
 ·cases h
theorem Zj5{K:Zx0}{F H:Hp}(k:List Key):∀(kvs:List (List Key × List PyData)) (vvs:List (List Key × V)) (ls:List Addr),kvs.map (·.1)=vvs.map (·.1)->vvs.map (·.2)=ls.map V.ref ->
  (∀(i:Nat) (ds:List PyData) (l:Addr),(kvs.map (·.2))[i]?=some ds->ls[i]?=some l->∃vs,H l=some (.lst vs)/\Zv K F ds vs) ->
  (∀ds,HM.Zm kvs k=some ds->∃l' vs,ZaN vvs k=some (.ref l')/\l'∈ls/\H l'=some (.lst vs)/\Zv K F ds vs)/\(HM.Zm kvs k=none->ZaN vvs k=none)
 | [],[],_,_,_,_=>⟨(λds h=>by cases h),λ_=>rfl⟩
 | [],_::_,_,hk,_,_=>by simp at hk
 | _::_,[],_,hk,_,_=>by simp at hk
 | _::_,_::_,[],_,hv,_=>by simp at hv
 | (k1,ds1)::kvs,(k2,v2)::vvs,l1::ls,hk,hv,r=>by
  rw[Zx6,Zx6]at hk hv;injection hk with e1 e2
  injection hv with e3 e4
  have e1:k1=k2:=e1;have e3:v2=.ref l1:=e3;subst e1 e3;obtain⟨i1,i2⟩:=Zj5 k kvs vvs ls e2 e4 λi ds l h1 h2=>r (i+1) ds l (by simpa using h1) (by simpa using h2)
  by_cases hkk:k1=k
  ·have e5:HM.Zm ((k1,ds1)::kvs) k=some ds1:=by simp[HM.Zm,ZyW,hkk]
   rw[e5,Zd0 (p:=(k1,V.ref l1)) hkk];obtain⟨vs,q1,q2⟩:=r 0 ds1 l1 rfl rfl;exact⟨(λds h=>by cases h; exact⟨l1,vs,rfl,by simp,q1,q2⟩),(λh=>by cases h)⟩
  ·have e5:HM.Zm ((k1,ds1)::kvs) k=HM.Zm kvs k:=by simp[HM.Zm,ZyW,hkk]
   rw[e5,ZdY (p:=(k1,V.ref l1)) hkk];exact⟨λds h=>let ⟨l',vs,a1,a2,a3⟩:=i1 ds h; ⟨l',vs,a1,Zx4 _ a2,a3⟩,i2⟩
theorem Znu{K:Zx0}{F H:Hp}{kvs:List (List Key × List PyData)}{v:V}{fp:List Addr}(q:Zab K F H (.otl kvs) v fp) :
  ∃l vvs ls,v=.ref l/\fp=l::ls/\H l=some (.dT vvs)/\kvs.map (·.1)=vvs.map (·.1)/\vvs.map (·.2)=ls.map V.ref /\
   ∀k,(∀ds,HM.Zm kvs k=some ds->∃l' vs,ZaN vvs k=some (.ref l')/\l'∈ls/\H l'=some (.lst vs)/\Zv K F ds vs)/\(HM.Zm kvs k=none->ZaN vvs k=none):=by
 cases q with
 | @otl l _ vvs ls h hk hv r=>exact⟨l,vvs,ls,rfl,rfl,h,hk,hv,λk=>Zj5 k kvs vvs ls hk hv r⟩
theorem Ztk{K:Zx0}{F H:Hp}{q:HM.B}{v w:V}{fp:List Addr}{x:PyData}{c:Bool}(sub:Zq F H)(rq:Zab K F H q v fp)(rx:Rep K F x w)(h:HM.hasB q x=some c):∃l o,v=.ref l/\ZcI H l w o/\o.isSome=c:=by
 cases rq with
 | pl _=>cases h
 | hd _ _ _ _=>cases h
 | hf _=>cases h
 | ol _ _=>cases h
 | @ok l kvs vvs h1 h2 h3=>obtain⟨k,e1,e2⟩:=Zx2.mp h;rw[Zgb e1 rx];exact⟨l,_,rfl,ZcI.k h1,by rw[ZaO.some_iff (K:=K) (F:=F) ⟨h2,h3⟩,<-e2]⟩
 | @ot l kvs vvs h1 h2 h3=>obtain⟨k,e1,e2⟩:=Zx2.mp h;obtain⟨bb,rfl,hbb⟩:=Zcc e1 rx;exact⟨l,_,rfl,ZcI.t h1 (sub _ _ hbb),by rw[ZaO.some_iff (K:=K) (F:=F) ⟨h2,h3⟩,<-e2]⟩
 | @otl l kvs vvs ls h1 h2 h3 h4 =>
  obtain⟨k,e1,e2⟩:=Zx2.mp h;obtain⟨bb,rfl,hbb⟩:=Zcc e1 rx;refine⟨l,_,rfl,ZcI.t h1 (sub _ _ hbb),?_⟩;obtain⟨l2,vvs2,ls2,e3,e4,e5,_,_,hl⟩:=Znu (Zab.otl h1 h2 h3 h4);cases e3;rw[h1]at e5;cases e5;obtain⟨i1,i2⟩:=hl k;rw[<-e2];cases hq:HM.Zm kvs k with
  | none=>rw[i2 hq]; rfl
  | some ds=>obtain⟨_,_,h5,_⟩:=i1 ds hq; rw[h5]; rfl
theorem ZqC{r:HM.Env}{d:PyData}(h:HM.Zkx fa f r=some d):∃x q c,fa r=some x/\f r=some q/\HM.hasB q x=some c/\d=.bool (!c):=by
 unfold HM.Zkx at h;split at h
 ·split at h
  ·obtain⟨c,h1,h2⟩:=Zx2.mp h
   exact⟨_,_,c,by assumption,by assumption,h1,h2.symm⟩
  ·cases h
 ·cases h
theorem ZsB(hu:X.A.units+1<cLine)(ha:XE X a fa)(hb:XB X b f)(hm:Zy7 .NotIn b=false:=by rfl):XT X (.Compare a [.NotIn] [b] pos) (HM.tV (HM.Zkx fa f)):=by intro r d h;obtain⟨x,q,c,h1,h2,h3,e⟩:=ZqC (Zff h);cases e;refine PT.imp (ZnK (ZlL hu (ha r x h1) (hb r q h2)) hm) λσ H Q ⟨F0,H0,F,at_,k⟩=>?_;refine⟨F0,H0,F,at_,λv F1 H1 x1 r1=>⟨F0,H0,F1,at_.grow x1,λw F2 H2 x2 ⟨fp,r2⟩=>?_⟩⟩;obtain⟨l,o,e1,e2,e3⟩:=Ztk x2.sub r2 (r1.mono x2.ff) h3;exact⟨l,o,e1,e2,_,rfl,by rw[e3]; exact k F2 H2 (x1.trans x2)⟩
theorem Zta{i:Nat}{r:HM.Env}{q:HM.B}(h:HM.Zox i fa r=some q):∃x bb,fa r=some x/\r[i]?=some (some bb) /\
  ((∃kvs k d,bb=.ok kvs/\HM.Zh6 x=some k/\HM.Zm kvs k=some d/\q=.pl d)\/(∃kvs k d,bb=.ot kvs/\HM.ZaV x=some k/\HM.Zm kvs k=some d/\q=.pl d)\/∃kvs k ds,bb=.otl kvs/\HM.ZaV x=some k/\HM.Zm kvs k=some ds/\q=.ol ds):=by
 unfold HM.Zox at h;split at h
 ·rename_i x hx
  split at h
  ·rename_i kvs hb
   split at h
   ·rename_i k hk
    obtain⟨d,h1,h2⟩:=Zx2.mp h;exact⟨x,_,hx,hb,.inl ⟨kvs,k,d,rfl,hk,h1,h2.symm⟩⟩
   ·cases h
  ·rename_i kvs hb
   split at h
   ·rename_i k hk
    obtain⟨d,h1,h2⟩:=Zx2.mp h;exact⟨x,_,hx,hb,.inr (.inl ⟨kvs,k,d,rfl,hk,h1,h2.symm⟩)⟩
   ·cases h
  ·rename_i kvs hb
   split at h
   ·rename_i k hk
    obtain⟨d,h1,h2⟩:=Zx2.mp h;exact⟨x,_,hx,hb,.inr (.inr ⟨kvs,k,d,rfl,hk,h1,h2.symm⟩)⟩
   ·cases h
  ·cases h
 ·cases h
theorem Zrb(hu:X.A.units+1<cLine)(i:Nat){x:Str}{p1:Pos}(hk:XE X b fb)(hN:X.N[i]?=some x:=by rfl)(hv:Vis X.env.scope x:=by first | exact ZyY rfl | exact ZyC (ZyY rfl) | exact ZyC (ZyC rfl))(hd:(x==("__debug__":Str))=false:=by decide)(hcd:(x==("__classdict__":Str))=false:=by decide)
  (hs:ZoH b:=by intro _ _; rfl):XB X (.Subscript (.Name x p1) b pos) (HM.Zox i fb):=by
 intro r q h;obtain⟨y,bb,h1,h2,h3⟩:=Zta h;refine PE.imp (Zk4 hu (Zca hN hv hd hcd) (hk r y h1) hs) λσ H Q ⟨F0,H0,F,at_,kk⟩=>?_;obtain⟨u,fp,e1,e2⟩:=at_.any h2;refine⟨u,e1,F0,H0,F,at_,λw F2 H2 x2 r2=>?_⟩;have e2':=e2.mono x2.ff λ_ _ _ z=>x2.hh _ _ z;rcases h3 with⟨kvs,k,d,rfl,hk',hl,rfl⟩ | ⟨kvs,k,d,rfl,hk',hl,rfl⟩ | ⟨kvs,k,ds,rfl,hk',hl,rfl⟩
 ·cases e2' with
  | @ok l _ vvs g1 g2 g3=>obtain⟨v,q1,q2⟩:=(ZaO.look (k:=k) (K:=X.K) (F:=F2) ⟨g2,g3⟩).1 d hl;rw[Zgb hk' r2];exact⟨l,v,rfl,by rw[<-q1]; exact ZcI.k g1,kk v F2 H2 x2 ⟨[],.pl q2⟩⟩
 ·cases e2' with
  | @ot l _ vvs g1 g2 g3=>obtain⟨v,q1,q2⟩:=(ZaO.look (k:=k) (K:=X.K) (F:=F2) ⟨g2,g3⟩).1 d hl;obtain⟨bb',rfl,hbb⟩:=Zcc hk' r2;exact⟨l,v,rfl,by rw[<-q1]; exact ZcI.t g1 (x2.sub _ _ hbb),kk v F2 H2 x2 ⟨[],.pl q2⟩⟩
 ·obtain⟨l,vvs,ls,rfl,_,g1,_,_,hlk⟩:=Znu e2'
  obtain⟨l',vs,q1,_,q2,q3⟩:=(hlk k).1 ds hl;obtain⟨bb',rfl,hbb⟩:=Zcc hk' r2;exact⟨l,_,rfl,by rw[<-q1]; exact ZcI.t g1 (x2.sub _ _ hbb),kk _ F2 H2 x2 ⟨[l'],.ol q2 q3⟩⟩
end
end HP
namespace HP
open PySem PySem.Spec PyProof.Rows L2
variable[FX]
abbrev No:Value->Shared->Prop:=λ_ _=>False
abbrev Zp5(ifs:List Expr)(env:Env):Sem Bool :=
 forIn ifs true λc r=>if r=true then do let ok <-isTrue c env (eval c env); pure (ZBp ok)else pure (ZBp r)
theorem Zr9{prog:Program}{w:World}{A:Around}{R:Result->Shared->Prop}{s:Shared}{elt target iter:Expr}{ifs:List Expr}{scope:Scope}{pos:Pos}{it acc:Value}{env:Env}(J:Nat->Shared->Prop)
  (turn:∀n s,J n s->wpAny (model prog w) A (pyNext it) (λr s1=>match r with
   | none=>R (.ok .next) s1
   | some v=>wpAny (model prog w) A (ZBn target it v) (λ_ s2=>wpAny (model prog w) A (assign target env v) (λ_ s3=>wpAny (model prog w) A (Zp5 ifs env) (λok s4=>if ok=true then wpAny (model prog w) A (eval elt env) (λx s5=>wpAny (model prog w) A (call (.builtin "list.append") [acc,x]) (λ_ s6=>∃m,m<n/\J m s6) No s5) No s4 else ∃m,m<n/\J m s4) No s3) No s2) No s1) No s)
  (n:Nat) (h:J n s):codeAny (model prog w) A (.compLoop (.ListComp elt [⟨target,iter,ifs,0⟩] scope pos) 0 it acc env) R s:=by
 refine codeAny_loop rfl J (λn s hI=>?_) n h;show wpAny _ A ((compTurn (.ListComp elt [⟨target,iter,ifs,0⟩] scope pos) 0 it acc env).onRaise (λx=>do noteFrame x env; theTreesLotGoes x)) _ _ s;refine wpAny_noted ?_;rw[compTurn_list];refine ZxZ (wpAny_standAt (ZxZ (Zzg (turn n s hI) (λr s1 h1=>?_) λ_ _ z=>z.elim)));cases r with
 | none=>exact Zx5 h1
 | some v =>
  refine ZxZ (Zzg h1 (λ_ s2 h2=>ZxZ (Zzg h2 (λ_ s3 h3=>ZxZ (Zzg h3 (λok s4 h4=>?_) λ_ _ z=>z.elim)) λ_ _ z=>z.elim)) λ_ _ z=>z.elim);cases ok with
  | false=>exact Zx5 ⟨rfl,h4⟩
  | true=>refine ZxZ (ZxZ (Zzg h4 (λx s5 h5=>?_) λ_ _ z=>z.elim));exact ZxZ (Zzg h5 (λ_ s6 h6=>Zx5 (Zx5 ⟨rfl,h6⟩)) λ_ _ z=>z.elim)
def ZT(X:Cx)(N:List Str)(scope:Scope)(cl:List (Str × Addr))(C:Addr)(s₀:Shared)(H₀:Hp)(ex:List Addr):Cx where
 prog:=X.prog
 w:=X.w
 K:=X.K
 mg:=X.mg
 base:=X.base
 A:=X.A
 N:=N
 s₀:=s₀
 H₀:=H₀
 env:=compEnvC scope cl C X.env
 outer:=X.stack
 stack:=X.stack
 ex:=ex
 fn:=λ_=>false
 calm:=true
 pn:=[]
 xe:=λ_ _=>False
theorem ZhB{env:Env}:∀(names:List (Str × NameKind)) (cs:List (Str × Addr)),(∀y∈names,y.2=.free->∃c,env.cells.lookup y.1=some c)->(∀x c,cs.lookup x=some c->env.cells.lookup x=some c) ->
  ∃cl,(forIn names cs λ(x:Str × NameKind) r=>(match x with | (name,kind)=>if kind==.free then do let c <-cellOf env name; pure (ZBp ((name,c)::r))else pure (ZBp r):Sem (ForInStep (List (Str × Addr)))))=pure cl /\
   (∀x c,cl.lookup x=some c->env.cells.lookup x=some c)/\(∀x,(cs.lookup x).isSome=true->(cl.lookup x).isSome=true)/\∀y∈names,y.2=.free->(cl.lookup y.1).isSome=true
 | [],cs,_,h2=>⟨cs,rfl,h2,λ_ h=>h,λy hy=>by simp at hy⟩
 | (n,k)::r,cs,h1,h2=>by
  rw[List.forIn_cons]
  by_cases hk:(k==ZAa)=true
  ·obtain⟨c,hc⟩:=h1 (n,k) (Zx3 ..) (by simpa using hk)
   have ec:cellOf env n=pure c:=by unfold cellOf; rw[hc]
   obtain⟨cl,e1,e2,e3,e4⟩:=ZhB r ((n,c)::cs) (λy hy=>h1 y (Zx4 _ hy)) (λx d hx=>by
    rw[ZzN]at hx;split at hx
    ·rename_i hb
     have:x=n:=by simpa using hb
     cases hx; rw[this]; exact hc
    ·exact h2 x d hx)
   refine⟨cl,?_,e2,λx hx=>e3 x ?_,λy hy hf=>?_⟩
   ·simp only[hk,if_true,ec,pure_bind]
    exact e1
   ·rw[ZzN]
    split
    ·rfl
    ·exact hx
   ·rcases Zyo.mp hy with e | hy
    ·subst e
     exact e3 n (by rw[ZzN]; simp)
    ·exact e4 y hy hf
  ·obtain⟨cl,e1,e2,e3,e4⟩:=ZhB r cs (λy hy=>h1 y (Zx4 _ hy)) h2
   refine⟨cl,?_,e2,e3,λy hy hf=>?_⟩
   ·simp only[hk,if_false,pure_bind,ZzR]
    exact e1
   ·rcases Zyo.mp hy with e | hy
    ·subst e
     exact absurd (by simpa using hf) hk
    ·exact e4 y hy hf
theorem Zfq{scope:Scope}{env:Env}(h:∀y∈scope.names,y.2=.free->∃c,env.cells.lookup y.1=some c) :
  ∃cl,closureFor scope env=pure cl/\(∀x c,cl.lookup x=some c->env.cells.lookup x=some c)/\∀y∈scope.names,y.2=.free->(cl.lookup y.1).isSome=true:=by
 obtain⟨cl,e1,e2,_,e4⟩:=ZhB (env:=env) scope.names [] h (λx c hx=>by simp at hx);refine⟨cl,?_,e2,e4⟩;unfold closureFor;exact(congrArg (λm:Sem (List (Str × Addr))=>m >>= λcs=>pure cs) e1).trans (pure_bind cl λcs=>pure cs)
theorem Ext.chg{F H F' H':Hp}(x:Ext F H F' H'){p:Addr}(o:HO)(h1:H p=none)(h2:F' p=none)(h3:∀u,H' p=some u->Zlc u=true):Ext F H F' (upd H' p o) :=
 ⟨x.ff,λb q z=>by
  have hb:b≠p:=Zau z h1;have y:=x.hh b q z;unfold Zde at y ⊢;rw[ZB hb];exact y,λb q z=>by rw[ZB (Zau z h2)]; exact x.sub b q z,x.new,λt=>(x.tab t).keep λa u z hu=>by
   have ha:a≠p:=λe=>by subst e; exact Zr4 (h3 u z) hu
   rw[ZB ha]; exact z,x.nts⟩
theorem At.push{K:Zx0}{F0 H0 F H:Hp}{r:HM.Env}{σ:L2.St}{d:PyData}{v:V}(e:At K F0 H0 F H r σ)(q:Rep K F d v):At K F0 H0 F H (some (.pl d)::r) (some v::σ):=by
 obtain⟨fp,e⟩:=e;refine⟨λi=>match i with | 0=>[] | i+1=>fp i,e.ext,by rw[Zyg,Zyg,e.len],λi b h=>?_,λi h=>?_,λi a h=>?_,λi=>?_,λi j a hij h=>?_,e.tb,e.nt⟩
 ·cases i with
  | zero=>rw[ZzZ]at h;cases h;exact⟨v,rfl,.pl q⟩
  | succ i=>rw[ZyD]at h;obtain⟨u,h1,h2⟩:=e.at_ i b h;exact⟨u,by rw[ZyD]; exact h1,h2⟩
 ·cases i with
  | zero=>rfl
  | succ i=>exact e.emp i λb z=>h b (by rw[ZyD]; exact z)
 ·cases i with
  | zero=>simp at h
  | succ i=>exact e.own i a h
 ·cases i with
  | zero=>exact ZzH
  | succ i=>exact e.nd i
 ·cases i with
  | zero=>simp at h
  | succ i =>
   cases j with
   | zero=>simp
   | succ j=>exact e.dis i j a (by omega) h
theorem At.chgNew{K:Zx0}{F0 H0 F H:Hp}{r:HM.Env}{σ:L2.St}{p:Addr}(o:HO){Hs Fs:Hp}(e:At K F0 H0 F H r σ)(es:At K F0 H0 Fs Hs r σ)(hs:Zaz Hs H)(h1:Hs p=none)(h2:F p=none)(h3:∀u,H p=some u->Zlc u=true):At K F0 H0 F (upd H p o) r σ:=by
 obtain⟨fp,e⟩:=e;obtain⟨fq,es⟩:=es;have hp:∀i,¬p∈fp i:=λi hm=>by
  obtain⟨b,hb⟩:=e.bound hm;obtain⟨v,q1,q2⟩:=e.at_ i b hb;obtain⟨v',q3,q4⟩:=es.at_ i b hb;rw[q1]at q3;cases q3;generalize fp i=f1 at q2 hm;generalize fq i=f2 at q4;cases q2 with
  | pl _=>simp at hm
  | hd _ _ _ _=>simp at hm
  | hf _=>simp at hm
  | ol k _=>cases q4 with | ol k' _=>simp at hm; subst hm; rw[h1]at k'; cases k'
  | ok k _ _=>cases q4 with | ok k' _ _=>simp at hm; subst hm; rw[h1]at k'; cases k'
  | ot k _ _=>cases q4 with | ot k' _ _=>simp at hm; subst hm; rw[h1]at k'; cases k'
  | otl k _ v1 _ =>
   cases q4 with
   | otl k' hk' v2 r2' =>
    have eo:=hs.back k' k λ_ z=>by cases z
    cases eo;have v2':=v2;rw[v1]at v2;rcases Zyo.mp hm with z2 | z2
    ·subst z2; rw[h1]at k'; cases k'
    ·have:V.ref p∈ZBz V.ref _:=Zyf.mpr ⟨p,z2,rfl⟩
     rw[v2]at this;obtain⟨a',m1,m2⟩:=Zyf.mp this;injection m2 with m2
     subst m2;obtain⟨o,ho⟩:=Zab.there (Zab.otl k' hk' v2' r2') (Zx4 _ m1);rw[h1]at ho; cases ho
 have hH0:H0 p=none:=es.ext.hh.free h1;refine⟨fp,e.ext.chg o hH0 h2 h3,e.len,λi b h=>?_,e.emp,e.own,e.nd,e.dis,e.tb,e.nt⟩;obtain⟨v,q1,q2⟩:=e.at_ i b h;refine⟨v,q1,q2.mono (Zq.refl F) λa ha o' z=>?_⟩;have hne:a≠p:=λe=>hp i (by rw[<-e]; exact ha);exact .of (by rw[ZB hne]; exact z)
end HP
namespace HP
open PySem PySem.Spec PyProof.Rows L2
variable[FX]
structure ZdC(X:Cx)(N:List Str)(scope:Scope)(fr:List Str):Prop where
 kind:scope.kind=.function
 cell:∀y∈scope.names,y.2≠.cell
 names:∀y∈scope.names,y.2=.local->scope.names.lookup y.1=some .local
 loc:∀x∈fr,scope.names.lookup x=some .local
 first:∀(i:Nat) (x:Str),fr[i]?=some x->N[i]?=some x
 nd:N.Nodup
 len:N.length=X.N.length+fr.length
 cap:∀y∈scope.names,y.2=.free->X.env.kindOf y.1=some .cell\/X.env.kindOf y.1=some .free
 same:∀(i:Nat) (y:Str),N[i+fr.length]?=some y->scope.names.lookup y=some .free->X.N[i]?=some y
 vis:∀(i:Nat) (y:Str),N[i+fr.length]?=some y->Vis scope y->scope.names.lookup y=some .free
def goG(dec:PyData->Option (List PyData))(c:HM.TF)(e:HM.EF)(r:HM.Env):List PyData->Option (List PyData)
 | []=>some []
 | x::xs=>match dec x with
  | some ys=>match c (ys.map (λd=>some (HM.B.pl d))++r)with
   | some true=>match e (ys.map (λd=>some (HM.B.pl d))++r)with
    | some y=>(goG dec c e r xs).map (y::·)
    | none=>none
   | some false=>goG dec c e r xs
   | none=>none
  | none=>none
def Zfc(dec:PyData->Option (List PyData))(i:HM.IF)(c:HM.TF)(e:HM.EF):HM.BF:=λr=>match i r with
 | some xs=>if xs.length<HM.big then(goG dec c e r xs).map λys=>HM.B.ol ys else none
 | none=>none
def ZiA(Y:Cx)(m:Nat)(tg:Expr)(dec:PyData->Option (List PyData)):Prop:=∀(pins:List (Addr × Obj)) (s:Shared) (σ:L2.St) (sv:List (Option V)) (H F:Hp) (d:PyData) (ys:List PyData) (xv:V) (u:Value),sv.length=m->Inv Y pins (sv++σ) H s->RelV xv u->Zq F H->Rep Y.K F d xv->dec d=some ys ->
 wpAny (model Y.prog Y.w) Y.A (assign tg Y.env u) (λ_ s'=>∃vs:List V,vs.length=m/\Inv Y pins (vs.map some++σ) H s'/\Zv Y.K F ys vs) Y.xe s
theorem At.pushes{K:Zx0}{F0 H0 F H:Hp}{r:HM.Env}{σ:L2.St}:∀{ds:List PyData} {vs:List V},At K F0 H0 F H r σ->Zv K F ds vs->At K F0 H0 F H (ds.map (λd=>some (HM.B.pl d))++r) (vs.map some++σ)
 | [],vs,e,q=>by rw[q.nil_inv];exact e
 | d::ds,vs,e,q=>by obtain⟨v,us,rfl,r1,r2⟩:=q.cons_inv;exact(At.pushes e r2).push r1
section
variable{X:Cx}{N:List Str}{scope:Scope}{fr:List Str}{cl:List (Str × Addr)}{C:Addr}
theorem ZbD{env:Env}{y:Str}{k:NameKind}:∀{names:List (Str × NameKind)},(names.map λ(n,k)=>if(k==ZAa&&env.scope.kind==.function&&env.kindOf n==some .cell)then(n,NameKind.cell)else(n,k)).lookup y=some k ->
  names.lookup y=some k\/(k=.cell/\names.lookup y=some .free)
 | [],h=>by simp at h
 | (n,k')::r,h=>by
  have ih:=@ZbD env y k r;rw[Zx6]at h;dsimp only at h
  by_cases hc:(k'==ZAa&&env.scope.kind==.function&&env.kindOf n==some .cell)=true
  ·rw[if_pos hc,ZzN]at h
   rw[ZzN];split at h
   ·cases h
    refine .inr ⟨rfl,?_⟩;have:(k'==ZAa)=true:=by rw[Zyk,Zyk]at hc;exact hc.1.1
    rw[show k'=ZAa by simpa using this]
   ·exact ih h
  ·rw[if_neg hc,ZzN]at h
   rw[ZzN];split at h
   ·cases h
    exact .inl rfl
   ·exact ih h
theorem lookup_mem{y:Str}{k:NameKind}:∀{names:List (Str × NameKind)},names.lookup y=some k->(y,k)∈names
 | [],h=>by simp at h
 | (n,k')::r,h=>by
  rw[ZzN]at h;split at h
  ·cases h
   rename_i hb;rw[show y=n by simpa using hb];exact Zx3 ..
  ·exact Zx4 _ (lookup_mem h)
theorem Zui{pins:List (Addr × Obj)}{σ:L2.St}{H:Hp}{s:Shared}{fp:List Addr}(T:ZdC X N scope fr)(hcl:∀y c,cl.lookup y=some c->X.env.cells.lookup y=some c)(hfr:∀y∈scope.names,y.2=.free->(cl.lookup y.1).isSome=true)
  (I:Inv X pins σ H s) (hc:X.calm=true) (hf:∀b∈fp,Zgd X pins H b) (hfl:∀b∈fp,b<s.heap.objs.size) (hC:s.heap.objs.size<=C):(ZT X N scope cl C s H fp).Ok:=by
 refine⟨I.ok.mod,T.kind,I.ok.glob,I.ok.blt,hC,λy z c h1 h2=>I.ok.inj y z c (hcl y c h1) (hcl z c h2),λy h=>?_,λy c h=>?_,λ_=>I.ok.hd hc,I.ok.frames,.inl rfl,λb hb=>⟨?_,λy c h=>?_⟩,λb o h=>I.bs b o h,
  ZyO I.ok.bsz I.sz,λb o h hb=>?_,λb hb hs=>?_,I.stack,I.stkFree⟩
 ·have h':(relabel scope X.env).names.lookup y=some .cell\/(relabel scope X.env).names.lookup y=some .free:=h
  have hm:(y,ZAa)∈scope.names:=by
   rcases h' with h' | h'
   ·rcases ZbD h' with q | ⟨_,q⟩
    ·exact absurd rfl (T.cell _ (lookup_mem q))
    ·exact lookup_mem q
   ·rcases ZbD h' with q | ⟨e,_⟩
    ·exact lookup_mem q
    ·cases e
  exact ZyL.mp (hfr _ hm rfl)
 ·exact absurd h (by show ¬false=true; simp)
 ·exact Zyp (Zyv (hfl b hb) hC)
 ·obtain⟨_,_,_,_,q,_⟩:=hf b hb
  exact q y c (hcl y c h)
 ·obtain⟨_,_,_,q,_⟩:=hf b hb
  rcases q with q | q
  ·exact I.ok.noex b o h q
  ·exact absurd (Zyv (Zyh h) (ZyO I.ok.bsz q)) (ZzM _)
 ·obtain⟨_,q1,q2,_⟩:=hf b hb
  rcases Zyo.mp (I.stkSub b hs)with z | z
  ·exact q1 z
  ·exact q2 z
theorem Zn4{pins:List (Addr × Obj)}{σ:L2.St}{H:Hp}{s:Shared}{fp:List Addr}{D:Addr}{h1:Heap}{tk:Nat}(T:ZdC X N scope fr)(hcl:∀y c,cl.lookup y=some c->X.env.cells.lookup y=some c)(hfr:∀y∈scope.names,y.2=.free->(cl.lookup y.1).isSome=true)
  (I:Inv X pins σ H s) (hc:X.calm=true) (hf:∀b∈fp,Zgd X pins H b) (hfl:∀b∈fp,b<s.heap.objs.size) (hD:s.heap.objs.size=D) (hC:D<C) (ns:h1.Ns C (λ_=>none)) (hl:h1.get? D=some { cls:=.type "list",data:=.seq #[] 0 })
  (k:∀b o,s.heap.get? b=some o->h1.get? b=some o):Inv (ZT X N scope cl C s H fp) [] (ZyA fr.length none++σ) (upd H D (.lst [])) { s with heap:=h1,toks:=tk }:=by
 have hn:H D=none:=I.hok.fresh (ZBq hD);have hDC:s.heap.objs.size<=C:=ZyO (ZBq hD) (ZzS hC);have hCn:H C=none:=I.hok.fresh hDC;refine⟨Zui T hcl hfr I hc hf hfl hDC,rfl,I.bare,Un.laid k (ZBq hD) hn,⟨_,ns,λi y v e1 e2 e3=>?_⟩,λy c h=>?_,?_,λy c h=>?_,λp hp=>absurd (show p∈([]:List (Addr × Obj)) from hp) (by simp),I.hok.laid k (ZBq hD) ⟨Zzr _,[],0,.nil,hl⟩,?_⟩
 ·have hge:fr.length<=i:=by
   apply ZAG;intro hlt;rw[ZyB (by rw[ZyP]; exact hlt),ZAq,if_pos hlt]at e2;cases e2
  rw[ZyM (by rw[ZyP]; exact hge),ZyP]at e2;obtain⟨j,rfl⟩:∃j,i=j+fr.length:=⟨i-fr.length,by omega⟩;rw[Nat.add_sub_cancel]at e2
  ·have e3':Vis scope y:=by
    have e3:Vis (relabel scope X.env) y:=e3;rcases e3 with q | q | q
    ·rcases ZbD q with q | ⟨z,_⟩
     ·exact .inl q
     ·cases z
    ·rcases ZbD q with q | ⟨_,q⟩
     ·exact .inr (.inl q)
     ·exact .inr (.inr q)
    ·rcases ZbD q with q | ⟨z,_⟩
     ·exact .inr (.inr q)
     ·cases z
   have hfree:=T.vis j y e1 e3';have hm:=lookup_mem hfree;have hN:=T.same j y e1 hfree;have hcap:=T.cap _ hm rfl;obtain⟨m,_,hl⟩:=I.loc;obtain⟨u,ru,lu⟩:=hl j y v hN e2 (by
    rcases hcap with q | q
    ·exact .inr (.inl q)
    ·exact .inr (.inr q))
   refine⟨u,ru,?_⟩;obtain⟨c,hcc⟩:=ZyL.mp (hfr _ hm rfl);rcases lu with⟨q,_⟩ | ⟨_,c',e,z⟩
   ·rcases hcap with q' | q'<;>(rw[q']at q; cases q)
   ·refine .inr ⟨?_,c,hcc,?_⟩
    ·rcases e3 with q | q | q
     ·have q:(relabel scope X.env).names.lookup y=some .local:=q
      rcases ZbD q with q | ⟨z,_⟩
      ·rw[hfree]at q; cases q
      ·cases z
     ·exact .inl q
     ·exact .inr q
    ·rw[hcl y c hcc]at e
     cases e;obtain⟨o,ho,hd⟩:=z;exact⟨o,k _ _ ho,hd⟩
 ·obtain⟨v,o,ho,hd⟩:=I.cell y c (hcl y c h)
  exact⟨v,o,k _ _ ho,hd⟩
 ·show upd H D (.lst []) C=none
  rw[ZB (ZAO hC)];exact hCn
 ·have hq:=I.freeC y c (hcl y c h)
  obtain⟨v,o,ho,_⟩:=I.cell y c (hcl y c h);have:c≠D:=Zyp (by rw[<-hD]; exact Zyh ho);rw[ZB this];exact hq
 ·show(ZyA fr.length none++σ).length=N.length
  rw[Zyl,ZyP,I.len,T.len,Nat.add_comm]
def XTs(Y:Cx)(ifs:List Expr)(f:HM.TF):Prop:=∀r c,f r=some c->∀(pins:List (Addr × Obj)) (s:Shared) (σ:L2.St) (H:Hp) (Q:Bool->Hp->Prop),Inv Y pins σ H s->(Now Y.K r σ H λF0 H0 F=>∀F' H',Ext F H F' H'->Q c H') ->
 wpAny (model Y.prog Y.w) Y.A (Zp5 ifs Y.env) (TP Y pins σ Q) Y.xe s
theorem Zbz{Y:Cx}:XTs Y [] HM.Zaj:=by intro r c h pins s σ H Q I ⟨F0,H0,F,at_,k⟩;cases h;exact wpAny_tests_nil ⟨H,I,k F H at_.refl⟩
theorem Zb2{Y:Cx}{e:Expr}{f:HM.TF}(h:XT Y e f):XTs Y [e] f:=λr c hc pins s σ H Q I q=>wpAny_tests_one (h r c hc pins s σ H Q I q)
def ItE(K:Zx0)(J:It)(ds:List PyData)(F:Hp):Prop:=∀F' H,Zq F F'->Zq F' H ->
 (∀(i:Nat) (d:PyData),ds[i]?=some d->J.go i H/\∀x H',J.yld i H x H'->∃F2,Ext (ZcH F' H) H F2 H'/\Rep K F2 d x)/\J.stop ds.length H
theorem ItD.e{K:Zx0}{J:It}{ds:List PyData}{F:Hp}(h:ItD K J ds F):ItE K J ds F:=λF' H s1 s2=>by obtain⟨a,b⟩:=h F' H s1 s2;refine⟨λi d hd=>⟨(a i d hd).1,λx H' hy=>?_⟩,b⟩;obtain⟨e,r⟩:=(a i d hd).2 x H' hy;subst e;exact⟨_,.refl (Ext.refl s2).tups.sub,r⟩
def XIE(X:Cx)(tg e:Expr)(f:HM.IF):Prop:=∀r ds,f r=some ds->PI X tg e λσ H R=>Now X.K r σ H λF0 H0 F=>∀J F' H',Ext F H F' H'->ItE X.K J ds F'->R J H'
theorem XI.e{X:Cx}{tg e:Expr}{f:HM.IF}(h:XI X tg e f):XIE X tg e f:=λr ds hr pins s σ H R I ⟨F0,H0,F,at_,k⟩=>h r ds hr pins s σ H R I ⟨F0,H0,F,at_,λJ F' H' x q=>k J F' H' x q.e⟩
theorem ZoB{pins:List (Addr × Obj)}{σ:L2.St}{H1:Hp}{s2:Shared}{fp:List Addr}{it D:Addr}{tn:Nat->Heap->Prop}{J:It}{elt iter:Expr}{ifs:List Expr}{tg:Expr}{pos:Pos}{dec:PyData->Option (List PyData)}{fc:HM.TF}{fe:HM.EF}{s4:Shared}{r:HM.Env}{ds out:List PyData}{Fs Hs F0 H0 F1:Hp}
  {R:Result->Shared->Prop} (T:ZdC X N scope fr) (I2:Inv X pins σ H1 s2) (W:Turn X.prog X.w X.K tg J fp it tn) (hf:∀b∈fp,Zgd X pins H1 b)
  (I4:Inv (ZT X N scope cl C s2 H1 fp) [] (ZyA fr.length none++σ) (upd H1 D (.lst [])) s4) (tn0:tn 0 s4.heap) (hD:s2.heap.objs.size<=D) (hfl:∀b∈fp,b<s2.heap.objs.size) (hbl:X.calm=true)
  (hc:XTs (ZT X N scope cl C s2 H1 fp) ifs fc) (he:XE (ZT X N scope cl C s2 H1 fp) elt fe) (at_:At X.K F0 H0 Fs Hs r σ) (x1:Ext Fs Hs F1 H1) (itd:ItE X.K J ds F1) (hbind:ZiA (ZT X N scope cl C s2 H1 fp) fr.length tg dec) (hbig:ds.length<HM.big) (go:goG dec fc fe r ds=some out)
  (hR:∀s',(∃F H vs,Inv (ZT X N scope cl C s2 H1 fp) [] (ZyA fr.length none++σ) H s'/\Ext Fs Hs F H/\H D=some (.lst vs)/\F D=none/\Zv X.K F out vs)->R (.ok .next) s') :
  codeAny (model X.prog X.w) X.A (.compLoop (.ListComp elt [⟨tg,iter,ifs,0⟩] scope pos) 0 (.ref it) (.ref D) (compEnvC scope cl C X.env)) R s4:=by
 have hH1D:H1 D=none:=I2.hok.fresh hD;have hHsD:Hs D=none:=x1.hh.free hH1D;have hF1D:F1 D=none:=x1.sub.free hH1D;have hfpD:∀b∈fp,b≠D:=λb hb=>Zyp (Zyv (hfl b hb) hD);have okY:=I4.ok;have stat:∀{H:Hp},(∀b∈fp,H b=none)->∀b∈fp,Zgd (ZT X N scope cl C s2 H1 fp) [] H b:=λhn b hb=>⟨hn b hb,(okY.exf b hb).1,okY.exfs b hb,.inl hb,(okY.exf b hb).2,λp hp=>absurd (show p∈([]:List (Addr × Obj)) from hp) (by simp)⟩;refine Zr9 (λn s'=>∃(j:Nat) (sv:List (Option V)) (F H:Hp) (ys:List PyData) (vs:List V) (rest:List PyData),sv.length=fr.length/\Inv (ZT X N scope cl C s2 H1 fp) [] (sv++σ) H s'/\tn j s'.heap/\(∀b∈fp,H b=none)/\Ext Fs Hs F H/\Zq F1 F/\At X.K F0 H0 F H r σ /\
  H D=some (.lst vs)/\F D=none/\Zv X.K F ys vs/\j+n=ds.length/\ys.length<=j/\goG dec fc fe r (ds.drop j)=some rest/\out=ys++rest) ?_ ds.length
  ⟨0,ZyA fr.length none,F1,_,[],[],out,ZyP,I4,tn0,λb hb=>by rw[ZB (hfpD b hb)]; exact(hf b hb).1,x1.lay' hH1D,Zq.refl _,(at_.grow x1).grow ((at_.grow x1).refl.lay' hH1D),ZE,hF1D,.nil,by omega,Zyb _,go,rfl⟩
 rintro n s5 ⟨j,sv,F,H,ys,vs,rest,hsv,I5,tn5,hfp5,x5,sF,at5,hHD,hFD,rys,hjn,hyl,hgo,hout⟩
 obtain⟨it1,it2⟩:=itd F H sF at5.sub;cases n with
 | zero =>
  have ej:j=ds.length:=by omega
  subst ej;rw[List.drop_length]at hgo;cases hgo;rw[ZyJ]at hout;subst hout;refine thn (W.done (ZT X N scope cl C s2 H1 fp) rfl rfl rfl rfl _ [] s5 _ H No I5 (stat hfp5) tn5 it2) λrv s6 ⟨e,I6⟩=>?_;subst e;refine hR s6 ⟨F,H,vs,I6.weak (by rw[Zyl,Zyl,ZyP,hsv]) λi v hv=>?_,x5,hHD,hFD,rys⟩
  by_cases hi:i<fr.length
  ·rw[ZyB (by rw[ZyP]; exact hi),ZAq,if_pos hi]at hv
   cases hv
  ·rw[ZyM (by rw[ZyP]; omega),ZyP]at hv
   rw[ZyM (by omega),hsv];exact hv
 | succ n =>
  have hlt:j<ds.length:=by omega
  obtain⟨jg,jy⟩:=it1 j ds[j] (Zye hlt);obtain⟨F2,x5,sF,at5,hFD,rys,jy⟩:∃F2,Ext Fs Hs F2 H/\Zq F1 F2/\At X.K F0 H0 F2 H r σ/\F2 D=none/\Zv X.K F2 ys vs/\∀x H',J.yld j H x H'->∃F3,Ext F2 H F3 H'/\Rep X.K F3 ds[j] x :=
   ⟨ZcH F H,x5.tups,sF.trans (ZdD at5.sub),at5.grow at5.refl.tups,by unfold ZcH; rw[hHD]; exact hFD,rys.mono (ZdD at5.sub),jy⟩
  clear it1 it2
  rw[ZB1 hlt]at hgo;refine thn (W.item (ZT X N scope cl C s2 H1 fp) rfl rfl rfl rfl j [] s5 _ H No I5 (stat hfp5) tn5 jg) λrv s6 ⟨u,e,h6⟩=>?_;subst e;refine thn h6 λ_ s7 ⟨xv,H7,I7,r7,y7,tn7,fr7⟩=>?_;obtain⟨F7,x7,rx⟩:=jy xv H7 y7;obtain⟨F2,x5,sF,at5,hHD,hFD,rys,rx⟩:∃F2,Ext Fs Hs F2 H7/\Zq F1 F2/\At X.K F0 H0 F2 H7 r σ/\H7 D=some (.lst vs)/\F2 D=none/\Zv X.K F2 ys vs/\Rep X.K F2 ds[j] xv:=by
   refine⟨F7,x5.trans x7,sF.trans x7.ff,at5.grow x7,x7.hh _ _ hHD,?_,rys.mono x7.ff,rx⟩;cases q:F7 D with
   | none=>rfl
   | some o =>
    rcases x7.new D o q with z | z
    ·rw[hFD]at z; cases z
    ·exact(z.no hHD λ_ q=>by cases q).elim
  have I7':=I7.pinned (stat fr7) (W.obj _ _ tn7);unfold goG at hgo;split at hgo
  case h_2=>cases hgo
  rename_i zs hzs;have dok:=hbind _ s7 σ sv H7 F2 ds[j] zs xv u hsv I7' r7 at5.sub rx hzs;refine thn dok λ_ s8 ⟨ws,hws,I8,rws⟩=>?_;have atp:=at5.pushes rws;have again:∀{s9:Shared} {F9 H9:Hp} {zs9:List PyData} {ws9:List V} {rest':List PyData},Inv (ZT X N scope cl C s2 H1 fp) ([]++ZiN fp s7.heap) (ws.map some++σ) H9 s9->Ext Fs Hs F9 H9->Zq F2 F9->At X.K F0 H0 F9 H9 r σ->H9 D=some (.lst ws9)->F9 D=none->Zv X.K F9 zs9 ws9->zs9.length<=j+1->goG dec fc fe r (ds.drop (j+1))=some rest'->out=zs9++rest' ->
    ∃m,m<n+1/\∃(j:Nat) (sv:List (Option V)) (F2 H:Hp) (ys:List PyData) (vs:List V) (rest:List PyData),sv.length=fr.length/\Inv (ZT X N scope cl C s2 H1 fp) [] (sv++σ) H s9/\tn j s9.heap/\(∀b∈fp,H b=none)/\Ext Fs Hs F2 H/\Zq F1 F2/\At X.K F0 H0 F2 H r σ /\
     H D=some (.lst vs)/\F2 D=none/\Zv X.K F2 ys vs/\j+m=ds.length/\ys.length<=j/\goG dec fc fe r (ds.drop j)=some rest/\out=ys++rest:=by
   intro s9 F9 H9 zs9 ws9 rest' I9 x9 s9F a9 h9 f9 r9 l9 g9 o9;refine⟨n,ZAi n,j+1,ws.map some,F9,H9,zs9,ws9,rest',by rw[Zx1]; exact hws,I9.unpinned,W.keep _ _ _ tn7 λb hb o e=>(I9.pin (b,o) (Zyw _ (Zyw _ (ZfE hb e)))).1,λb hb=>?_,x9,sF.trans s9F,a9,h9,f9,r9,by omega,l9,g9,o9⟩;obtain⟨o,e,d⟩:=W.obj _ _ tn7 b hb;exact(I9.pin (b,o) (Zyw _ (Zyw _ (ZfE hb e)))).2.1
  have noD:∀{F' H':Hp},Ext F2 H7 F' H'->F' D=none:=λ{F' H'} y=>by
   cases q:F' D with
   | none=>rfl
   | some o =>
    rcases y.new D o q with z | z
    ·rw[hFD]at z; cases z
    ·exact(z.no hHD λ_ q=>by cases q).elim
  split at hgo
  ·rename_i hcv
   split at hgo
   ·rename_i y hy
    obtain⟨rest',g1,g2⟩:=Zx2.mp hgo;subst g2;refine thn (hc _ _ hcv _ s8 _ H7 (λc' H'=>c'=true/\∃F',Ext F2 H7 F' H') I8 ⟨F0,H0,F2,atp,λF' H' y=>⟨rfl,F',y⟩⟩) λok s9 ⟨H9,I9,eok,F9,x9⟩=>?_;subst eok;rw[if_pos rfl];refine thn (he _ _ hy _ s9 _ H9 (λv' H'=>∃F',Ext F9 H9 F' H'/\Rep X.K F' y v') I9 ⟨F0,H0,F9,atp.grow x9,λv' F' H' x q=>⟨F',x,q⟩⟩) λu' s10 ⟨v',H10,I10,r10,F10,x10,q10⟩=>?_;have x910:=x9.trans x10;have hHD':H10 D=some (.lst vs):=x910.hh _ _ hHD;have hFD':=noD x910;refine thn (Zgz (X:=ZT X N scope cl C s2 H1 fp) _ s10 _ H10 (.ref D) [v'] (.ref D) [u'] (λ_ H'=>H'=upd H10 D (.lst (vs++[v']))) I10 rfl (.cons r10 .nil) ⟨D,vs,v',rfl,rfl,hHD',?_,rfl⟩) λ_ s11 ⟨_,H11,I11,_,e11⟩=>?_
    ·have:=rys.1
     exact ZeN (by omega)
    subst e11;refine again (zs9:=ys++[y]) I11 ((x5.trans x910).chg _ hHsD hFD' λu z=>by rw[hHD']at z; cases z; rfl) x910.ff ((at5.grow x910).chgNew _ at_ (x5.trans x910).hh hHsD hFD' λu z=>by rw[hHD']at z; cases z; rfl) ZE hFD' ((rys.mono x910.ff).append (.one q10)) (by rw[Zyl]; show ys.length+1<=j+1; omega) g1 (by rw[hout,Zzh]; rfl)
   ·cases hgo
  ·rename_i hcv
   refine thn (hc _ _ hcv _ s8 _ H7 (λc' H'=>c'=false/\∃F',Ext F2 H7 F' H') I8 ⟨F0,H0,F2,atp,λF' H' y=>⟨rfl,F',y⟩⟩) λok s9 ⟨H9,I9,eok,F9,x9⟩=>?_;subst eok;rw[if_neg (by simp)];exact again (zs9:=ys) I9 (x5.trans x9) x9.ff (at5.grow x9) (x9.hh _ _ hHD) (noD x9) (rys.mono x9.ff) (by omega) hgo hout
  ·cases hgo
theorem ZnV{pins:List (Addr × Obj)}{σ:L2.St}{H1 H:Hp}{s2 s':Shared}{fp:List Addr}{sv:List (Option V)}{h':Heap}(I2:Inv X pins σ H1 s2)(hf:∀b∈fp,Zgd X pins H1 b)(hC:s2.heap.objs.size<=C)
  (I:Inv (ZT X N scope cl C s2 H1 fp) [] (sv++σ) H s') (hs:ZzT C s'.heap h'):Inv X pins σ H { s' with heap:=h' }:=by
 have u:Un (frs X.stack) fp H1 H s2.heap s'.heap:=I.base;have hCn:H C=none:=I.free;have ne:∀b o,s2.heap.get? b=some o->b≠C:=λb o e=>Zyp (Zyv (Zyh e) hC);refine I2.call' (s':={ s' with heap:=h' }) (ch:=fp) I.os ⟨λb o e n hb hx=>(hs.2 b (ne b o e)).trans (u.keep b o e n hb hx),λb o e n hb hx=>?_,u.free,λb o e hx=>?_,u.tups,u.frzs,u.tbls⟩ (λb o e=>?_) I.bare λb hb=>?_
 ·obtain⟨sl,q⟩:=u.slot b o e n hb hx
  exact⟨sl,(hs.2 b (ne b o e)).trans q⟩
 ·obtain⟨o',q⟩:=u.there b o e hx
  exact⟨o',(hs.2 b (ne b o e)).trans q⟩
 ·refine(I.hok b o e).stay (λc w' hc q=>(hs.2 c ?_).trans q) (λ_ q=>q) λ_ _ q=>q
  rintro rfl
  rcases hc with rfl | hc
  ·rw[hCn]at e; cases e
  ·rw[hCn]at hc; cases hc
 ·obtain⟨q0,q1,q2,q3,q4,q5⟩:=hf b hb
  exact⟨q3,q1,q4,q5⟩
variable{elt iter:Expr}{ifs:List Expr}{tg:Expr}{pos:Pos}{fi:HM.IF}{dec:PyData->Option (List PyData)}{fc:HM.TF}{fe:HM.EF}
theorem ZnR{pins:List (Addr × Obj)}{σ:L2.St}{H:Hp}{s:Shared}(T:ZdC X N scope fr)(I:Inv X pins σ H s):∀y∈scope.names,y.2=.free->∃c,X.env.cells.lookup y.1=some c:=λy hy e=>I.ok.has y.1 (T.cap y hy e)
theorem ZmS(hxe:X.xe=λ_ _=>False)(hcalm:X.calm=true)(T:ZdC X N scope fr)(hbind:∀cl C s H ex,ZiA (ZT X N scope cl C s H ex) fr.length tg dec)(hi:XIE X tg iter fi)(hc:∀cl C s H ex,XTs (ZT X N scope cl C s H ex) ifs fc)(he:∀cl C s H ex,XE (ZT X N scope cl C s H ex) elt fe)
  (hs:∀x,ZzI iter X.env x=pure x:=by intro _; rfl):XF X (.ListComp elt [⟨tg,iter,ifs,0⟩] scope pos) (Zfc dec fi fc fe):=by
 intro r b h;unfold Zfc at h;split at h
 ·rename_i ds hds
  split at h
  ·rename_i hbig
   obtain⟨out,hgo,e⟩:=Zx2.mp h;subst e;intro pins s σ H Q I ⟨F0,H0,F,at_,k⟩;obtain⟨cl,hclos,hcl,hfr⟩:=Zfq (ZnR T I);rw[eval_ListComp];refine wpAny_comprehension_free (use:=none) rfl hs hclos T.kind T.names (thn (hi r ds hds pins s σ H (λJ H'=>∃F',Ext F H F' H'/\ItE X.K J ds F') I ⟨F0,H0,F,at_,λJ F' H' x q=>⟨F',x,q⟩⟩) λv s1 h1=>thn h1 λitv s2 h2=>?_);obtain⟨it,fp,tn,J,H1,rfl,I2,W,st2,f2,F1,x1,itd⟩:=h2;have hfl:∀b∈fp,b<s2.heap.objs.size:=λb hb=>let ⟨o,ho,_⟩:=W.obj 0 _ st2 b hb; Zyh ho
   refine Zy0 (ZBr T.cell (by intro y hy; simp at hy) (λh1 hns hsb=>?_) T.kind);dsimp only at hns hsb ⊢;generalize hP:s2.heap.push { cls:=.type "list",dict:=none,data:=.seq ([]:List Value).toArray }=h0 at hns hsb ⊢;have hsz:h0.objs.size=s2.heap.objs.size+1:=by rw[<-hP,ZAC]
   have hDC:s2.heap.objs.size<h0.objs.size:=by rw[hsz]; exact ZAi _
   have old:∀b o,s2.heap.get? b=some o->h1.get? b=some o:=λb o e=>hsb.extBut b o (Zyp (ZzV (Zyh e) hDC)) (Zx7 _ (by rw[<-hP]; exact Zx7 _ e));have hl:h1.get? s2.heap.objs.size=some { cls:=.type "list",data:=.seq #[] 0 }:=hsb.extBut _ _ (Zyp hDC) (Zx7 _ (by rw[<-hP]; exact Zyi _ rfl));have I4:Inv (ZT X N scope cl h0.objs.size s2 H1 fp) [] (ZyA fr.length none++σ) (upd H1 s2.heap.objs.size (.lst [])) { s2 with heap:=h1,toks:=s2.toks+([]:List (Str × Value)).length }:=Zn4 T hcl hfr I2 hcalm f2 hfl rfl hDC hns hl old;have tn1:tn 0 h1:=W.keep _ _ _ st2 λb _ o e=>old b o e;have hHsD:H s2.heap.objs.size=none:=x1.hh.free (I2.hok.fresh (Zyb _));have loop:codeAny (model X.prog X.w) X.A (.compLoop (.ListComp elt [⟨tg,iter,ifs,0⟩] scope pos) 0 (.ref it) (.ref s2.heap.objs.size) (compEnvC scope cl h0.objs.size X.env)) (compPost (model X.prog X.w) X.A X.xe none (EP X pins σ Q) (.ref s2.heap.objs.size) h0.objs.size)
     { s2 with heap:=h1,toks:=s2.toks+([]:List (Str × Value)).length }:=by
    refine ZoB T I2 W f2 I4 tn1 (Zyb _) hfl hcalm (hc _ _ _ _ _) (he _ _ _ _ _) at_ x1 itd (hbind _ _ _ _ _) hbig hgo λs' ⟨F',H',vs,I',x',hD',hFD',rs⟩=>?_;obtain⟨m,hn,_⟩:=id I'.loc;refine⟨m,hn,λh2 hs2=>⟨.ref s2.heap.objs.size,H',ZnV I2 f2 (ZzS hDC) I' hs2,rfl,k _ F' H' x' ⟨[s2.heap.objs.size],.ol hD' rs,by simp,λa ha=>?_⟩⟩⟩;obtain rfl:a=s2.heap.objs.size:=by simpa using ha
    exact⟨hFD',hHsD⟩
   exact codeAny_compStart_list loop (W.self _ 0 _ _ _ tn1 loop)
  ·cases h
 ·cases h
theorem Zjy(i:Nat){y:Str}{py spos:Pos}(hN:X.N.Nodup)(hxe:X.xe=λ_ _=>False)(hcalm:X.calm=true)(T:ZdC X N scope fr)(hbind:∀cl C s H ex,ZiA (ZT X N scope cl C s H ex) fr.length tg dec)(hi:XIE X tg iter fi)(hc:∀cl C s H ex,XTs (ZT X N scope cl C s H ex) ifs fc)(he:∀cl C s H ex,XE (ZT X N scope cl C s H ex) elt fe)
  (hiy:X.N[i]?=some y:=by rfl) (hy:X.env.scope.names.lookup y=some .local:=by rfl) (hsw:Zz3 (.ListComp elt [⟨tg,iter,ifs,0⟩] scope pos) (some (.Name y py)) spos.line X.env=pure true:=by rfl)
  (hs:∀x,ZzI iter X.env x=pure x:=by intro _; rfl):XS X (.Assign [.Name y py] (.ListComp elt [⟨tg,iter,ifs,0⟩] scope pos) spos) (HM.ZQ i (Zfc dec fi fc fe)):=by
 intro r o h;obtain⟨b,hb,e⟩:=Zx2.mp h;subst e;unfold Zfc at hb;split at hb
 ·rename_i ds hds
  split at hb
  ·rename_i hbig
   obtain⟨out,hgo,e⟩:=Zx2.mp hb;subst e;intro pins s σ H E I ⟨F0,H0,F,at_,k⟩;obtain⟨cl,hclos,hcl,hfr⟩:=Zfq (ZnR T I);rw[exec_Assign_Name_used _ _ _ _ hsw];refine ZxZ (wpAny_standAt (ZxZ ?_));show wpAny _ X.A (do let _ <-comprehension (.ListComp elt [⟨tg,iter,ifs,0⟩] scope pos) scope X.env _ (newList []) false (eval iter X.env) (some (assign (.Name y py) X.env))) _ _ s;refine ZxZ (Zzg (wpAny_comprehension_free (use:=some (assign (.Name y py) X.env)) (Q:=λ_ s'=>SP X pins E .next s') rfl hs hclos T.kind T.names (thn (hi r ds hds pins s σ H (λJ H'=>∃F',Ext F H F' H'/\ItE X.K J ds F') I ⟨F0,H0,F,at_,λJ F' H' x q=>⟨F',x,q⟩⟩) λv s1 h1=>thn h1 λitv s2 h2=>?_)) (λ_ s' hq=>Zx5 (Zx5 hq)) λ_ _ e=>e)
   obtain⟨it,fp,tn,J,H1,rfl,I2,W,st2,f2,F1,x1,itd⟩:=h2;have hfl:∀b∈fp,b<s2.heap.objs.size:=λb hb=>let ⟨o,ho,_⟩:=W.obj 0 _ st2 b hb; Zyh ho
   refine Zy0 (ZBr T.cell (by intro y hy; simp at hy) (λh1 hns hsb=>?_) T.kind);dsimp only at hns hsb ⊢;generalize hP:s2.heap.push { cls:=.type "list",dict:=none,data:=.seq ([]:List Value).toArray }=h0 at hns hsb ⊢;have hsz:h0.objs.size=s2.heap.objs.size+1:=by rw[<-hP,ZAC]
   have hDC:s2.heap.objs.size<h0.objs.size:=by rw[hsz]; exact ZAi _
   have old:∀b o,s2.heap.get? b=some o->h1.get? b=some o:=λb o e=>hsb.extBut b o (Zyp (ZzV (Zyh e) hDC)) (Zx7 _ (by rw[<-hP]; exact Zx7 _ e));have hl:h1.get? s2.heap.objs.size=some { cls:=.type "list",data:=.seq #[] 0 }:=hsb.extBut _ _ (Zyp hDC) (Zx7 _ (by rw[<-hP]; exact Zyi _ rfl));have I4:Inv (ZT X N scope cl h0.objs.size s2 H1 fp) [] (ZyA fr.length none++σ) (upd H1 s2.heap.objs.size (.lst [])) { s2 with heap:=h1,toks:=s2.toks+([]:List (Str × Value)).length }:=Zn4 T hcl hfr I2 hcalm f2 hfl rfl hDC hns hl old;have tn1:tn 0 h1:=W.keep _ _ _ st2 λb _ o e=>old b o e;have hHsD:H s2.heap.objs.size=none:=x1.hh.free (I2.hok.fresh (Zyb _));have loop:codeAny (model X.prog X.w) X.A (.compLoop (.ListComp elt [⟨tg,iter,ifs,0⟩] scope pos) 0 (.ref it) (.ref s2.heap.objs.size) (compEnvC scope cl h0.objs.size X.env)) (compPost (model X.prog X.w) X.A X.xe (some (assign (.Name y py) X.env)) (λ_ s'=>SP X pins E .next s') (.ref s2.heap.objs.size) h0.objs.size)
     { s2 with heap:=h1,toks:=s2.toks+([]:List (Str × Value)).length }:=by
    refine ZoB T I2 W f2 I4 tn1 (Zyb _) hfl hcalm (hc _ _ _ _ _) (he _ _ _ _ _) at_ x1 itd (hbind _ _ _ _ _) hbig hgo λs' ⟨F',H',vs,I',x',hD',hFD',rs⟩=>?_;obtain⟨m,hn,_⟩:=id I'.loc;have IX:Inv X pins σ H' s':=ZnV (h':=s'.heap) I2 f2 (ZzS hDC) I' (ZCQ _ _);have hCn:H' h0.objs.size=none:=I'.free;have neL:h0.objs.size≠X.env.locals:=ZAO (ZzV I2.lt hDC);have neC:∀z c,X.env.cells.lookup z=some c->c≠h0.objs.size:=λz c hz=>by obtain⟨v,o,ho,_⟩:=I2.cell z c hz;exact Zyp (ZzV (Zyh ho) hDC)
    have neP:∀p∈X.pn++pins,p.1≠h0.objs.size:=λp hp=>Zyp (ZzV (Zyh (I2.pin p hp).1) hDC);show wpAny _ X.A (assign (.Name y py) X.env (.ref s2.heap.objs.size)) _ _ _;refine wpAny_assign_Name (ZlH IX hN hiy (.inl hy) (v:=.ref s2.heap.objs.size) rfl (λs3 I3 hsa=>?_) (.inr hy));obtain⟨a,sa,ea⟩:=hsa;have neA:h0.objs.size≠a:=by
     rcases ea with e | e
     ·rw[e]; exact neL
     ·exact Zy1 (neC _ _ e)
    refine⟨m,hn.sameBut sa neA,λh2 hs2=>?_⟩;refine⟨_,H',I3.turned (t':=s3.toks) (it:=h0.objs.size) (λb o hb e=>(hs2.2 b hb).trans e) hCn neL (.inr (ZyO I2.sz (ZzS hDC))) neC neP,k _ F' H' ((at_.grow x').storeNew at_ x'.hh (fp':=[s2.heap.objs.size]) (.ol hD' rs) (by simp) λa ha=>?_)⟩;obtain rfl:a=s2.heap.objs.size:=by simpa using ha
    exact⟨hFD',hHsD⟩
   exact codeAny_compStart_list loop (W.self _ 0 _ _ _ tn1 loop)
  ·cases hb
 ·cases hb
end
end HP
namespace HP
open PySem PySem.Spec PyProof.Rows L2
variable[FX]
def ZtB(d:PyData):Option (List PyData):=some [d]
def Zly:PyData->Option (List PyData)
 | .tuple [x,y]=>some [x,y]
 | _=>none
theorem Zwd(c:HM.TF)(e:HM.EF)(r:HM.Env):∀xs,HM.Zay c e r xs=goG ZtB c e r xs
 | []=>rfl
 | x::xs=>by unfold HM.Zay goG;rw[Zwd c e r xs];rfl
theorem Zww(c:HM.TF)(e:HM.EF)(r:HM.Env):∀xs,HM.Zda c e r xs=goG Zly c e r xs
 | []=>rfl
 | x::xs=>by
  have ih:=Zww c e r xs;unfold HM.Zda goG;split
  ·rename_i h; cases h
  ·rename_i a b q h
   cases h;rw[ih];rfl
  ·rename_i h1
   have hn:Zly x=none:=by
    unfold Zly;split
    ·exact(h1 _ _ _ rfl).elim
    ·rfl
   rw[hn]
theorem Zqa(i:HM.IF)(c:HM.TF)(e:HM.EF):HM.ZM i c e=Zfc ZtB i c e:=by
 funext r
 unfold HM.ZM Zfc;cases i r with
 | none=>rfl
 | some xs=>dsimp only; rw[Zwd]
theorem Zp6(i:HM.IF)(c:HM.TF)(e:HM.EF):HM.ZeD i c e=Zfc Zly i c e:=by
 funext r
 unfold HM.ZeD Zfc;cases i r with
 | none=>rfl
 | some xs=>dsimp only; rw[Zww]
theorem Ztn{K:Zx0}{F:Hp}{d1 d2:PyData}{v:V}(h:Rep K F (.tuple [d1,d2]) v):∃a v1 v2,v=.ref a/\F a=some (.tup [v1,v2])/\Rep K F d1 v1/\Rep K F d2 v2:=by
 cases h with
 | @tup a ds vs h1 h2 h3 =>
  cases vs with
  | nil=>simp at h2
  | cons v1 vs=>cases vs with
   | nil=>simp at h2
   | cons v2 vs=>cases vs with
    | nil=>exact⟨a,v1,v2,rfl,h1,h3 0 _ _ rfl rfl,h3 1 _ _ rfl rfl⟩
    | cons _ _=>simp at h2
section
variable{X:Cx}{N:List Str}{scope:Scope}{x x2:Str}{px px2 pt:Pos}{kt:Nat}
theorem Zss(T:ZdC X N scope [x])(cl:List (Str × Addr))(C:Addr)(s₀:Shared)(H₀:Hp)(ex:List Addr):ZiA (ZT X N scope cl C s₀ H₀ ex) 1 (.Name x px) ZtB:=by
 intro pins s σ sv H F d ys xv u hsv I r sub q hd;cases hd;have hx:=T.loc x (Zym.mpr rfl);refine thn (Zjf (X:=ZT X N scope cl C s₀ H₀ ex) (i:=0) T.nd (T.first 0 x rfl) (.inl (ZzW hx)) (.inr (ZzW hx)) _ s _ H xv u (λσ' H'=>σ'=(sv++σ).set 0 (some xv)/\H'=H) I r ⟨rfl,rfl⟩) λ_ s' ⟨σ',H',I',e1,e2⟩=>?_
 subst e1 e2;refine⟨[xv],rfl,?_,.one q⟩;cases sv with
 | nil=>simp at hsv
 | cons a sv=>cases sv with
  | nil=>exact I'
  | cons _ _=>simp at hsv
theorem Zst(T:ZdC X N scope [x,x2])(cl:List (Str × Addr))(C:Addr)(s₀:Shared)(H₀:Hp)(ex:List Addr):ZiA (ZT X N scope cl C s₀ H₀ ex) 2 (.Tuple [.Name x px,.Name x2 px2] kt pt) Zly:=by
 intro pins s σ sv H F d ys xv u hsv I r sub q hd;have hx:=T.loc x (Zx3 ..);have hx2:=T.loc x2 (Zx4 _ (Zx3 ..));unfold Zly at hd;split at hd
 ·rename_i d1 d2
  cases hd;obtain⟨pa,v1,v2,e7,hpa,rx1,rx2⟩:=Ztn q;subst e7;refine thn (Zvt (X:=ZT X N scope cl C s₀ H₀ ex) (n:=2) rfl (ZnL (Zjf (X:=ZT X N scope cl C s₀ H₀ ex) (i:=0) T.nd (T.first 0 x rfl) (.inl (ZzW hx)) (.inr (ZzW hx))) (ZnL (Zjf (X:=ZT X N scope cl C s₀ H₀ ex) (i:=1) T.nd (T.first 1 x2 rfl) (.inl (ZzW hx2)) (.inr (ZzW hx2))) Zu6)) rfl rfl _ s _ H (.ref pa) u (λσ' H'=>σ'=((sv++σ).set 0 (some v1)).set 1 (some v2)/\H'=H) I r ⟨pa,[v1,v2],rfl,.of (sub _ _ hpa),rfl,v1,[v2],rfl,v2,[],rfl,rfl,rfl,rfl⟩) λ_ s' ⟨σ',H',I',e1,e2⟩=>?_
  subst e1 e2;refine⟨[v1,v2],rfl,?_,.cons rx1 (.one rx2)⟩;cases sv with
  | nil=>simp at hsv
  | cons a sv=>cases sv with
   | nil=>simp at hsv
   | cons b sv=>cases sv with
    | nil=>exact I'
    | cons _ _=>simp at hsv
 ·cases hd
def Zsy(kinds:Str->Option NameKind)(XN N:List Str)(names:List (Str × NameKind))(fr:List Str):Bool :=
 names.all (λy=>y.2 != .cell)&&names.all (λy=>y.2 != .local||names.lookup y.1==some .local)&&fr.all (λx=>names.lookup x==some .local)&&(Zx8 fr.length).all (λi=>N[i]?==fr[i]?)&&decide N.Nodup&&N.length==XN.length+fr.length &&
 names.all (λy=>y.2 != .free||kinds y.1==some .cell||kinds y.1==some .free) &&
 (Zx8 (N.length-fr.length)).all (λi=>match N[i+fr.length]? with
  | some y=>(names.lookup y != some .free||XN[i]?==some y)&&(names.lookup y==some .free||(names.lookup y != some .local&&names.lookup y != some .cell))
  | none=>true)
theorem ZG{X:Cx}{N XN:List Str}{scope sc:Scope}{fr:List Str}(hs:X.env.scope=sc:=by rfl)(hN:X.N=XN:=by rfl)(hk:scope.kind=.function:=by rfl)(h:Zsy (λy=>sc.names.lookup y) XN N scope.names fr=true:=by decide +kernel):ZdC X N scope fr:=by
 subst hN;unfold Zsy at h;simp only[Zyk,Zx9,ZzJ,bne_iff_ne,beq_iff_eq,decide_eq_true_eq]at h;obtain⟨⟨⟨⟨⟨⟨⟨h1,h2⟩,h3⟩,h4⟩,h5⟩,h6⟩,h7⟩,h8⟩:=h;have at_:∀(i:Nat) (y:Str),N[i+fr.length]?=some y->(scope.names.lookup y≠some .free\/X.N[i]?=some y)/\(scope.names.lookup y=some .free\/(scope.names.lookup y≠some .local/\scope.names.lookup y≠some .cell)):=λi y e=>by have hi:i+fr.length<N.length:=(Zyd.mp e).1;have:=h8 i (Zyq.mpr (by omega));rw[e]at this;simpa only[Zyk,ZzJ,bne_iff_ne,beq_iff_eq]using this
 refine⟨hk,h1,λy hy e=>(h2 y hy).resolve_left (λz=>z e),h3,λi x e=>?_,h5,h6,λy hy e=>?_,λi y e q=>(at_ i y e).1.resolve_left (λz=>z q),λi y e v=>?_⟩
 ·rw[h4 i (Zyq.mpr (Zyd.mp e).1)]
  exact e
 ·have:=h7 y hy
  rw[show X.env.kindOf y.1=sc.names.lookup y.1 by rw[<-hs]; rfl];rcases this with(z | z) | z
  ·exact absurd e z
  ·exact .inl z
  ·exact .inr z
 ·rcases(at_ i y e).2 with z | ⟨z1,z2⟩
  ·exact z
  ·rcases v with v | v | v
   ·exact absurd v z1
   ·exact absurd v z2
   ·exact v
variable{elt iter:Expr}{ifs:List Expr}{pos:Pos}{fi:HM.IF}{fc:HM.TF}{fe:HM.EF}
theorem Zaq(hxe:X.xe=λ_ _=>False)(hcalm:X.calm=true)(T:ZdC X N scope [x])(hi:XI X (.Name x px) iter fi)(hc:∀cl C s H ex,XTs (ZT X N scope cl C s H ex) ifs fc)(he:∀cl C s H ex,XE (ZT X N scope cl C s H ex) elt fe)
  (hs:∀x,ZzI iter X.env x=pure x:=by intro _; rfl):XF X (.ListComp elt [⟨.Name x px,iter,ifs,0⟩] scope pos) (HM.ZM fi fc fe):=by
 rw[Zqa];exact ZmS hxe hcalm T (Zss T) hi.e hc he hs
theorem ZmT(hxe:X.xe=λ_ _=>False)(hcalm:X.calm=true)(T:ZdC X N scope [x,x2])(hi:XI X (.Tuple [.Name x px,.Name x2 px2] kt pt) iter fi)(hc:∀cl C s H ex,XTs (ZT X N scope cl C s H ex) ifs fc)(he:∀cl C s H ex,XE (ZT X N scope cl C s H ex) elt fe)
  (hs:∀x,ZzI iter X.env x=pure x:=by intro _; rfl):XF X (.ListComp elt [⟨.Tuple [.Name x px,.Name x2 px2] kt pt,iter,ifs,0⟩] scope pos) (HM.ZeD fi fc fe):=by
 rw[Zp6];exact ZmS hxe hcalm T (Zst T) hi.e hc he hs
theorem Zee(i:Nat){y:Str}{py spos:Pos}(hN:X.N.Nodup)(hxe:X.xe=λ_ _=>False)(hcalm:X.calm=true)(T:ZdC X N scope [x])(hi:XI X (.Name x px) iter fi)(hc:∀cl C s H ex,XTs (ZT X N scope cl C s H ex) ifs fc)(he:∀cl C s H ex,XE (ZT X N scope cl C s H ex) elt fe)
  (hiy:X.N[i]?=some y:=by rfl) (hy:X.env.scope.names.lookup y=some .local:=by rfl) (hsw:Zz3 (.ListComp elt [⟨.Name x px,iter,ifs,0⟩] scope pos) (some (.Name y py)) spos.line X.env=pure true:=by rfl)
  (hs:∀x,ZzI iter X.env x=pure x:=by intro _; rfl):XS X (.Assign [.Name y py] (.ListComp elt [⟨.Name x px,iter,ifs,0⟩] scope pos) spos) (HM.ZQ i (HM.ZM fi fc fe)):=by
 rw[Zqa];exact Zjy i hN hxe hcalm T (Zss T) hi.e hc he hiy hy hsw hs
theorem Zjz(i:Nat){y:Str}{py spos:Pos}(hN:X.N.Nodup)(hxe:X.xe=λ_ _=>False)(hcalm:X.calm=true)(T:ZdC X N scope [x,x2])(hi:XI X (.Tuple [.Name x px,.Name x2 px2] kt pt) iter fi)(hc:∀cl C s H ex,XTs (ZT X N scope cl C s H ex) ifs fc)(he:∀cl C s H ex,XE (ZT X N scope cl C s H ex) elt fe)
  (hiy:X.N[i]?=some y:=by rfl) (hy:X.env.scope.names.lookup y=some .local:=by rfl) (hsw:Zz3 (.ListComp elt [⟨.Tuple [.Name x px,.Name x2 px2] kt pt,iter,ifs,0⟩] scope pos) (some (.Name y py)) spos.line X.env=pure true:=by rfl)
  (hs:∀x,ZzI iter X.env x=pure x:=by intro _; rfl):XS X (.Assign [.Name y py] (.ListComp elt [⟨.Tuple [.Name x px,.Name x2 px2] kt pt,iter,ifs,0⟩] scope pos) spos) (HM.ZQ i (HM.ZeD fi fc fe)):=by
 rw[Zp6];exact Zjy i hN hxe hcalm T (Zst T) hi.e hc he hiy hy hsw hs
end
end HP
namespace HP
open PySem PySem.Spec PyProof.Rows L2
variable[FX]
section
variable{prog:Program}{w:World}{K:Type}[DecidableEq K]{knd:HeapKind prog w K}{A:Around}{E:Value->Shared->Prop}{s:Shared}
theorem Zla{d a:Addr}{xs:List (K × Addr × Value)}{k:K}{v:Value}{Q:Value->Shared->Prop}(hu:knd.room A)(hkey:knd.is s.heap k a)(hm:s.heap.DictOfH knd d xs)(hsz:xs.length<=sizeLine)
  (h1:∀p,atKey xs k=some p->Q p.2 { s with toks:=s.toks+knd.draws k })
  (h2:atKey xs k=none->∀h',h'.DictOfH knd d (storedH xs k a v)->ZzT d s.heap h'->Q v { s with heap:=h',toks:=s.toks+knd.draws k }) :
  wpAny (model prog w) A (dictSetDefault d (.ref a) v) Q E s:=by
 obtain⟨o,es,ep,ho,hc,hd,he,his,hn⟩:=hm;unfold dictSetDefault
 try with_reducible refine Zzc ?_
 refine ZxZ (knd.pyHash hu hkey ?_);refine ZxZ (wpAny_dictFind_heap (s:={ s with toks:=s.toks+knd.draws k }) hu hkey ho hd he his hn ?_ ?_)
 ·intro hno
  have hnot:k ∉ xs.map (·.1):=not_mem_keys_of_get hno;have hnk:=atKey_none_of_get hno;refine ZxZ (wpAny_rule (ZxZ (wpAny_updateDictKeys (hz:=by have e:=size_of_entries he; omega) (s:={ s with toks:=s.toks+knd.draws k }) ho hd (Zx5 (h2 hnk _ ⟨_,_,ep+1,Zzb _ ho (Obj.isFreed_of_dict (Obj.data_mapDictKeys hd _)),
   hc.mapDictKeys _,Obj.data_mapDictKeys hd _,?_,?_,?_⟩ (Zza ..))))))
  ·rw[storedH_new hnk]
   simp[he,entryOfKey]
  ·rw[storedH_new hnk]
   intro x hx;rcases Zyy.mp hx with hx | hx
   ·exact knd.keeps (his x hx) ho hd (Zza ..)
   ·simp only[Zym]at hx
    subst hx;exact knd.keeps hkey ho hd (Zza ..)
  ·rw[storedH_new hnk]
   rw[ZyE,ZAe];refine⟨hn,by simp,?_⟩;intro x hx y hy;simp only[Zx6,ZzU,Zym]at hy;subst hy;exact λe=>hnot (e▸hx)
 ·intro j p hj
  refine ZxZ (ZA2 (s:={ s with toks:=s.toks+knd.draws k }) ho hd ?_);rw[entry_at he j,hj];exact ZxZ (wpAny_rule (Zx5 (h1 p (atKey_of_get hn hj))))
theorem Zjx(d a:Addr)(hd:(d==Zzy)=false)(dflt:Value) :
  MeetsIn prog w (Builtin.«dict.setdefault» ⟨[.ref d,.ref a,dflt],[]⟩) (λA R s=>knd.room A.in1/\∃k xs,knd.is s.heap k a/\s.heap.DictOfH knd d xs/\xs.length<=sizeLine /\
   (∀p,atKey xs k=some p->R (.ok (.ret p.2)) { s with toks:=s.toks+knd.draws k }) /\
   (atKey xs k=none->∀h',h'.DictOfH knd d (storedH xs k a dflt)->ZzT d s.heap h'->R (.ok (.ret dflt)) { s with heap:=h',toks:=s.toks+knd.draws k })) :=
 .of_wp λA R s ⟨hu,k,xs,hkey,hm,hz,h1,h2⟩=>by unfold Builtin.«dict.setdefault»;refine ZxZ ?_;unfold Builtin.Dict.keyAndDefault;refine ZxZ (wpAny_notOrdered_dict hm.typeIs ?_);show wpAny _ _ (pure (d,ZyZ a,some dflt)) _ _ s;refine Zx5 ?_;show wpAny _ _ (if(d==Zzy)=true then _ else(dictSetDefault d (.ref a) dflt >>= _)) _ _ s;rw[if_neg (by rw[hd]; exact ZyI)];exact ZxZ (Zla hu hkey hm hz (λp hp=>Zx5 ⟨p.2,rfl,h1 p hp⟩) λhn h' hm' hs'=>Zx5 ⟨dflt,rfl,h2 hn h' hm' hs'⟩)
end
section
variable{X:Cx}{pins:List (Addr × Obj)}{σ:L2.St}{H:Hp}{s:Shared}{a b:Addr}{z:V}{r:Value}{A:Around}{E:Value->Shared->Prop}{kvs:List (List Key × V)}{k:List Key}
theorem Zwh{Q:Value->Shared->Prop}(hu:A.units+1<cLine)(I:Inv X pins σ H s)(e:H a=some (.dT kvs))(eb:H b=some (.tup (k.map kV)))(hl:kvs.length<sizeLine)(rz:RelV z r)
  (h1:∀v,ZaN kvs k=some v->∀w' s',Inv X pins σ H s'->RelV v w'->Q w' s') (h2:ZaN kvs k=none->∀s',Inv X pins σ (upd H a (.dT (kvs++[(k,z)]))) s'->Q r s') :
  wpAny (model X.prog X.w) A (call (.builtin "dict.setdefault") [.ref a,.ref b,r]) Q E s:=by
 obtain⟨zz,hd,xs,rel,dd⟩:=Zt9 I.hok e;have hz:xs.length<=sizeLine:=by rw[<-ZAt rel]; exact zz
 have hv:=rel.val k;refine call_meetsIn ZBA dd.typeIs PySem.F.entry_dict_setdefault (PySem.F.args_dict_setdefault_3 _ _ _) (Zjx (knd:=ZBj (ZaG X.prog X.w)) a b hd r) ⟨ZAv hu,k,xs,Zhi I.hok eb,dd,hz,λp hp=>?_,λhn h' dd' hs=>?_⟩
 ·rw[hp]at hv
  cases hvv:ZaN kvs k with
  | none=>rw[hvv]at hv; exact hv.elim
  | some v=>rw[hvv]at hv; exact h1 v hvv _ _ (I.tok _) hv
 ·rw[hn]at hv
  have hvv:ZaN kvs k=none:=by
   cases hvv:ZaN kvs k with
   | none=>rfl
   | some v=>rw[hvv]at hv; exact hv.elim
  refine h2 hvv _ ?_;have hp:=rel.put k eb rz;have epk:putK kvs k z=kvs++[(k,z)]:=by unfold putK;rw[if_neg];rw[ZhQ,hvv];simp
  rw[epk]at hp;obtain⟨q,es,ep,hq,g2,g3,g4,_,g5⟩:=dd';refine Zi8 I (by rw[e]; exact ZAW) hs ⟨q,hq⟩ ⟨by rw[Zyl]; exact hl,hd,_,hp.keeps λc ys ec=>?_,q,es,ep,hq,g2,g3,g4,g5⟩;rw[ZB (Zt3 ec e (λz=>nomatch z))];exact ec
end
def ZxJ(td ty tx:TE):TE:=λσ H Q=>td σ H λx H1=>∃a,x=.ref a/\IsD H1 a/\ty σ H1 λy H2=>tx σ H2 λz H3=>∃kvs k b,H3 a=some (.dT kvs)/\y=.ref b/\H3 b=some (.tup (k.map kV))/\kvs.length<sizeLine /\
 (∀v,ZaN kvs k=some v->Q v H3)/\(ZaN kvs k=none->Q z (upd H3 a (.dT (kvs++[(k,z)]))))
section
variable{X:Cx}{o e f:Expr}{apos cpos:Pos}{td ty tx:TE}
theorem ZvA(hu:X.A.units+1<cLine)(ho:PE X o td)(he:PE X e ty)(hf:PE X f tx)(m:M2 X o "setdefault" apos e f cpos):PE X (.Call (.Attribute o "setdefault" apos) [e,f] [] cpos) (ZxJ td ty tx):=by intro pins s σ H Q I h;refine wpAny_Call_method m.base m.few m.line PySem.F.plainAttrs_dict ZBA PySem.F.type_dict_setdefault (thn (ho pins s σ H _ I h) λu s1 ⟨x,H1,I1,rx,a,ex,d,q1⟩=>?_);subst ex;obtain rfl:u=ZyZ a:=rx;obtain⟨t1,t2,_⟩:=Zwt I1 d;refine⟨t1,t2,?_⟩;rw[m.trees];refine ZA8 rfl (ZCD (ZBF (thn (he pins s1 σ H1 _ I1 q1) λiv s2 ⟨y,H2,I2,ry,q2⟩=>ZBF (thn (hf pins s2 σ H2 _ I2 q2) λfv s3 ⟨z,H3,I3,rz,kvs,k,b,ea,ey,eb,hl,q3,q4⟩=>Calls.spliced_nil ?_))));subst ey;obtain rfl:iv=ZyZ b:=ry;exact Zwh hu I3 ea eb hl rz (λv hv w' s4 I4 rw'=>⟨v,H3,I4,rw',q3 v hv⟩) λhn s4 I4=>⟨z,_,I4,rz,q4 hn⟩
end
def OT(K:Zx0)(F H:Hp)(kvs:List (List Key × List PyData))(vvs:List (List Key × V))(ls:List Addr):Prop:=kvs.map (·.1)=vvs.map (·.1)/\vvs.map (·.2)=ls.map V.ref /\
 ∀(i:Nat) (ds:List PyData) (l:Addr),(kvs.map (·.2))[i]?=some ds->ls[i]?=some l->∃vs,H l=some (.lst vs)/\Zv K F ds vs
section
variable{K:Zx0}{F F' H H':Hp}{kvs:List (List Key × List PyData)}{vvs:List (List Key × V)}{ls:List Addr}
theorem OT.len(q:OT K F H kvs vvs ls):kvs.length=ls.length/\kvs.length=vvs.length:=by have e1:=congrArg ZyN q.1;have e2:=congrArg ZyN q.2.1;rw[Zx1,Zx1]at e1 e2;omega
theorem OT.mono(q:OT K F H kvs vvs ls)(s:Zq F F')(k:∀a∈ls,∀o,H a=some o->H' a=some o):OT K F' H' kvs vvs ls :=
 ⟨q.1,q.2.1,λi ds l h1 h2=>let ⟨vs,q1,q2⟩:=q.2.2 i ds l h1 h2; ⟨vs,k l (Zyu h2) _ q1,q2.mono s⟩⟩
theorem OT.snoc(q:OT K F H kvs vvs ls)(k:List Key){p:Addr}(hp:H p=some (.lst [])):OT K F H (kvs++[(k,[])]) (vvs++[(k,.ref p)]) (ls++[p]):=by
 refine⟨by rw[ZyE,ZyE,q.1]; rfl,by rw[ZyE,ZyE,q.2.1]; rfl,λi ds l h1 h2=>?_⟩;have hl:=q.len;rw[ZyE]at h1
 by_cases hi:i<kvs.length
 ·rw[ZyB (by rw[Zx1]; exact hi)]at h1
  rw[ZyB (by omega)]at h2;exact q.2.2 i ds l h1 h2
 ·rw[ZyM (by rw[Zx1]; omega),Zx1]at h1
  rw[ZyM (by omega),<-hl.1]at h2;cases hj:i-kvs.length with
  | zero=>rw[hj]at h1 h2;cases h1; cases h2;exact⟨[],hp,.nil⟩
  | succ j=>rw[hj]at h1; cases h1
theorem OT.look(q:OT K F H kvs vvs ls)(k:List Key):(∀ds,HM.Zm kvs k=some ds->∃l' vs,ZaN vvs k=some (.ref l')/\l'∈ls/\H l'=some (.lst vs)/\Zv K F ds vs)/\(HM.Zm kvs k=none->ZaN vvs k=none):=Zj5 k kvs vvs ls q.1 q.2.1 q.2.2
theorem OT.app(k:List Key){d:PyData}{v:V}:∀{kvs:List (List Key × List PyData)} {vvs:List (List Key × V)} {ls:List Addr},OT K F H kvs vvs ls->ls.Nodup->Rep K F d v->∀{l':Addr} {vs:List V},ZaN vvs k=some (.ref l')->H l'=some (.lst vs) ->
  OT K F (upd H l' (.lst (vs++[v]))) (HM.Zdt kvs k d) vvs ls
 | [],[],_,q,_,_,l',vs,hv,_=>by cases hv
 | [],_::_,_,q,_,_,_,_,_,_=>by have:=q.len; simp at this
 | _::_,[],_,q,_,_,_,_,_,_=>by have:=q.len; simp at this
 | _::_,_::_,[],q,_,_,_,_,_,_=>by have:=q.len; simp at this
 | (k1,ds1)::kvs,(k2,v2)::vvs,l1::ls,q,nd,rd,l',vs,hv,hl=>by
  obtain⟨q1,q2,q3⟩:=q;rw[Zx6,Zx6]at q1 q2;injection q1 with e1 e2
  injection q2 with e3 e4
  have e1:k1=k2:=e1;have e3:v2=.ref l1:=e3;subst e1 e3;have rest:OT K F H kvs vvs ls:=⟨e2,e4,λi ds l h1 h2=>q3 (i+1) ds l (by simpa using h1) (by simpa using h2)⟩;obtain⟨n1,n2⟩:=ZyV.mp nd;obtain⟨us,f1,f2⟩:=q3 0 ds1 l1 rfl rfl;unfold HM.Zdt
  by_cases hk:k1=k
  ·rw[if_pos hk]
   rw[Zd0 (p:=(k1,V.ref l1)) hk]at hv;cases hv;rw[hl]at f1;cases f1;refine⟨by rw[Zx6,Zx6,e2],by rw[Zx6,Zx6,e4],λi ds l h1 h2=>?_⟩;cases i with
   | zero=>cases h1; cases h2;exact⟨_,ZE,f2.append (.one rd)⟩
   | succ i=>rw[Zx6,ZyD]at h1;rw[ZyD]at h2;obtain⟨us,g1,g2⟩:=rest.2.2 i ds l h1 h2;exact⟨us,by rw[ZB (λz=>n1 (by rw[<-z]; exact Zyu h2))]; exact g1,g2⟩
  ·rw[if_neg hk]
   rw[ZdY (p:=(k1,V.ref l1)) hk]at hv;have ih:=OT.app k rest n2 rd hv hl;have hne:l1≠l':=by
    rintro rfl
    have:∀(vvs:List (List Key × V)) (ls:List Addr),vvs.map (·.2)=ls.map V.ref->∀l',ZaN vvs k=some (.ref l')->l'∈ls:=by
     intro vvs
     induction vvs with
     | nil=>intro ls _ l' h; cases h
     | cons p vvs ih =>
      intro ls he l' h;cases ls with
      | nil=>simp at he
      | cons l ls =>
       rw[Zx6,Zx6]at he;injection he with he1 he2
       by_cases hp:p.1=k
       ·rw[Zd0 hp]at h
        rw[he1]at h;cases h;exact Zx3
       ·rw[ZdY hp]at h
        exact Zx4 _ (ih ls he2 l' h)
    exact n1 (this vvs ls e4 _ hv)
   refine⟨by rw[Zx6,Zx6,ih.1],by rw[Zx6,Zx6,e4],λi ds l h1 h2=>?_⟩;cases i with
   | zero=>cases h1; cases h2;exact⟨us,by rw[ZB hne]; exact f1,f2⟩
   | succ i=>rw[Zx6,ZyD]at h1;rw[ZyD]at h2;exact ih.2.2 i ds l h1 h2
end
theorem Zbn.otl{K:Zx0}{F0 H0 F H:Hp}{r:HM.Env}{σ:L2.St}{fp:Nat->List Addr}{i:Nat}{kvs:List (List Key × List PyData)}(e:Zbn K F0 H0 F H r σ fp)(h:r[i]?=some (some (.otl kvs))) :
  ∃a vvs ls,σ[i]?=some (some (.ref a))/\H a=some (.dT vvs)/\OT K F H kvs vvs ls/\fp i=a::ls:=by
 obtain⟨v,h1,h2⟩:=e.at_ i _ h;generalize hf:fp i=q at h2;cases h2 with
 | otl k1 k2 k3 k4=>exact⟨_,_,_,h1,k1,⟨k2,k3,k4⟩,rfl⟩
theorem Zbn.otlNew{K:Zx0}{F0 H0 Fb Hb F H:Hp}{r:HM.Env}{σ:L2.St}{fp:Nat->List Addr}{i:Nat}{kvs:List (List Key × List PyData)}{p:Addr}(k:List Key)(eb:Zbn K F0 H0 Fb Hb r σ fp)(x:Ext Fb Hb F H)(h:r[i]?=some (some (.otl kvs)))(hp:H p=some (.lst []))(hF:F p=none)(hb:Hb p=none) :
  ∃a vvs,σ[i]?=some (some (.ref a))/\H a=some (.dT vvs)/\vvs.length=kvs.length/\(HM.Zm kvs k=none->ZaN vvs k=none)/\At K F0 H0 F (upd H a (.dT (vvs++[(k,.ref p)]))) (r.set i (some (.otl (kvs++[(k,[])])))) σ:=by
 have e:=eb.grow x;obtain⟨a,vvs,ls,h1,h2,h3,h4⟩:=e.otl h;have hpn:∀j,p ∉ fp j:=λj hj=>by obtain⟨o,ho⟩:=eb.there hj;rw[hb]at ho; cases ho
 have hpa:p≠a:=λz=>hpn i (by rw[h4,z]; exact Zx3);have hal:a ∉ ls:=(ZyV.mp (h4▸e.nd i)).1;have nl:ls.Nodup:=(ZyV.mp (h4▸e.nd i)).2;have hpl:p ∉ ls:=λz=>hpn i (by rw[h4]; exact Zx4 _ z);refine⟨a,vvs,h1,h2,h3.len.2.symm,(h3.look k).2,?_⟩;have q:=h3.snoc k hp;have q':OT K F (upd H a (.dT (vvs++[(k,.ref p)]))) (kvs++[(k,[])]) (vvs++[(k,.ref p)]) (ls++[p]):=q.mono (Zq.refl F) λc hc o z=>by
  rw[ZB]
  ·exact z
  ·rintro rfl
   rcases Zyy.mp hc with hc | hc
   ·exact hal hc
   ·exact hpa (Zym.mp hc).symm
 have nd':(a::(ls++[p])).Nodup:=by
  refine ZyV.mpr ⟨?_,?_⟩
  ·intro z
   rcases Zyy.mp z with z | z
   ·exact hal z
   ·exact hpa (Zym.mp z).symm
  ·rw[ZAe]
   refine⟨nl,by simp,λx hx y hy=>?_⟩;obtain rfl:y=p:=by simpa using hy
   rintro rfl
   exact hpl hx
 refine e.changeW h1 (fp':=a::(ls++[p])) (.otl ZE q'.1 q'.2.1 q'.2.2) nd' (λc hc=>?_) λc o z hn=>?_
 ·rcases Zyo.mp hc with z | z
  ·subst z; exact .inl (by rw[h4]; exact Zx3)
  ·rcases Zyy.mp z with z | z
   ·exact .inl (by rw[h4]; exact Zx4 _ z)
   ·obtain rfl:c=p:=Zym.mp z
    exact .inr ⟨hF,eb.ext.hh.free hb,hpn⟩
 ·rw[ZB (λy=>hn (by rw[h4,y]; exact Zx3))]
  exact z
theorem At.otlApp{K:Zx0}{F0 H0 F H:Hp}{r:HM.Env}{σ:L2.St}{i:Nat}{kvs:List (List Key × List PyData)}{ds:List PyData}(k:List Key)(e:At K F0 H0 F H r σ)(h:r[i]?=some (some (.otl kvs)))(hd:HM.Zm kvs k=some ds) :
  ∃a vvs l vs,σ[i]?=some (some (.ref a))/\H a=some (.dT vvs)/\ZaN vvs k=some (.ref l)/\H l=some (.lst vs)/\Zv K F ds vs/\∀d v,Rep K F d v->At K F0 H0 F (upd H l (.lst (vs++[v]))) (r.set i (some (.otl (HM.Zdt kvs k d)))) σ:=by
 obtain⟨fp,e⟩:=e;obtain⟨a,vvs,ls,h1,h2,h3,h4⟩:=e.otl h;obtain⟨l,vs,g1,g2,g3,g4⟩:=(h3.look k).1 ds hd;have hal:a ∉ ls:=(ZyV.mp (h4▸e.nd i)).1;have nl:ls.Nodup:=(ZyV.mp (h4▸e.nd i)).2;have hne:a≠l:=λz=>hal (by rw[z]; exact g2);refine⟨a,vvs,l,vs,h1,h2,g1,g3,g4,λd v rd=>?_⟩;have q:=h3.app k nl rd g1 g3;refine e.change h1 (fp':=a::ls) (.otl (by rw[ZB hne]; exact h2) q.1 q.2.1 q.2.2) (h4▸e.nd i) (λc hc=>.inl (by rw[h4]; exact hc)) λc o z hn=>?_;rw[ZB (λy=>hn (by rw[h4,y]; exact Zx4 _ g2))];exact z
section
variable{X:Cx}{a b c e:Expr}{fa fb fc:HM.EF}{pos p:Pos}{f:HM.BF}
theorem Zrc(hu:X.A.units+1<cLine)(i:Nat){x:Str}{p1 p2 p3:Pos}(hk:XE X b fb)(hN:X.N[i]?=some x:=by rfl)(hv:Vis X.env.scope x:=by first | exact ZyY rfl | exact ZyC (ZyY rfl) | exact ZyC (ZyC rfl))(hd:(x==("__debug__":Str))=false:=by decide)(hcd:(x==("__classdict__":Str))=false:=by decide)
  (hs:Zz3 (.List [] p3) (some (.Subscript (.Name x p1) b p2)) pos.line X.env=pure false:=by rfl):XS X (.Assign [.Subscript (.Name x p1) b p2] (.List [] p3) pos) (HM.Zlv i fb):=by
 intro r o h;unfold HM.Zlv at h;split at h
 ·rename_i y hy
  split at h
  ·rename_i kvs hb
   split at h
   ·rename_i k hk'
    split at h
    ·rename_i hz
     split at h
     ·rename_i hl
      cases h;refine PS.imp (Zlo hu (Zca hN hv hd hcd) (hk r y hy) (Zb5 (X:=X) Zh (by simp) r (.ol []) rfl) hs) λE σ H ⟨F0,H0,F,at_,kk⟩=>?_;refine⟨F0,H0,F,at_,λv F1 H1 x1 ⟨fp,r1,nd,hn⟩=>?_⟩;cases r1 with
      | @ol l _ vs hl1 rs =>
       obtain rfl:vs=[]:=rs.nil_inv;have at1:=at_.grow x1;obtain⟨u,fp,e1,e2⟩:=at1.any hb;refine⟨u,e1,F0,H0,F1,at1,λw F2 H2 x2 r2=>?_⟩;obtain⟨fq,eb⟩:=at_;have hlF:F2 l=none:=by
        cases q:F2 l with
        | none=>rfl
        | some o =>
         rcases x2.new l o q with z | z
         ·rw[(hn l (by simp)).1]at z; cases z
         ·exact(z.no hl1 λ_ q=>by cases q).elim
       obtain⟨aa,vvs,g1,g2,g3,g4,g5⟩:=eb.otlNew k (x1.trans x2) hb (x2.hh _ _ hl1) hlF (hn l (by simp)).2;rw[e1]at g1;cases g1;obtain⟨bb,rfl,hbb⟩:=Zcc hk' r2;have hpk:putK vvs k (V.ref l)=vvs++[(k,.ref l)]:=by unfold putK;rw[if_neg];rw[ZhQ,g4 hl];simp
       refine⟨aa,_,rfl,Zh5.t g2 (x2.sub _ _ hbb) (by rw[g3]; exact ZeN hz),?_⟩;rw[hpk];exact kk _ F2 _ g5
     ·cases h
    ·cases h
   ·cases h
  ·cases h
 ·cases h
theorem ZsC(hu:X.A.units+1<cLine)(i:Nat){x:Str}{p1 p2 p3 p4:Pos}(hk:XE X b fb)(ha:XE X a fa)(hN:X.N[i]?=some x:=by rfl)(hv:Vis X.env.scope x:=by first | exact ZyY rfl | exact ZyC (ZyY rfl) | exact ZyC (ZyC rfl))(hd:(x==("__debug__":Str))=false:=by decide)(hcd:(x==("__classdict__":Str))=false:=by decide)
  (hsl:ZoH b:=by intro _ _; rfl)
  (hbase:Zz9 (.Subscript (.Name x p1) b p2) "append" X.env (eval (.Subscript (.Name x p1) b p2) X.env)=eval (.Subscript (.Name x p1) b p2) X.env:=by rfl)
  (hfew:((backTo p4 (Zyc [a] X.env)).all (λx=>!x.1)&&(ZB8 p4 (ZA9 [] X.env)).all (λx=>x.1.isSome)&&decide (([a]:List Expr).length+([]:List Keyword).length+(if([]:List Keyword).isEmpty then 0 else 1)<30))=true:=by rfl)
  (hline:(p3.endLine==p4.line)=true:=by rfl) (hs:Zyc [a] X.env=[(false,eval a X.env)]:=by rfl):XS X (.Expr (.Call (.Attribute (.Subscript (.Name x p1) b p2) "append" p3) [a] [] p4) pos) (HM.ZoN i fb fa):=by
 intro r o h;unfold HM.ZoN at h;split at h
 ·rename_i y hy
  split at h
  ·rename_i kvs hb
   split at h
   ·rename_i k hk'
    split at h
    ·rename_i d hd'
     split at h
     ·rename_i ds hds
      split at h
      ·rename_i hz
       cases h;refine PS.imp (Zhf (ZmK Zz0 ZAP ZAQ Zgz (Zk4 hu (Zca hN hv hd hcd) (hk r y hy) hsl) (Zak (ha r d hd') ZbK hs) hbase hfew hline hs rfl)) λE σ H ⟨F0,H0,F,at_,kk⟩=>?_;obtain⟨aa,vvs,l,vs,e1,e2,e3,e4,e5,_⟩:=at_.otlApp k hb hds;refine⟨.ref aa,e1,F0,H0,F,at_,λw F1 H1 x1 r1=>?_⟩;obtain⟨bb,rfl,hbb⟩:=Zcc hk' r1;have at1:=at_.grow x1;refine⟨aa,.ref l,rfl,by rw[<-e3]; exact ZcI.t (x1.hh _ _ e2) (x1.sub _ _ hbb),.inl ⟨rfl,_,SqL.of (x1.hh _ _ e4)⟩,F0,H0,F1,at1,λv F2 H2 x2 r2=>?_⟩;obtain⟨aa',vvs',l',vs',g1,g2,g3,g4,g5,g6⟩:=(at1.grow x2).otlApp k hb hds;rw[e1]at g1;cases g1;have:=(x1.trans x2).hh _ _ e2;rw[this]at g2;cases g2;rw[e3]at g3;cases g3;refine⟨_,vs',v,rfl,rfl,g4,?_,kk _ F2 _ (g6 d v r2)⟩;rw[<-g5.1];exact ZeN hz
      ·cases h
     ·cases h
    ·cases h
   ·cases h
  ·cases h
 ·cases h
theorem ZrN{k:List Key}{kvs:List (List Key × List PyData)}{ds:List PyData}(h:HM.Zm kvs k=some ds):HM.ZbL kvs k=kvs:=by unfold HM.ZbL; rw[h]
theorem Zr2{k:List Key}{kvs:List (List Key × List PyData)}(h:HM.Zm kvs k=none):HM.ZbL kvs k=kvs++[(k,[])]:=by unfold HM.ZbL; rw[h]
theorem ZsD(hu:X.A.units+1<cLine)(i:Nat){x:Str}{p0 p1 p2 p3 p4 p5:Pos}(hk:XE X b fb)(ha:XE X a fa)(m:M2 X (.Name x p0) "setdefault" p1 b (.List [] p2) p3)(hN:X.N[i]?=some x:=by rfl)(hv:Vis X.env.scope x:=by first | exact ZyY rfl | exact ZyC (ZyY rfl) | exact ZyC (ZyC rfl))(hd:(x==("__debug__":Str))=false:=by decide)(hcd:(x==("__classdict__":Str))=false:=by decide)
  (hbase:Zz9 (.Call (.Attribute (.Name x p0) "setdefault" p1) [b,.List [] p2] [] p3) "append" X.env (eval (.Call (.Attribute (.Name x p0) "setdefault" p1) [b,.List [] p2] [] p3) X.env)=eval (.Call (.Attribute (.Name x p0) "setdefault" p1) [b,.List [] p2] [] p3) X.env:=by rfl)
  (hfew:((backTo p5 (Zyc [a] X.env)).all (λx=>!x.1)&&(ZB8 p5 (ZA9 [] X.env)).all (λx=>x.1.isSome)&&decide (([a]:List Expr).length+([]:List Keyword).length+(if([]:List Keyword).isEmpty then 0 else 1)<30))=true:=by rfl)
  (hline:(p4.endLine==p5.line)=true:=by rfl) (hs:Zyc [a] X.env=[(false,eval a X.env)]:=by rfl):XS X (.Expr (.Call (.Attribute (.Call (.Attribute (.Name x p0) "setdefault" p1) [b,.List [] p2] [] p3) "append" p4) [a] [] p5) pos) (HM.Zol i fb fa):=by
 intro r o h;unfold HM.Zol at h;split at h
 ·rename_i y hy
  split at h
  ·rename_i kvs hb
   split at h
   ·rename_i k hk'
    split at h
    ·rename_i hzz
     split at h
     ·rename_i d hd'
      split at h
      ·rename_i ds hds
       split at h
       ·rename_i hz
        cases h;have hi:i<r.length:=(Zyd.mp hb).1;have hb':(r.set i (some (.otl (HM.ZbL kvs k))))[i]?=some (some (.otl (HM.ZbL kvs k))):=ZyR hi;refine PS.imp (Zhf (ZmK Zz0 ZAP ZAQ Zgz (ZvA hu (Zca hN hv hd hcd) (hk r y hy) (Zb5 (X:=X) Zh (by simp) r (.ol []) rfl) m) (Zak (ha _ d hd') ZbK hs) hbase hfew hline hs rfl)) λE σ H ⟨F0,H0,F,at_,kk⟩=>?_;have fin:∀{F3 H3:Hp} {l:Addr},At X.K F0 H0 F3 H3 (r.set i (some (.otl (HM.ZbL kvs k)))) σ->(∃vs,SqL X.K H3 l vs)->(∀a' vvs',σ[i]?=some (some (.ref a'))->H3 a'=some (.dT vvs')->ZaN vvs' k=some (.ref l)) ->
          tyV X.K "list" (.ref l) H3/\Now X.K (r.set i (some (.otl (HM.ZbL kvs k)))) σ H3 λF0 H0 F=>∀v F' H',Ext F H3 F' H'->Rep X.K F' d v->ZpV (.ref l) [v] H' λ_ H'=>E.nx σ H':=by
         intro F3 H3 l at3 hl hat;refine⟨.inl ⟨rfl,hl⟩,F0,H0,F3,at3,λv F4 H4 x4 r4=>?_⟩;obtain⟨aa',vvs',l',vs',g1,g2,g3,g4,g5,g6⟩:=(at3.grow x4).otlApp k hb' hds;obtain⟨aa2,vvs2,l2,vs2,f1,f2,f3,_⟩:=at3.otlApp k hb' hds;rw[f1]at g1;cases g1;rw[x4.hh _ _ f2]at g2;cases g2;rw[hat _ _ f1 f2]at g3;cases g3;have g7:=g6 d v r4;rw[ZBo]at g7;refine⟨_,vs',v,rfl,rfl,g4,?_,kk _ F4 _ g7⟩;rw[<-g5.1];exact ZeN hz
        obtain⟨fq,eb⟩:=at_;obtain⟨aa,vvs,ls,e1,e2,e3,e4⟩:=eb.otl hb;refine⟨.ref aa,e1,aa,rfl,.inr ⟨vvs,.inl e2⟩,F0,H0,F,⟨fq,eb⟩,λw F1 H1 x1 r1=>⟨F0,H0,F1,At.grow ⟨fq,eb⟩ x1,λv F2 H2 x2 ⟨fp,r2,nd,hn⟩=>?_⟩⟩;obtain⟨bb,rfl,hbb⟩:=Zcc hk' r1;have x12:=x1.trans x2;have hz0:vvs.length<sizeLine:=by rw[<-e3.len.2]; exact ZeN hzz
        refine⟨vvs,k,bb,x12.hh _ _ e2,rfl,x2.hh _ _ (x1.sub _ _ hbb),hz0,λu hu'=>?_,λhno=>?_⟩
        ·have hls:∃ds0,HM.Zm kvs k=some ds0:=by
          cases hq:HM.Zm kvs k with
          | some ds0=>exact⟨ds0,rfl⟩
          | none=>rw[(e3.look k).2 hq]at hu'; cases hu'
         obtain⟨ds0,hls⟩:=hls;have ead:=ZrN hls;obtain⟨l0,vs0,q1,q2,q3,q4⟩:=(e3.look k).1 ds0 hls;rw[q1]at hu';cases hu';refine fin (F3:=F2) ?_ ⟨vs0,SqL.of (x12.hh _ _ q3)⟩ λa' vvs' z1 z2=>?_
         ·rw[ead]
          have:r.set i (some (.otl kvs))=r:=by obtain⟨h1,h2⟩:=Zyd.mp hb;rw[<-h2];exact ZAB h1
          rw[this];exact At.grow ⟨fq,eb⟩ x12
         ·rw[e1]at z1
          cases z1;rw[x12.hh _ _ e2]at z2;cases z2;exact q1
        ·have hls:HM.Zm kvs k=none:=by
          cases hq:HM.Zm kvs k with
          | none=>rfl
          | some ds0=>obtain⟨l0,vs0,q1,_⟩:=(e3.look k).1 ds0 hq;rw[hno]at q1; cases q1
         have ead:=Zr2 hls;cases r2 with
         | @ol l _ vs hl1 rs =>
          obtain rfl:vs=[]:=rs.nil_inv;have hHl:H l=none:=x1.hh.free (hn l (by simp)).2;obtain⟨aa2,vvs2,g1,g2,g3,g4,g5⟩:=eb.otlNew k x12 hb hl1 (hn l (by simp)).1 hHl;rw[e1]at g1;cases g1;rw[x12.hh _ _ e2]at g2;cases g2;have hne:l≠aa:=λz=>by rw[z,e2]at hHl; cases hHl
          refine fin (F3:=F2) (by rw[ead]; exact g5) ⟨[],SqL.of (by rw[ZB hne]; exact hl1)⟩ λa' vvs' z1 z2=>?_;rw[e1]at z1;cases z1;rw[ZE]at z2;cases z2;unfold ZaN at hno ⊢;rw[Option.map_eq_none_iff]at hno;rw[ZBU,hno];simp
       ·cases h
      ·cases h
     ·cases h
    ·cases h
   ·cases h
  ·cases h
 ·cases h
end
end HP
namespace HP
open PySem PyProof.Rows
def Zey(xs:Array Nat):Prop:=xs.toList.Pairwise (· < ·)
theorem Zey.lt{xs:Array Nat}(h:Zey xs){i k:Nat}(hk:k<xs.size)(hik:i<k):xs.getD i 0<xs.getD k 0:=by have:=ZB2.mp h i k (by simpa using ZzV hik hk) (by simpa using hk) hik;simpa [Zz2,hk,ZzV hik hk]using this
theorem Zj6{xs:Array Nat}(h:Zey xs)(j:Nat):∀(fuel lo hi:Nat),lo<=hi->hi<=xs.size->hi-lo<=fuel->(∀i,i<lo->xs.getD i 0<j)->(∀i,hi<=i->i<xs.size->j<=xs.getD i 0) ->
  ZA3 xs j fuel lo hi<=xs.size/\(∀i,i<ZA3 xs j fuel lo hi->xs.getD i 0<j)/\∀i,ZA3 xs j fuel lo hi<=i->i<xs.size->j<=xs.getD i 0
 | 0,lo,hi,h1,h2,h3,a,b=>by
  obtain rfl:lo=hi:=by omega
  exact⟨h2,a,b⟩
 | fuel+1,lo,hi,h1,h2,h3,a,b=>by
  unfold ZA3;split
  ·rename_i hlt
   have hm:(lo+hi) / 2<xs.size:=by omega
   have e:xs.getD ((lo+hi) / 2) j=xs.getD ((lo+hi) / 2) 0:=by simp[Zz2,hm]
   dsimp only;rw[e]
   by_cases q:xs.getD ((lo+hi) / 2) 0<j
   ·rw[if_pos q]
    refine Zj6 h j fuel ((lo+hi) / 2+1) hi (by omega) h2 (by omega) (λi hi'=>?_) b
    by_cases c:i=(lo+hi) / 2
    ·rw[c]; exact q
    ·exact ZzV (h.lt hm (by omega)) q
   ·rw[if_neg q]
    refine Zj6 h j fuel lo ((lo+hi) / 2) (by omega) (by omega) (by omega) a (λi hi' hs=>?_)
    by_cases c:i=(lo+hi) / 2
    ·rw[c]; omega
    ·have:=h.lt hs (show(lo+hi) / 2<i by omega); omega
  ·obtain rfl:lo=hi:=by omega
   exact⟨h2,a,b⟩
theorem ZfD{xs:Array Nat}(h:Zey xs)(j:Nat):Zya xs j<=xs.size/\(∀i,i<Zya xs j->xs.getD i 0<j)/\∀i,Zya xs j<=i->i<xs.size->j<=xs.getD i 0 :=
 Zj6 h j xs.size 0 xs.size (Zzr _) (Zyb _) (by omega) (λi hi=>by omega) λi h1 h2=>by omega
theorem ZqL{xs:Array Nat}(h:Zey xs){i:Nat}(hi:i<xs.size):Zya xs (xs.getD i 0+1)=i+1:=by
 obtain⟨a,b,c⟩:=ZfD h (xs.getD i 0+1);apply Nat.le_antisymm
 ·apply ZAG
  intro q;have h1:=b (i+1) q;have h2:=h.lt (show i+1<xs.size by omega) (ZAi i);omega
 ·apply ZAG
  intro q;have h1:=c (Zya xs (xs.getD i 0+1)) (Zyb _) (by omega)
  by_cases e:Zya xs (xs.getD i 0+1)=i
  ·rw[e]at h1; omega
  ·have:=h.lt hi (show Zya xs (xs.getD i 0+1)<i by omega); omega
theorem ZqS{xs:Array Nat}(h:Zey xs):Zya xs 0=0:=by obtain⟨a,b,c⟩:=ZfD h 0;apply Nat.eq_zero_of_not_pos;intro q;have:=b 0 q;omega
theorem ZjO{xs:Array Nat}(h:Zey xs){j:Nat}(hn:xs[Zya xs j]?≠some j):Zey (Zys xs (Zya xs j) j):=by
 obtain⟨a,b,c⟩:=ZfD h j;unfold Zey;rw[ZAR];have gt:∀i,Zya xs j<=i->i<xs.size->j<xs.getD i 0:=by
  intro i h1 h2
  by_cases e:Zya xs j=i
  ·subst e
   have h3:=c _ h1 h2;have:xs.getD (Zya xs j) 0≠j:=λq=>hn (by
    have z:xs[Zya xs j]?=some (xs.getD (Zya xs j) 0):=by simp[Zz2,h2]
    rw[z,q])
   omega
  ·have h3:=h.lt h2 (show Zya xs j<i by omega)
   have h4:=c _ (Zyb _) (show Zya xs j<xs.size by omega);omega
 rw[List.pairwise_append];refine⟨h.sublist (List.take_sublist ..),ZyQ.mpr ⟨λx hx=>?_,h.sublist (List.drop_sublist ..)⟩,λx hx y hy=>?_⟩
 ·obtain⟨i,hi,rfl⟩:=ZAn hx
  rw[ZAF,Zyt]at hi;rw[List.getElem_drop];have:=gt (Zya xs j+i) (by omega) (by omega);simpa [Zz2,show Zya xs j+i<xs.size by omega]using this
 ·obtain⟨i,hi,rfl⟩:=ZAn hx
  rw[ZzB,Zyt]at hi;rw[List.getElem_take];have h1:=b i (by omega);have h1':xs.toList[i]'(by simp; omega)<j:=by simpa [Zz2,show i<xs.size by omega]using h1
  rcases Zyo.mp hy with e | e
  ·rw[e]; exact h1'
  ·obtain⟨k,hk,rfl⟩:=ZAn e
   rw[ZAF,Zyt]at hk;rw[List.getElem_drop];have h2:=gt (Zya xs j+k) (by omega) (by omega);have h2':j<xs.toList[Zya xs j+k]'(by simp; omega):=by simpa [Zz2,show Zya xs j+k<xs.size by omega]using h2
   exact ZzV h1' h2'
theorem has_none(j:Nat):SetTable.has #[] j=false:=by simp[SetTable.has]
structure Tab(b:Bool)(t:SetTable):Prop where
 dum:t.dummies=#[]
 rise:Zey t.place
 led:t.led=b
 plain:t.plain=true
 low:∀j∈t.place.toList,j<8
 mask:t.mask=if t.place.size<=4 then 7 else 31
theorem Tab.fresh(b:Bool):Tab b (SetTable.fresh 0 0 b):=⟨rfl,.nil,rfl,rfl,λj hj=>by simp[SetTable.fresh]at hj,rfl⟩
theorem Tab.few{b:Bool}{t:SetTable}(h:Tab b t):t.place.size<=8:=by
 have key:∀(l:List Nat) (lo:Nat),l.Pairwise (· < ·)->(∀j∈l,lo<=j/\j<8)->l.length<=8-lo:=by
  intro l
  induction l with
  | nil=>intro lo _ _; simp
  | cons x l ih=>intro lo hp hb;have h1:=hb x (Zx3 ..);have h2:=ih (x+1) (ZyQ.mp hp).2 λy hy=>⟨(ZyQ.mp hp).1 y hy,(hb y (Zx4 _ hy)).2⟩;rw[Zyg]; omega
 have:=key t.place.toList 0 h.rise λj hj=>⟨Zzr _,h.low j hj⟩;simpa using this
theorem ZhT{b:Bool}{t:SetTable}(h:Tab b t){j:Nat}(hj:j ∉ t.place.toList):t.slot j=.empty/\t.place[Zya t.place j]?≠some j:=by have q:t.place[Zya t.place j]?≠some j:=λe=>hj (by rw[<-ZyS]at e;exact Zyu e);unfold SetTable.slot;dsimp only;rw[if_neg (by simpa using q),h.dum,has_none,if_neg (by simp)];exact⟨rfl,q⟩
theorem Zwl{b:Bool}{t:SetTable}(h:Tab b t)(j:Nat):t.put j=({ t with place:=Zys t.place (Zya t.place j) j },Zya t.place j):=by
 unfold SetTable.put;dsimp only;rw[h.dum,has_none];cases t;have:=h.dum
 simp_all
theorem size_insert{α:Type}(xs:Array α)(p:Nat)(x:α):(Zys xs p x).size=xs.size+1:=by rw[<-Zyt,(ZzL xs p x).length_eq];simp
theorem Zv6{b:Bool}{t:SetTable}(h:Tab b t){es:Array (Int × Value)}(he:es.size=t.place.size){j:Nat}(h8:j<8)(hj:j ∉ t.place.toList)(v:Value) :
  layNew t es (j:Int) v=(Zys es (Zya t.place j) ((j:Int),v),{ t with place:=Zys t.place (Zya t.place j) j },false,false):=by
 obtain⟨e1,e2⟩:=ZhT h hj;have hfew:=h.few;have hm:t.mask=7\/t.mask=31:=by rw[h.mask]; split<;>simp
 have hbits:ZCE (j:Int) % (t.mask+1)=j:=by
  have hb:ZCE (j:Int)=j:=by unfold ZCE; omega
  rw[hb];rcases hm with e | e<;>rw[e]<;>omega
 have hfree:t.freeSlot (j:Int)=some (j,false):=by
  unfold SetTable.freeSlot SetTable.probe;have hf:10*ZCu t.mask=(10*ZCu t.mask-1)+1:=by unfold ZCu; omega
  rw[hf];unfold SetTable.probe.go;have hp:(t.probeStart (j:Int)).j=j:=hbits;rw[hp,e1];rfl
 have hle:t.place.size<=7:=by
  apply ZAG;intro q;have h8':t.place.size=8:=by omega
  have:=Zzz (l₁:=j::t.place.toList) (l₂:=Zx8 8) (ZyV.mpr ⟨hj,h.rise.imp λq=>Zyp q⟩) (λx hx=>by
   rcases Zyo.mp hx with e | e
   ·rw[e]; exact Zyq.mpr h8
   ·exact Zyq.mpr (h.low x e))
  simp at this;omega
 have hfit:(ZBc { t with place:=Zys t.place (Zya t.place j) j } (Zys es (Zya t.place j) ((j:Int),v)).size)=true:=by unfold ZBc ZBd;simp only[size_insert,he,h.dum];simp;rw[h.mask];split<;>omega
 unfold layNew;rw[hfree];dsimp only;rw[Zwl h];dsimp only;unfold SetTable.orStandIn;rw[hfit];rfl
theorem Tab.ins{b:Bool}{t:SetTable}(h:Tab b t){j:Nat}(h8:j<8)(hj:j ∉ t.place.toList)(hs:t.place.size≠4):Tab b { t with place:=Zys t.place (Zya t.place j) j }:=by
 obtain⟨_,e2⟩:=ZhT h hj;refine⟨h.dum,ZjO h.rise e2,h.led,h.plain,λx hx=>?_,?_⟩
 ·have:=(ZzL t.place (Zya t.place j) j).mem_iff.mp hx
  rw[ZAf]at this;rcases Zyy.mp this with q | q
  ·exact h.low x q
  ·rw[Zym.mp q]; exact h8
 ·dsimp only
  rw[size_insert,h.mask];split<;>split<;>omega
def Zlp:List (List Nat):=(Zx8 8).flatMap λa=>(Zx8 8).flatMap λb=>(Zx8 8).flatMap λc=>(Zx8 8).flatMap λd=>(Zx8 8).filterMap λe=>if a<b/\b<c/\c<d/\d<e then some [a,b,c,d,e]else none
theorem Zpu{l:List Nat}(h:l.Pairwise (· < ·))(h8:∀j∈l,j<8)(h5:l.length=5):l∈Zlp:=by
 match l,h5 with
 | [a,b,c,d,e],_=>simp at h h8;unfold Zlp;simp only[ZAj,Zyq,Zzl];refine⟨a,by omega,b,by omega,c,by omega,d,by omega,e,by omega,?_⟩;rw[if_pos (by omega)]
theorem ZvS:∀l∈Zlp,(SetTable.layClean 31 (l.map λ(n:Nat)=>(n:Int)).toArray).map (λowner=>(Zx8 32).filterMap λj=>(owner.getD j none).map (j,·))=some (l.zip (Zx8 5)):=by decide +kernel
end HP
namespace HP
open PySem PyProof.Rows
def Zez(e:Int × Value):Int:=match e.2 with
 | .int n _=>n
 | _=>0
section
variable(prog:Program)(w:World)
def ZnU(es:List (Int × Value)):Prop:=∀e∈es,∃n t,e=((intKind prog w).hash n,ZzQ n t)
def ZdI(h:Heap)(a:Addr)(L:List Int):Prop:=∃o es ep t,h.get? a=some o/\o.ExactSet/\o.data=.set es ep t/\ZnU prog w es.toList/\(es.toList.map Zez).Perm L/\es.toList.map Zez=t.place.toList.map (λ(j:Nat)=>(j:Int))/\Tab (!w.params.followText "set-order") t
end
section
variable{prog:Program}{w:World}{A:Around}{E:Value->Shared->Prop}{s:Shared}{a:Addr}{L:List Int}
theorem ZnU.elems{es:List (Int × Value)}(h:ZnU prog w es):ElemsOf (intKind prog w) es:=λe he=>by obtain⟨n,t,rfl⟩:=h e he;exact⟨⟨n,ZB3 _ _ _ _,rfl⟩,rfl⟩
theorem ZdI.at'{h h':Heap}(x:ZdI prog w h a L)(k:∀o,h.get? a=some o->h'.get? a=some o):ZdI prog w h' a L:=let ⟨o,es,ep,t,e,r⟩:=x; ⟨o,es,ep,t,k o e,r⟩
def stp(L:List Int)(n:Int):List Int:=if L.contains n then L else L++[n]
theorem Zsg{k n:Int}{t:Tok}:(intKind prog w).is k (.int n t)=true↔n=k:=by
 constructor
 ·intro h
  exact(intKind prog w).inj _ _ _ (ZB3 _ _ _ _) h
 ·rintro rfl; exact ZB3 _ _ _ _
theorem ZhK:∀(j:Nat),j<8->(intKind prog w).hash (j:Int)=(j:Int)
 | 0,_=>rfl
 | 1,_=>rfl
 | 2,_=>rfl
 | 3,_=>rfl
 | 4,_=>rfl
 | 5,_=>rfl
 | 6,_=>rfl
 | 7,_=>rfl
 | n+8,h=>by omega
theorem Tab.fits{b:Bool}{t:SetTable}(h:Tab b t):t.fits t.place.size=true:=by have hf:=h.few;unfold ZBc ZBd;rw[h.dum,h.mask];simp;split<;>omega
theorem size_of{es:Array (Int × Value)}{t:SetTable}(h:es.toList.map Zez=t.place.toList.map (λ(j:Nat)=>(j:Int))):es.size=t.place.size:=by have:=congrArg ZyN h;simpa using this
theorem ZkH{h:Heap}{o:Obj}{es es':Array (Int × Value)}{ep:Nat}{t t':SetTable}(ho:h.get? a=some o)(hex:o.ExactSet)(hd:o.data=.set es ep t)(hel:ZnU prog w es'.toList)(hp:(es'.toList.map Zez).Perm L)
  (hs:es'.toList.map Zez=t'.place.toList.map (λ(j:Nat)=>(j:Int))) (ht:Tab (!w.params.followText "set-order") t') :
  (h.update a (ZAY es' t')).get? a=some { o with data:=.set es' (ep+1) t' }/\ZdI prog w (h.update a (ZAY es' t')) a L:=by
 have hg:(h.update a (ZAY es' t')).get? a=some { o with data:=.set es' (ep+1) t' }:=by
  have:=Zzb (ZAY es' t') ho (by rw[putSet_of es' t' hd]; rfl)
  rwa [putSet_of es' t' hd]at this
 exact⟨hg,_,es',ep+1,t',hg,hex,rfl,hel,hp,hs,ht⟩
theorem ZtH{b:Bool}{t:SetTable}{es:Array (Int × Value)}(hr:Zey t.place)(h8:∀j∈t.place.toList,j<8)(h5:t.place.size=5)(he:es.map (·.1)=(t.place.toList.map (λ(j:Nat)=>(j:Int))).toArray)(hl:t.led=b)(hp:t.plain=true) :
  ∃t',relayAll t es 20=(es,t',false)/\t'.place=t.place/\Tab b t':=by
 have hc:=ZvS _ (Zpu hr h8 (by simpa using h5));obtain⟨owner,o1,o2⟩:=Zx2.mp hc;have hsz:es.size=5:=by have:=congrArg Array.size he;simp at this;omega
 have hlen:t.place.toList.length=5:=by simpa using h5
 have z1:(t.place.toList.zip (Zx8 5)).map (·.1)=t.place.toList:=List.map_fst_zip (by rw[hlen]; simp);have z2:(t.place.toList.zip (Zx8 5)).map (·.2)=Zx8 5:=List.map_snd_zip (by rw[hlen]; simp);have hrl:t.relaid (es.map (·.1)) 20=some ({ mask:=31,place:=t.place,dummies:=#[],finger:=t.finger,led:=t.led,moves:=t.movedTo 31,plain:=t.plain },(Zx8 5).toArray):=by
  unfold SetTable.relaid SetTable.laid;have e31:SetTable.sizeAbove 20-1=31:=by decide
  rw[e31,he,o1];show some _=some _;rw[o2,z1,z2]
 refine⟨{ mask:=31,place:=t.place,dummies:=#[],finger:=t.finger,led:=t.led,moves:=t.movedTo 31,plain:=t.plain },?_,rfl,⟨rfl,hr,hl,hp,h8,?_⟩⟩
 ·unfold relayAll
  rw[hrl];dsimp only;have ef:(Zx8 5).toArray.filterMap (λx=>es[x]?)=es:=by apply Array.toList_inj.mp;rw[Array.toList_filterMap];have:=filterMap_getElem?_range es;rw[hsz]at this;simpa using this
  rw[ef];have ec:coversAll (Zx8 5).toArray es.size=true:=by rw[hsz]; decide
  have et:ZBc { mask:=31,place:=t.place,dummies:=#[],finger:=t.finger,led:=t.led,moves:=t.movedTo 31,plain:=t.plain } es.size=true:=by unfold ZBc ZBd;simp[h5,hsz]
  rw[ec,et];rfl
 ·dsimp only
  rw[h5];rfl
theorem Zs5{j:Nat}{tk:Tok}{Q:Bool->Shared->Prop}(h8:j<8)(hX:ZdI prog w s.heap a L)
  (h:∀b h',ZzT a s.heap h'->ZdI prog w h' a (stp L j)->Q b { s with heap:=h' }) :
  wpAny (model prog w) A (setAddHashed a (.int j tk) ((intKind prog w).hash j)) Q E s:=by
 obtain⟨o,es,ep,t,ho,hex,hd,hen,hpm,hpl,ht⟩:=hX;have hel:=hen.elems;have hsc:(ZzQ (j:Int) tk).scannable=true:=rfl;have hkey:(intKind prog w).is (j:Int) (.int j tk)=true:=ZB3 _ _ _ _;have hsz:=size_of hpl;have hfew:=ht.few;have hf:t.fits es.size=true:=by rw[hsz]; exact ht.fits
 have hsb:scanBound=4096:=rfl;have hb:es.size<scanBound:=by omega
 unfold setAddHashed setAddHashedIn;refine Zzc (ZxZ (ZA4 ho hd hf ?_));dsimp only;rw[byScan_of hsc hb hel];simp only[↓reduceIte];unfold setAddByScan;refine ZxZ (ZxZ (wpAny_rule (ZxZ (wpAny_setScan_of hkey ho hd hf hel ?_))));cases hr:List.findIdx? (λe=>(intKind prog w).is (j:Int) e.2) es.toList with
 | some i =>
  dsimp only;obtain⟨hi,hpi,_⟩:=List.findIdx?_eq_some_iff_getElem.mp hr;have hmem:(j:Int)∈L:=by refine hpm.mem_iff.mp (Zyf.mpr ⟨es.toList[i],ZzO hi,?_⟩);obtain⟨m,u,e⟩:=hen _ (ZzO hi);rw[e]at hpi ⊢;exact Zsg.mp hpi
  refine Zx5 (Zx5 ?_);have e:s={ s with heap:=s.heap }:=by cases s; rfl
  have q:=h false s.heap (ZCQ a s.heap) ⟨o,es,ep,t,ho,hex,hd,hen,by unfold stp; rw[if_pos (by simpa using hmem)]; exact hpm,hpl,ht⟩;rw[e];exact q
 | none =>
  dsimp only;have hne:∀e∈es.toList,Zez e≠(j:Int):=λe he hv=>by obtain⟨m,u,e1⟩:=hen e he;have no:=List.findIdx?_eq_none_iff.mp hr e he;rw[e1]at no hv;have yes:(intKind prog w).is (j:Int) (.int m u)=true:=Zsg.mpr hv;exact absurd (yes.symm.trans no) (by simp)
  have hnm:(j:Int) ∉ L:=λhm=>by obtain⟨e,he,hv⟩:=Zyf.mp (hpm.mem_iff.mpr hm);exact hne e he hv
  have hj:j ∉ t.place.toList:=λhm=>by
   have:(j:Int)∈es.toList.map Zez:=by rw[hpl]; exact Zyf.mpr ⟨j,hm,rfl⟩
   obtain⟨e,he,hv⟩:=Zyf.mp this;exact hne e he hv
  obtain⟨mk,pl,dm,fg,ld,mv,pn⟩:=t;obtain rfl:pn=true:=ht.plain;obtain rfl:dm=#[]:=ht.dum;rw[ZhK j h8,Zv6 ht hsz h8 hj];dsimp only;obtain⟨_,hnj⟩:=ZhT ht hj;obtain⟨hle,_,_⟩:=ZfD ht.rise j;have hen1:ZnU prog w (Zys es (Zya pl j) ((j:Int),ZzQ j tk)).toList:=λe he=>by
   have:=(ZzL _ _ _).mem_iff.mp he;rw[ZAf]at this;rcases Zyy.mp this with q | q
   ·exact hen e q
   ·exact⟨j,tk,by rw[ZhK j h8]; exact Zym.mp q⟩
  have hpm1:((Zys es (Zya pl j) ((j:Int),ZzQ j tk)).toList.map Zez).Perm (stp L j):=by unfold stp;rw[if_neg (by simpa using hnm)];refine((ZzL _ _ _).map Zez).trans ?_;rw[ZAf,ZyE];exact hpm.append_right _
  have hpl1:(Zys es (Zya pl j) ((j:Int),ZzQ j tk)).toList.map Zez=(Zys pl (Zya pl j) j).toList.map (λ(j:Nat)=>(j:Int)):=by rw[ZAR,ZAR,ZyE,ZyE,Zx6,Zx6,List.map_take,List.map_take,List.map_drop,List.map_drop,hpl];rfl
  have hs1:(Zys es (Zya pl j) ((j:Int),ZzQ j tk)).size=es.size+1:=size_insert _ _ _;generalize hE:Zys es (Zya pl j) ((j:Int),ZzQ j tk)=es1 at hen1 hpm1 hpl1 hs1 ⊢;have hz1:es1.size<=sizeLine:=by rw[Zzo]; omega
  refine ZxZ (Zx5 ?_);simp only[↓reduceIte];refine ZxZ ?_;rw[hashByValue_scannable 8 hsc];refine Zx5 ?_;rw[show plainKind (ZzQ (j:Int) tk)=true from rfl];simp only[↓reduceIte];show wpAny (model prog w) A (do
    storeSet a es1 (⟨mk,Zys pl (Zya pl j) j,#[],fg,ld,mv,true⟩:SetTable)
    if(!false&&ZAH (⟨mk,Zys pl (Zya pl j) j,#[],fg,ld,mv,true⟩:SetTable))=true then _ else _) _ E s
  refine ZxZ (wpAny_storeSet_of ho hd ?_ hz1);have hsb1:=Zza s.heap a (ZAY es1 (⟨mk,Zys pl (Zya pl j) j,#[],fg,ld,mv,true⟩:SetTable))
  by_cases h4:pl.size=4
  ·have hm:mk=7:=by have q:=ht.mask; dsimp only at q; rw[h4]at q; exact q
   have htf:ZAH (⟨mk,Zys pl (Zya pl j) j,#[],fg,ld,mv,true⟩:SetTable)=true:=by unfold ZAH ZBd;simp[size_insert,h4,ht.dum,hm]
   have hg:(s.heap.update a (ZAY es1 (⟨mk,Zys pl (Zya pl j) j,#[],fg,ld,mv,true⟩:SetTable))).get? a=some { o with data:=.set es1 (ep+1) (⟨mk,Zys pl (Zya pl j) j,#[],fg,ld,mv,true⟩:SetTable) }:=by
    have:=Zzb (ZAY es1 (⟨mk,Zys pl (Zya pl j) j,#[],fg,ld,mv,true⟩:SetTable)) ho (by rw[putSet_of _ _ hd]; rfl)
    rwa [putSet_of _ _ hd]at this
   have hh:es1.map (·.1)=((Zys pl (Zya pl j) j).toList.map (λ(j:Nat)=>(j:Int))).toArray:=by
    apply Array.toList_inj.mp;rw[Array.toList_map,<-hpl1];refine Zzx λe he=>?_;obtain⟨m,u,e1⟩:=hen1 e he;have hm:m∈es1.toList.map Zez:=Zyf.mpr ⟨e,he,by rw[e1]; rfl⟩;rw[hpl1]at hm;obtain⟨k,hk,rfl⟩:=Zyf.mp hm;have hk8:k<8:=by
     have:=(ZzL _ _ _).mem_iff.mp hk;rw[ZAf]at this;rcases Zyy.mp this with q | q
     ·exact ht.low k q
     ·rw[Zym.mp q]; exact h8
    rw[e1];exact ZhK (prog:=prog) (w:=w) k hk8
   obtain⟨t',r1,r2,r3⟩:=ZtH (b:=!w.params.followText "set-order") (t:=(⟨mk,Zys pl (Zya pl j) j,#[],fg,ld,mv,true⟩:SetTable)) (es:=es1) (ZjO ht.rise hnj)
    (λk hk=>by
     have:=(ZzL _ _ _).mem_iff.mp hk;rw[ZAf]at this;rcases Zyy.mp this with q | q
     ·exact ht.low k q
     ·rw[Zym.mp q]; exact h8) (by dsimp only; rw[size_insert,h4]) hh ht.led ht.plain
   have hgr:SetTable.grown es1.size=20:=by rw[hs1,hsz,h4]; rfl
   rw[htf];simp only[Bool.not_false,Bool.and_self,↓reduceIte];rw[hgr,r1];dsimp only;refine ZxZ (Zx5 (ZxZ (wpAny_storeSet_of hg rfl ?_ hz1)));obtain⟨_,hS2⟩:=ZkH (prog:=prog) (t':=t') hg hex rfl hen1 hpm1 (by rw[r2]; exact hpl1) r3;exact Zx5 (Zx5 (h true _ (hsb1.trans (Zza _ a _)) hS2))
  ·have htf:ZAH (⟨mk,Zys pl (Zya pl j) j,#[],fg,ld,mv,true⟩:SetTable)=false:=by
    unfold ZAH ZBd;have q:=ht.mask;dsimp only at q;simp only[size_insert];rw[q];simp;have:=hfew;dsimp only at this;split<;>omega
   rw[htf];simp only[Bool.and_false,ZzR,↓reduceIte];obtain⟨_,hS1⟩:=ZkH (prog:=prog) (t':=(⟨mk,Zys pl (Zya pl j) j,#[],fg,ld,mv,true⟩:SetTable)) ho hex hd hen1 hpm1 hpl1 (ht.ins h8 hj h4);exact Zx5 (Zx5 (h true _ hsb1 hS1))
end
section
variable{prog:Program}{w:World}{A:Around}{E:Value->Shared->Prop}{s:Shared}
abbrev Zc5(w:World):Obj:={ cls:=.type "set",dict:=none,data:=.set #[] 0 (.fresh 0 0 (!w.params.followText "set-order")) }
theorem ZmD(v:Value){Q₁:Value->Shared->Prop}(h:Q₁ (.ref s.heap.objs.size) { s with heap:=s.heap.push (Zc5 w) }) :
  codeAny (model prog w) A (.call (.builtin "set.__new__") ⟨[.type "set",v],[]⟩) (wants Q₁ E) s:=by
 refine codeAny_of_tree ?_;show wpAny _ A.in1 (do checkBuiltinCall "set.__new__" ⟨[.type "set",v],[]⟩; again (.builtin "set.__new__" ⟨[.type "set",v],[]⟩)) _ _ s;refine ZxZ (ZCq (PySem.F.newCall_set_1 v) (Zx5 ⟨ZAb ZCv _,Zzk PySem.F.entry_set_new ?_⟩));rw[Zy5 ZCv _];unfold Builtin.«set.__new__» Builtin.Frozenset.newClass;have hsub:=sub_set_self;obtain⟨hp,g,d,tk,os⟩:=s;dsimp only
 wp_walk
 refine ZAI (Zx5 ?_);dsimp only;simp only[newObj];exact ZxZ (wpAny_alloc (Zx5 (Zx5 h)))
theorem ZtT(h:Heap):ZdI prog w (h.push (Zc5 w)) h.objs.size [] :=
 ⟨_,#[],0,_,Zyi _ rfl,⟨rfl,rfl,rfl⟩,rfl,λe he=>by simp at he,.nil,rfl,Tab.fresh _⟩
theorem ZhA:∀(l acc:List Int) (x:Int),HM.dedup acc (l++[x])=stp (HM.dedup acc l) x
 | [],acc,x=>by show HM.dedup acc [x]=stp acc x;unfold HM.dedup stp;split<;>rfl
 | y::l,acc,x=>by
  show HM.dedup acc (y::(l++[x]))=_;unfold HM.dedup;split
  ·exact ZhA l acc x
  ·exact ZhA l _ x
variable{R:Result->Shared->Prop}{I:Addr}{fp wr:List Addr}{G:Array GenState->Array GenState->Prop}{P:Nat->Value->Prop}{St:Nat->Shared->Prop}
theorem Zrz{ns:List Int}(W:WalksS prog w A.in1 I fp wr G ns.length P St)(S:Addr)(hSf:S ∉ fp)(hval:∀i v,P i v->∃t,v=.int (ns.getD i 0) t)(hb:∀n∈ns,0<=n/\n<8) :
  ∀(k i:Nat) (s:Shared),ns.length-i=k->i<=ns.length->St i s->ZdI prog w s.heap S (HM.dedup [] (ns.take i)) ->
   (∀s',Moved (S::wr) G s s'->ZdI prog w s'.heap S (HM.dedup [] ns)->R (.ok (.ret .none)) s') ->
   codeAny (model prog w) A (.builtin "set.update.loop" ⟨[.ref S,.ref I],[]⟩) R s:=by
 have hSw:S ∉ wr:=λh=>hSf (W.sub _ h);have hsub:∀b∈wr,b∈S::wr:=λb hb=>Zx4 _ hb;intro k
 induction k with
 | zero =>
  intro i s hk hi hst hS hR;obtain rfl:i=ns.length:=by omega
  rw[List.take_length]at hS;refine Zzk F.entry_set_update_loop ?_;rw[Zy5 F.plain_set_update_loop _];show wpAny _ A.in1 (pyNext (.ref I) >>= _) _ _ s;refine ZxZ (W.done s _ _ hst λs' hm=>?_);show wpAny _ A.in1 (ret Zy2) _ _ s';exact Zx5 (hR s' (hm.mono hsub) (hS.at' λo e=>hm.heap S o hSw e))
 | succ k ih =>
  intro i s hk hi hst hS hR;have hlt:i<ns.length:=by omega
  refine Zzk F.entry_set_update_loop ?_;rw[Zy5 F.plain_set_update_loop _];show wpAny _ A.in1 (pyNext (.ref I) >>= _) _ _ s;refine ZxZ (W.item i s _ _ hlt hst λv s' hP hst' hm=>?_);obtain⟨t,rfl⟩:=hval i v hP;have hS':=hS.at' (h':=s'.heap) λo e=>hm.heap S o hSw e;show wpAny _ A.in1 (holding [ZzQ (ns.getD i 0) t] (setAdd S (.int (ns.getD i 0) t)) >>= _) _ _ s';refine ZxZ (Zzc ?_);unfold setAdd;refine Zzc (ZxZ ((intKind prog w).pyHash (k:=ns.getD i 0) (ZB3 _ _ _ _) ?_));have hbi:=hb (ns.getD i 0) (by rw[Zzv,Zye hlt]; exact ZzO hlt);obtain⟨j,ej⟩:∃j:Nat,ns.getD i 0=(j:Int):=⟨(ns.getD i 0).toNat,by omega⟩;have e:stp (HM.dedup [] (ns.take i)) (ns.getD i 0)=HM.dedup [] (ns.take (i+1)):=by rw[<-ZhA,List.take_succ,Zzv];simp[hlt]
  rw[ej]at e hbi ⊢;refine Zs5 (s:={ s' with toks:=s'.toks+1 }) (by omega) hS' λb h' hsb hS2=>?_;rw[e]at hS2;refine Zx5 ⟨ZAb F.plain_set_update_loop _,ih (i+1) _ (by omega) hlt (W.frame _ s' _ _ hst' (Nat.le_succ _) λb hb o e=>?_) hS2 λs'' hm'' hS''=>?_⟩
  ·rw[hsb.2 b (λh:b=S=>hSf (by rw[<-h]; exact hb))]; exact e
  ·refine hR s'' (Moved.trans W.gtrans ((hm.mono hsub).then_heap (Nat.le_succ _) λb o hb e=>?_) hm'') hS''
   rw[hsb.2 b (λh:b=S=>hb (by rw[h]; exact Zx3))]; exact e
set_option maxHeartbeats 3200000 in
theorem Zr0{l:Addr}{items:Array Value}{ns:List Int}{Q:Value->Shared->Prop}(hh:A.handled=none)(hl:s.heap.IsList l items)(hi:IntsAre items.toList ns)(hb:∀n∈ns,0<=n/\n<8)
  (h:∀(h':Heap) (tk:Nat),ZdI prog w h' s.heap.objs.size (HM.dedup [] ns)->(∀b o,b<s.heap.objs.size->s.heap.get? b=some o->h'.get? b=some o)->Q (.ref s.heap.objs.size) { s with heap:=h',toks:=tk }) :
  wpAny (model prog w) A (call (.type "set") [.ref l]) Q E s:=by
 have hsz:items.size=ns.length:=by rw[<-hi.length,Zyt]
 obtain⟨c,tl,hmro⟩:=ZzC.mro;have hmade:=ZzC.made;have hsub:=ZzC.sub;refine wpAny_call (codeAny_of_tree ?_);show wpAny _ _ (callAny (.type "set") _) _ _ _;refine Zx5 ⟨Code.quiet_builtin _ (by decide +kernel),Zzk PySem.F.entry_type_call ?_⟩;rw[Around.under_plain (weight_type_call_type "set" [.ref l] []) rfl];have h1:=ZzC.notType;have h2:=ZzC.canCreate;have hct:=PySem.F.typeCall_set_1 (.ref l)
 repeat (any_goals (first | assumption | wp_step))
 refine Zz4 (ZmD (.ref l) (E:=E) (Q₁:=λobj s₁=>obj=.ref s.heap.objs.size/\s₁={ s with heap:=s.heap.push (Zc5 w) }) ⟨rfl,rfl⟩) λr s₁ hr=>?_;cases r with
 | error e=>exact hr
 | ok fl =>
  cases fl with
  | ret obj =>
   obtain⟨rfl,rfl⟩:=hr;have hX:=ZtT (prog:=prog) (w:=w) s.heap;have hS:(s.heap.push (Zc5 w)).get? s.heap.objs.size=some (Zc5 w):=Zyi _ rfl;have hT:Shared.TypeIs { s with heap:=s.heap.push (Zc5 w) } (.ref s.heap.objs.size) "set":=⟨_,hS,rfl⟩;have hli:=ZzC.init.lookup;have hbi:=ZzC.init.bind (.ref s.heap.objs.size)
   repeat (any_goals (first | assumption | wp_step))
   refine Zz4 (codeAny_call_builtin (R:=wants (λr s₂=>r=.none/\∃h' tk,s₂={ s with heap:=h',toks:=tk }/\ZdI prog w h' s.heap.objs.size (HM.dedup [] ns) /\
     (∀b o,b<s.heap.objs.size->s.heap.get? b=some o->h'.get? b=some o)) E) ZzC.init.plain PySem.F.entry_set_init (check_set_init_1 hT ?_)) λr₂ s₂ hr₂=>?_
   ·obtain⟨⟨ocls,odict,odata,oslots⟩,hol,hcl,nl,hdl⟩:=hl
    simp only at hcl hdl;subst hcl; subst hdl;have hol':(s.heap.push (Zc5 w)).get? l=some { cls:=.type "list",dict:=odict,data:=.seq items nl,slots:=oslots }:=Zx7 _ hol;have hsls:=PySem.F.sub_list_set;have hslf:=PySem.F.sub_list_frozenset;have hne:(ZAT "list" == ZAT "dict")=false:=by decide
    have hl1:(s.heap.push (Zc5 w)).IsList l items:=⟨_,hol',rfl,nl,rfl⟩;unfold Builtin.«set.__init__» noKeywords Builtin.Frozenset.updateFrom;generalize hPI:pyIter=PI
    wp_walk
    subst hPI;refine ZBT hl1 (ZxZ (wpAny_runValue ?_));have hlS:l<s.heap.objs.size:=Zyh hol;have hh3:A.in1.in1.in1.handled=none:=by simp[hh]
    have hneI:l≠(s.heap.push (Zc5 w)).objs.size:=by rw[ZAC]; exact Zyp (ZAA hlS)
    have hSf:s.heap.objs.size ∉ [(s.heap.push (Zc5 w)).objs.size,l]:=by rw[ZAC]; simp only[Zyo,Zym,List.not_mem_nil,or_false,not_or];exact⟨Zyp (ZAi _),ZAO hlS⟩
    have Wl:=(Walks.list (prog:=prog) (w:=w) hh3 _ l hneI items).toS;rw[hsz]at Wl;refine Zrz Wl s.heap.objs.size hSf (λi v hv=>IntsAre.int_at hi i v (by rw[ZyS]; exact hv)) hb (ns.length-0) 0 _ (by omega) (Zzr _)
     ⟨⟨_,Zyi _ rfl,rfl,rfl⟩,hl1.push _⟩ (hX.at' λo e=>Zx7 _ e) λs' hm hS'=>?_
    obtain⟨h',g',d',tk',os'⟩:=s';have eg:g'=s.gens:=hm.gens;have ed:d'=s.drawn:=hm.drawn;have eo:os'=s.os:=hm.os;subst eg; subst ed; subst eo
    show wpAny _ _ _ _ _ _;refine Zx5 ?_;show wpAny _ _ (ret Zy2) _ _ _;refine Zx5 ⟨rfl,h',tk',rfl,hS',λb o hb e=>?_⟩;refine hm.heap b o ?_ (Zx7 _ (Zx7 _ e));simp only[Zyo,Zym,List.not_mem_nil,or_false,not_or];exact⟨Zyp hb,by rw[ZAC]; exact Zyp (ZAA hb)⟩
   ·cases r₂ with
    | error e=>exact hr₂
    | ok fl₂ =>
     cases fl₂ with
     | ret r =>
      obtain⟨rfl,h',tk,rfl,hS',hk'⟩:=hr₂
      repeat (any_goals (first | assumption | wp_step))
      exact h _ _ hS' hk'
     | _=>exact hr₂.elim
  | _=>exact hr.elim
end
end HP
namespace HP
open PySem PyProof.Rows
theorem ZcJ:Slot "set_iterator" "__next__" "set_iterator.__next__" :=
 .of (owner:="set_iterator") (n:="__next__") (by rw[typeLookup_type,builtinLookup_eq_fast]; kernel_rfl) (by decide +kernel) (by decide +kernel) (by decide +kernel)
  (by first | exact .inl (by decide +kernel) | exact .inr (by decide +kernel)) (by rw[isSubtype_type]; kernel_rfl)
theorem Zib:entryFor table "set_iterator.__next__" = some Builtin.«set_iterator.__next__»:=entryFor_of_tree (by kernel_rfl)
theorem ZiP:Slot "set_iterator" "__iter__" "set_iterator.__iter__" :=
 .of (owner:="set_iterator") (n:="__iter__") (by rw[typeLookup_type,builtinLookup_eq_fast]; kernel_rfl) (by decide +kernel) (by decide +kernel) (by decide +kernel)
  (by first | exact .inl (by decide +kernel) | exact .inr (by decide +kernel)) (by rw[isSubtype_type]; kernel_rfl)
theorem ZmA:entryFor table "set_iterator.__iter__" = some Builtin.«dict_keyiterator.__iter__» :=
 entryFor_alias (id':="dict_keyiterator.__iter__") (by kernel_rfl) rfl (by decide +kernel) (by kernel_rfl)
theorem ZkT:entryFor table "set.__iter__" = some Builtin.«frozenset.__iter__» :=
 entryFor_alias (id':="frozenset.__iter__") (by kernel_rfl) rfl (by decide +kernel) (by kernel_rfl)
theorem Zos:Manifest.owners.lookup (String.ofList ['r','o','t','a','r','e','t','i','_','t','e','s'].reverse)=some Manifest.sig_set_iterator:=by kernel_rfl
theorem Zix(a:Value):argsOk "set_iterator.__next__" ⟨[a],[]⟩:=by unfold argsOk; rw[signature?_of (id:="set_iterator.__next__") (n:=['_','_','t','x','e','n','_','_']) (o:=['r','o','t','a','r','e','t','i','_','t','e','s']) (by kernel_rfl) Zos]; kernel_rfl
theorem ZoV(a:Value):argsOk "set_iterator.__iter__" ⟨[a],[]⟩:=by unfold argsOk; rw[signature?_of (id:="set_iterator.__iter__") (n:=['_','_','r','e','t','i','_','_']) (o:=['r','o','t','a','r','e','t','i','_','t','e','s']) (by kernel_rfl) Zos]; kernel_rfl
theorem ZkI{α:Type}:∀(l:List α) (i:Nat) (h:i<l.length),(l[i]::l.eraseIdx i).Perm l
 | x::l,0,_=>.refl _
 | x::l,i+1,h=>by
  have h':i<l.length:=by simpa using h
  show(l[i]::x::l.eraseIdx i).Perm (x::l);exact(List.Perm.swap x l[i] _).trans ((ZkI l i h').cons x)
theorem ZlT{α:Type}(next:Nat->Nat):∀(n k:Nat) (left:List α) (out:Array α),left.length=n->(ZCj.go next n k left out).toList.Perm (out.toList++left)
 | 0,k,left,out,h=>by rw[ZAy h,ZyJ];exact .refl _
 | n+1,k,left,out,h=>by
  have hl:next k % left.length<left.length:=Nat.mod_lt _ (by omega)
  unfold ZCj.go;rw[Zye hl];dsimp only;refine(ZlT next n (k+1) _ _ (by rw[List.length_eraseIdx_of_lt hl]; omega)).trans ?_
  rw[ZAf,Zzh];refine List.Perm.append_left _ ?_;exact ZkI left _ hl
theorem Zk2{α:Type}(next:Nat->Nat)(xs:Array α):(ZCj next xs).toList.Perm xs.toList:=by
 have:=ZlT next xs.size 0 xs.toList #[] (by simp)
 simpa [ZCj]using this
end HP
namespace HP
open PySem PyProof.Rows
structure Zex(w:World)(h:Heap)(a:Addr)(es:Array (Int × Value))(ep:Nat)(t:SetTable):Prop where
 obj:∃o,h.get? a=some o/\o.ExactSet/\o.data=.set es ep t
 fit:t.fits es.size=true
 siz:es.size=t.place.size
 tab:Tab (!w.params.followText "set-order") t
theorem Zex.at'{w:World}{h h':Heap}{a:Addr}{es:Array (Int × Value)}{ep:Nat}{t:SetTable}(x:Zex w h a es ep t)(k:∀o,h.get? a=some o->h'.get? a=some o):Zex w h' a es ep t :=
 ⟨let ⟨o,e,r⟩:=x.obj; ⟨o,k o e,r⟩,x.fit,x.siz,x.tab⟩
def Zd1(w:World)(a:Addr)(es:Array (Int × Value))(ep:Nat):Array (Int × Value):=if w.params.followText "set-order" then ZCj (w.params.setOrder a ep) es else es
theorem Ziz(w:World)(a:Addr)(es:Array (Int × Value))(ep:Nat):(Zd1 w a es ep).toList.Perm es.toList:=by
 unfold Zd1; split
 ·exact Zk2 _ _
 ·exact .refl _
theorem ZiR(w:World)(a:Addr)(es:Array (Int × Value))(ep:Nat):(Zd1 w a es ep).size=es.size:=by have:=(Ziz w a es ep).length_eq;simpa using this
def ZgY(h:Heap)(it a:Addr)(slot i n ep:Nat):Prop:=∃o,h.get? it=some o/\o.cls=.type "set_iterator"/\o.data=.fields #[.int slot 0,.int i 0,.ref a,.int n 0,.int ep 0]
theorem ZgY.typeIs{s:Shared}{it a:Addr}{slot i n ep:Nat}(x:ZgY s.heap it a slot i n ep):s.TypeIs (.ref it) "set_iterator":=let ⟨o,ho,hc,_⟩:=x; ⟨o,ho,hc⟩
theorem ZgY.at'{h h':Heap}{it a:Addr}{slot i n ep:Nat}(x:ZgY h it a slot i n ep)(k:∀o,h.get? it=some o->h'.get? it=some o):ZgY h' it a slot i n ep:=let ⟨o,e,r⟩:=x; ⟨o,k o e,r⟩
section
variable{prog:Program}{w:World}{A:Around}{E:Value->Shared->Prop}{s:Shared}{it a:Addr}{es:Array (Int × Value)}{ep:Nat}{t:SetTable}
theorem ZtN{Q:Value->Shared->Prop}(x:Zex w s.heap a es ep t)
  (hQ:Q (.ref s.heap.objs.size) { s with heap:=s.heap.push { cls:=.type "set_iterator",data:=.fields #[.int 0 0,.int 0 0,.ref a,.int es.size 0,.int ep 0] } }) :
  wpAny (model prog w) A (pyIter (.ref a)) Q E s:=by
 obtain⟨o,ho,hex,hd⟩:=x.obj;have hT:s.TypeIs (.ref a) "set":=⟨o,ho,hex.1⟩;refine ZBV hT ZCw (Zzm ZCw hT ZkT ?_ (PySem.F.args_set_iter_1 _));unfold Builtin.«frozenset.__iter__» Builtin.Frozenset.slot0 slotArgs Builtin.Frozenset.addrOf Builtin.Frozenset.sizeOf;refine ZxZ (ZxZ (Zx5 (Zx5 ?_)));dsimp only;refine ZxZ (ZxZ (ZBw ho hd x.fit (Zx5 ?_)));have hdr:∀{R:Bool->Shared->Prop} {A':Around} {E':Value->Shared->Prop},R false s->wpAny (model prog w) A' (setDrawn a) R E' s:=λ{R A' E'} hR=>by unfold setDrawn setsByText;refine ZxZ (ZA4 ho hd x.fit (ZxZ (ZxZ (ZAI (Zx5 (Zx5 ?_))))));obtain⟨mk,pl,dm,fg,ld,mv,pn⟩:=t;obtain rfl:pn=true:=x.tab.plain;show R (!_&&(!true&&_)) s;simpa using hR
 refine ZxZ (hdr ?_);rw[if_neg (by simp)];refine ZxZ (Zx5 (ZxZ (wpAny_setEpoch_of ho hd x.fit ?_)));show wpAny (model prog w) A.in1 (newFields "set_iterator" [rawInt 0,rawInt 0,ZyZ a,rawInt (es.size:Int),rawInt (ep:Int)] >>= _) _ E s;refine ZxZ (Zy0 (Zx5 ⟨_,rfl,"set_iterator",_,⟨_,Zyi _ rfl,rfl⟩,ZcJ.lookup,?_⟩));simpa [rawInt]using hQ
theorem ZjM{slot i:Nat}{R:Option (Value × Nat)->Shared->Prop}(x:Zex w s.heap a es ep t)(hs:w.params.followText "set-order" = false->Zya t.place slot=i)
  (hR:R ((Zd1 w a es ep)[i]?.map λe=>(e.2,if w.params.followText "set-order" then slot else t.place.getD i 0+1)) s):wpAny (model prog w) A (setNext a slot i ep) R E s:=by
 obtain⟨o,ho,hex,hd⟩:=x.obj;unfold setNext setsByText;refine ZxZ (ZA4 ho hd x.fit ?_);dsimp only;refine ZxZ (ZxZ (ZAI (Zx5 ?_)));dsimp only;cases hb:w.params.followText "set-order" with
 | true=>have hb':(model prog w).w.params.followText "set-order" = true:=hb;rw[hb',if_pos rfl];unfold Zd1 at hR;rw[hb,if_pos rfl]at hR;simp only[if_pos]at hR;refine Zz7 (λq=>absurd q (by simp)) λ_=>?_;unfold setWalk setsByText;refine ZxZ (ZxZ (ZA4 ho hd x.fit ?_));dsimp only;refine ZxZ (ZxZ (ZAI (Zx5 ?_)));dsimp only;rw[hb',if_pos rfl];exact ZxZ (ZAI (Zx5 (Zx5 hR)))
 | false =>
  have hb':(model prog w).w.params.followText "set-order" = false:=hb;rw[hb',if_neg (by simp)];unfold Zd1 at hR;rw[hb]at hR;simp only[ZzR,if_false]at hR;have hi:=hs hb;have hled:t.led=true:=by rw[x.tab.led,hb]; rfl
  have hsz:=x.siz;obtain⟨mk,pl,dm,fg,ld,mv,pn⟩:=t;obtain rfl:pn=true:=x.tab.plain;obtain rfl:ld=true:=hled;refine Zz7 (λq=>absurd (show(!true&&_)=true from q) (by simp)) λ_=>?_;refine ZxZ ?_;refine Zz7 (λq=>absurd (show(!true&&_)=true from q) (by simp)) λ_=>?_;refine Zx5 ?_;dsimp only at hi hsz ⊢;rw[hi];refine Zx5 ?_
  by_cases hlt:i<es.size
  ·have h1:es[i]?=some es[i]:=ZAg hlt
   have h2:pl[i]?=some (pl.getD i 0):=by simp[Zz2,show i<pl.size by omega]
   rw[h1]at hR ⊢;rw[h2];exact hR
  ·have h1:es[i]?=none:=ZBa (by omega)
   rw[h1]at hR ⊢;exact hR
theorem ZsL{slot i:Nat}{e:Int × Value}{Q:Option Value->Shared->Prop}(hit:ZgY s.heap it a slot i es.size ep)(x:Zex w s.heap a es ep t)(hs:w.params.followText "set-order" = false->Zya t.place slot=i)(he:(Zd1 w a es ep)[i]?=some e)
  (hQ:∀h',ZgY h' it a (if w.params.followText "set-order" then slot else t.place.getD i 0+1) (i+1) es.size ep->ZzT it s.heap h'->Q (some e.2) { s with heap:=h' }) :
  wpAny (model prog w) A (pyNext (.ref it)) Q E s:=by
 obtain⟨o,ho,hc,hd⟩:=id hit;obtain⟨os,hos,hex,hds⟩:=x.obj;unfold pyNext;refine ZxZ (ZBN (wpAny_callSpecial?_slot (name:=ZAk "__next__") hit.typeIs ZcJ
  (Zzm ZcJ hit.typeIs Zib ?_ (Zix _))))
 unfold Builtin.«set_iterator.__next__» slotArgs;refine ZxZ (Zx5 ?_);dsimp only;refine ZxZ (ZBB ho hd ?_);dsimp only;refine ZxZ (ZBw hos hds x.fit ?_);refine Zz7 (λq=>absurd q (by simp)) λ_=>?_;simp only[ZA5];refine ZxZ (ZjM x hs ?_);rw[he];dsimp only[Option.map_some];refine ZxZ (ZAZ ho hd (by simp) ?_);have g1:(s.heap.update it (ZCF (·.setIfInBounds 0 (rawInt ((if w.params.followText "set-order" = true then slot else t.place.getD i 0+1:Nat):Int))))).get? it=some _:=Zzb _ ho (ZBk (ZzD hd _));refine ZxZ (ZAZ g1 (ZzD hd _) (by simp) ?_);refine Zx5 ⟨_,rfl,Zx5 (hQ _ ⟨_,Zzb _ g1 (ZBk (ZzD (ZzD hd _) _)),?_,?_⟩ ((Zza ..).trans (Zza ..)))⟩
 ·rw[ZBW,ZBW]; exact hc
 ·rw[ZzD (ZzD hd _)]; simp[rawInt]
theorem ZtF{slot i:Nat}{Q:Option Value->Shared->Prop}(hh:A.handled=none)(hit:ZgY s.heap it a slot i es.size ep)(x:Zex w s.heap a es ep t)(hs:w.params.followText "set-order" = false->Zya t.place slot=i)(he:es.size<=i)
  (hQ:∀h',Heap.ExtBut it s.heap h'->Q none { s with heap:=h' }):wpAny (model prog w) A (pyNext (.ref it)) Q E s:=by
 obtain⟨o,ho,hc,hd⟩:=id hit;obtain⟨os,hos,hex,hds⟩:=x.obj;have hn:(Zd1 w a es ep)[i]?=none:=ZBa (by rw[ZiR]; exact he);unfold pyNext;refine ZxZ (ZBN (wpAny_callSpecial?_slot (name:=ZAk "__next__") hit.typeIs ZcJ
  (Zzm ZcJ hit.typeIs Zib ?_ (Zix _))))
 unfold Builtin.«set_iterator.__next__» slotArgs;refine ZxZ (Zx5 ?_);dsimp only;refine ZxZ (ZBB ho hd ?_);dsimp only;refine ZxZ (ZBw hos hds x.fit ?_);refine Zz7 (λq=>absurd q (by simp)) λ_=>?_;simp only[ZA5];refine ZxZ (ZjM x hs ?_);rw[hn];dsimp only[Option.map_none];refine ZxZ (ZAZ ho hd (by simp) ?_);refine ZxZ ?_;simp only[newExc,newTuple];refine ZxZ (Zy0 ?_ (by size_fits));refine ZxZ (m:=ZBC _ _) (ZCq (a:=Zy2) (by first | rfl | (simp only[ZBC]; rfl)) ?_)
 refine Zy0 ?_ (by size_fits);simp only[raiseNew];refine ZxZ (wpAny_handled ?_);rw[show A.in1.handled=none from hh];refine ZxZ (Zx5 (wpAny_throw ?_));refine ZxZ (ZCa (T:="StopIteration") (b:=true) ⟨_,Zyi _ rfl,rfl⟩ isSubtype_stop ?_);exact Zx5 (hQ _ (((Zza ..).extBut.push _).push _))
theorem Zs1{slot i n:Nat}{Q:Value->Shared->Prop}(hit:ZgY s.heap it a slot i n ep)(h:Q (.ref it) s):wpAny (model prog w) A (pyIter (.ref it)) Q E s:=by refine ZBV hit.typeIs ZiP (Zzm ZiP hit.typeIs ZmA ?_ (ZoV _));show wpAny _ _ (ret (.ref it)) _ _ s;exact Zx5 ⟨_,rfl,"set_iterator",_,hit.typeIs,ZcJ.lookup,h⟩
theorem Zse(hh:A.handled=none)(I a:Addr)(hne:a≠I)(es:Array (Int × Value))(ep:Nat)(t:SetTable) :
  Walks prog w A I [I,a] [I] es.size (λi v=>∃e,(Zd1 w a es ep)[i]?=some e/\v=e.2) (λi h=>∃slot,ZgY h I a slot i es.size ep/\Zex w h a es ep t/\(w.params.followText "set-order" = false->Zya t.place slot=i)) where
 sub:=λb hb=>by simp at hb; simp[hb]
 frame:=λ_ _ _ ⟨slot,h1,h2,h3⟩ hk=>⟨slot,h1.at' λo e=>hk I (by simp) o e,h2.at' λo e=>hk a (by simp) o e,h3⟩
 item:=λi s Q E hi ⟨slot,h1,h2,h3⟩ hQ=>by
  have hlt:i<(Zd1 w a es ep).size:=by rw[ZiR]; exact hi
  have hx:(Zd1 w a es ep)[i]?=some (Zd1 w a es ep)[i]:=ZAg hlt;refine ZsL h1 h2 h3 hx λh' hit' hs'=>?_;refine hQ _ h' s.toks ⟨_,hx,rfl⟩ ⟨_,hit',h2.at' λo e=>hs'.extBut a o hne e,λhb=>?_⟩ λb o hb e=>hs'.extBut b o (λh=>hb (by simp[h])) e;rw[hb];exact ZqL h2.tab.rise (by rw[<-h2.siz]; exact hi)
 done:=λs Q E ⟨slot,h1,h2,h3⟩ hQ=>ZtF hh h1 h2 h3 (Zyb _) λh' he'=>hQ h' s.toks λb o hb e=>he' b o (λh=>hb (by simp[h])) e
 self:=λ_ _ _ _ ⟨slot,h1,_⟩ hQ=>Zs1 h1 hQ
end
end HP
namespace HP
open PySem PySem.W PyProof.Rows
section
variable{α β:Type}
def ZcK(o:Nat->Nat->Bool)(n:Nat):KasT α->(α->Prop)->Prop
 | .ret a,Q=>Q a
 | .ask i j k,Q=>i<n/\j<n/\ZcK o n (k (o i j)) Q
theorem ZcK.bnd{o:Nat->Nat->Bool}{n:Nat}{f:α->KasT β}{Q:β->Prop}:∀(t:KasT α),ZcK o n t (λa=>ZcK o n (f a) Q)->ZcK o n (t.bind f) Q
 | .ret a,h=>h
 | .ask i j k,h=>⟨h.1,h.2.1,ZcK.bnd (k (o i j)) h.2.2⟩
end
structure Pm(n:Nat)(p:Array Nat):Prop where
 pos:0<n
 perm:p.Perm (List.toArray (Zx8 n))
theorem Pm.size{n:Nat}{p:Array Nat}(h:Pm n p):p.size=n:=by have:=h.perm.size_eq;simpa using this
theorem Pm.lt{n:Nat}{p:Array Nat}(h:Pm n p)(i:Nat):p.getD i 0<n:=by
 by_cases hi:i<p.size
 ·have e:p.getD i 0=p[i]:=by simp[Zz2,hi]
  rw[e];have:=(ZBO.mp h.perm).mem_iff (a:=p[i]);have h2:=this.mp (by simp);simpa using h2
 ·have e:p.getD i 0=0:=by simp[Zz2,hi]
  rw[e]; exact h.pos
theorem Pm.rev{n:Nat}{p:Array Nat}(h:Pm n p)(i j:Nat):Pm n (kas_rev p i j):=⟨h.pos,(mirror_perm _ _ _ _).trans h.perm⟩
theorem Pm.bub{n:Nat}{p:Array Nat}(h:Pm n p)(i j:Nat):Pm n (bubble p i j):=⟨h.pos,(bubble_perm _ _ _).trans h.perm⟩
theorem getD_eq?(p:Array Nat)(i:Nat):p.getD i 0=(p[i]?).getD 0:=by simp[Array.getD_eq_getD_getElem?]
section
variable(O:KeyOrd)(key:Nat->O.α)
def Ka(p:Array Nat)(i:Nat):O.α:=key (p.getD i 0)
def Up(p:Array Nat)(k:Nat):Prop:=∀i j,i<=j->j<k->O.kle (Ka O key p i) (Ka O key p j)
def Dn(p:Array Nat)(k:Nat):Prop:=∀i j,i<=j->j<k->O.kle (Ka O key p j) (Ka O key p i)
def Ev(p:Array Nat)(m q:Nat):Prop:=∀i,m-(q+1)<=i->i<m->Ka O key p i=Ka O key p (m-1)
abbrev orc:Nat->Nat->Bool:=λi j=>O.blt (key i) (key j)
variable{O key}{p:Array Nat}{n:Nat}
theorem Zon{i j:Nat}(hj:j<=p.size)(k:Nat):Ka O key (kas_rev p i j) k=if i<=k/\k<j then Ka O key p (i+j-1-k)else Ka O key p k:=by unfold Ka kas_rev;rw[getD_eq?,getElem?_mirror_all hj];split<;>rw[<-getD_eq?]
theorem ZiE{i j:Nat}(hj:j<=p.size)(h:∀k,i<=k->k<j->Ka O key p k=Ka O key p (j-1))(k:Nat):Ka O key (kas_rev p i j) k=Ka O key p k:=by
 rw[Zon hj];split
 ·rename_i hk
  rw[h _ (by omega) (by omega),h k hk.1 hk.2]
 ·rfl
theorem Zr1{s d:Nat}(hs:s<p.size)(hd:d<=s)(k:Nat):Ka O key (bubble p s d) k=if k=s-d then Ka O key p s else if s-d<k/\k<=s then Ka O key p (k-1)else Ka O key p k:=by
 unfold Ka;rw[getD_eq?,getElem?_bubble hs d hd]
 by_cases h1:k=s-d
 ·rw[if_pos h1,if_pos h1,<-getD_eq?]
 ·rw[if_neg h1,if_neg h1]
  by_cases h2:s-d<k/\k<=s
  ·rw[if_pos h2,if_pos h2,<-getD_eq?]
  ·rw[if_neg h2,if_neg h2,<-getD_eq?]
theorem Up.one:Up O key p 1:=λi j h1 h2=>by
 obtain rfl:i=j:=by omega
 exact ZAw _
theorem Up.more{k:Nat}(h:Up O key p k)(hl:O.kle (Ka O key p (k-1)) (Ka O key p k)):Up O key p (k+1):=λi j h1 h2=>by
 by_cases hj:j<k
 ·exact h i j h1 hj
 obtain rfl:j=k:=by omega
 by_cases hi:i=j
 ·subst hi; exact ZAw _
 ·exact ZBh (h i (j-1) (by omega) (by omega)) hl
theorem Dn.more{k:Nat}(h:Dn O key p k)(hl:O.kle (Ka O key p k) (Ka O key p (k-1))):Dn O key p (k+1):=λi j h1 h2=>by
 by_cases hj:j<k
 ·exact h i j h1 hj
 obtain rfl:j=k:=by omega
 by_cases hi:i=j
 ·subst hi; exact ZAw _
 ·exact ZBh hl (h i (j-1) (by omega) (by omega))
theorem Dn.same{p':Array Nat}{k:Nat}(h:Dn O key p k)(e:∀i,Ka O key p' i=Ka O key p i):Dn O key p' k:=λi j h1 h2=>by rw[e,e]; exact h i j h1 h2
theorem Zj4(hp:Pm n p){Q:Nat->Prop}:∀(f m:Nat),Up O key p m->(∀m',m<=m'->m'<=m+f->Up O key p m'->(m'=m+f\/O.klt (Ka O key p m') (Ka O key p (m'-1)))->Q m')->ZcK (orc O key) n (kas_asc p f m) Q
 | 0,m,hu,hq=>hq m (Zyb _) (by omega) hu (.inl rfl)
 | f+1,m,hu,hq=>by
  refine⟨hp.lt _,hp.lt _,?_⟩;dsimp only;split
  ·rename_i h
   exact hq m (Zyb _) (by omega) hu (.inr h)
  ·rename_i h
   refine Zj4 hp f (m+1) (hu.more (Zz8 h)) λm' h1 h2 h3 h4=>hq m' (by omega) (by omega) h3 (h4.imp (λe=>by omega) id)
theorem Zgy{Q:Array Nat × Nat × Nat->Prop}:∀(f:Nat) (p:Array Nat) (m q:Nat),Pm n p->Dn O key p m->q+1<=m->Ev O key p m q->m+f<=n ->
  (∀p' m' q',Pm n p'->m<=m'->m'<=m+f->Dn O key p' m'->q'+1<=m'->Ev O key p' m' q'->Q (p',m',q'))->ZcK (orc O key) n (kas_desc f p m q) Q
 | 0,p,m,q,hp,hd,h1,he,hn,hq=>hq p m q hp (Zyb _) (by omega) hd h1 he
 | f+1,p,m,q,hp,hd,h1,he,hn,hq=>by
  have hz:m<=p.size:=by rw[hp.size]; omega
  have e0:∀p',Ev O key p' (m+1) 0:=λp' i h1 h2=>by congr 1; omega
  refine⟨hp.lt _,hp.lt _,?_⟩;dsimp only;split
  ·rename_i h
   have hd':=hd.more (ZA6 h);split
   ·exact Zgy f _ (m+1) 0 (hp.rev _ _) (hd'.same (ZiE hz he)) (by omega) (e0 _) (by omega) λp' m' q' a b c d e g=>hq p' m' q' a (by omega) (by omega) d e g
   ·exact Zgy f _ (m+1) 0 hp hd' (by omega) (e0 _) (by omega) λp' m' q' a b c d e g=>hq p' m' q' a (by omega) (by omega) d e g
  ·rename_i h
   refine⟨hp.lt _,hp.lt _,?_⟩;dsimp only;split
   ·exact hq p m q hp (Zyb _) (by omega) hd h1 he
   ·rename_i h'
    have l1:=Zz8 h;have l2:=Zz8 h';have ee:Ka O key p m=Ka O key p (m-1):=ZCH l2 l1;refine Zgy f p (m+1) (q+1) hp (hd.more l2) (by omega) (λi a b=>?_) (by omega) λp' m' q' a b c d e g=>hq p' m' q' a (by omega) (by omega) d e g;rw[show m+1-1=m by omega]
    by_cases hi:i=m
    ·rw[hi]
    ·rw[ee]; exact he i (by omega) (by omega)
theorem Zl0{Q:Nat × Array Nat->Prop}{m:Nat}(hp:Pm n p)(hd:Dn O key p m)(h1:1<=m)(hm:m<=n)(hq:∀m' p',1<=m'->m'<=n->Pm n p'->Up O key p' m'->Q (m',p')):ZcK (orc O key) n (kas_tail3 m n p) Q:=by
 have hz:m<=p.size:=by rw[hp.size]; omega
 refine ZcK.bnd _ (Zj4 (hp.rev 0 m) (n-m) m (λi j a b=>?_) λm' a b c _=>hq m' _ (by omega) (by omega) (hp.rev 0 m) c);rw[Zon hz,Zon hz,if_pos (by omega),if_pos (by omega)];exact hd _ _ (by omega) (by omega)
theorem ZlU{Q:Nat × Array Nat->Prop}{m:Nat}(hp:Pm n p)(hd:Dn O key p (m+1))(hm:m+1<=n)(hq:∀m' p',1<=m'->m'<=n->Pm n p'->Up O key p' m'->Q (m',p')):ZcK (orc O key) n (kas_descPart m n p) Q:=by
 refine ZcK.bnd _ (Zgy (n-(m+1)) p (m+1) 0 hp hd (by omega) (λi a b=>by congr 1; omega) (by omega) λp' m' q' h1 h2 h3 h4 h5 h6=>?_);have hz:m'<=p'.size:=by rw[h1.size]; omega
 dsimp only;split
 ·exact Zl0 (h1.rev _ _) (h4.same (ZiE hz h6)) (by omega) (by omega) hq
 ·exact Zl0 h1 h4 (by omega) (by omega) hq
theorem Zq4{Q:Nat × Array Nat->Prop}(hp:Pm n p)(hq:∀m' p',1<=m'->m'<=n->Pm n p'->Up O key p' m'->Q (m',p')):ZcK (orc O key) n (kas_count n p) Q:=by
 have h0:=hp.pos;refine ZcK.bnd _ (Zj4 hp (n-1) 1 Up.one λm h1 h2 h3 h4=>?_);have hz:m<=p.size:=by rw[hp.size]; omega
 split
 ·exact hq m p (by omega) (by omega) hp h3
 ·rename_i hne
  have hne':m≠n:=by simpa using hne
  have hlt:O.klt (Ka O key p m) (Ka O key p (m-1)):=h4.resolve_left (by omega);split
  ·rename_i hm
   refine⟨hp.lt _,hp.lt _,?_⟩;dsimp only;split
   ·exact hq m p (by omega) (by omega) hp h3
   ·rename_i hr
    have hr':O.kle (Ka O key p (m-1)) (Ka O key p 0):=Zz8 hr;have all:∀k,0<=k->k<m->Ka O key p k=Ka O key p (m-1):=λk _ hk=>ZCH (h3 k (m-1) (by omega) (by omega)) (ZBh hr' (h3 0 k (by omega) hk));refine ZlU (hp.rev _ _) (Dn.same ?_ (ZiE hz all)) (by omega) hq;refine Dn.more (λi j a b=>?_) (ZA6 hlt);rw[all i (by omega) (by omega),all j (by omega) b]; exact ZAw _
  ·obtain rfl:m=1:=by omega
   refine ZlU hp (Dn.more (λi j a b=>?_) (ZA6 hlt)) (by omega) hq;obtain rfl:i=j:=by omega
   exact ZAw _
theorem ZhO{Q:Nat->Prop}{k:Nat}(hp:Pm n p)(hu:Up O key p k):∀(f l r:Nat),l<=r->r<=k->r-l<=f->(∀i,i<l->O.kle (Ka O key p i) (Ka O key p k))->(∀i,r<=i->i<k->O.klt (Ka O key p k) (Ka O key p i)) ->
  (∀l,l<=k->(∀i,i<l->O.kle (Ka O key p i) (Ka O key p k))->(∀i,l<=i->i<k->O.klt (Ka O key p k) (Ka O key p i))->Q l)->ZcK (orc O key) n (kas_place p k f l r) Q
 | 0,l,r,h1,h2,h3,lo,hi,hq=>by
  obtain rfl:l=r:=by omega
  exact hq l h2 lo hi
 | f+1,l,r,h1,h2,h3,lo,hi,hq=>by
  unfold kas_place;split
  ·obtain rfl:l=r:=by omega
   exact hq l h2 lo hi
  ·refine⟨hp.lt _,hp.lt _,?_⟩
   dsimp only;split
   ·rename_i h
    exact ZhO hp hu f l ((l+r) / 2) (by omega) (by omega) (by omega) lo (λi a b=>KeyOrd.klt_of_klt_of_kle h (hu _ _ a b)) hq
   ·rename_i h
    refine ZhO hp hu f ((l+r) / 2+1) r (by omega) (by omega) (by omega) (λi a=>ZBh (hu i ((l+r) / 2) (by omega) (by omega)) (Zz8 h)) hi hq
theorem ZoQ{Q:Array Nat->Prop}:∀(f:Nat) (p:Array Nat) (k:Nat),Pm n p->Up O key p k->k+f=n->(∀p',Pm n p'->Up O key p' n->Q p')->ZcK (orc O key) n (kas_bin f p k) Q
 | 0,p,k,hp,hu,hn,hq=>by
  obtain rfl:k=n:=by omega
  exact hq p hp hu
 | f+1,p,k,hp,hu,hn,hq=>by
  refine ZcK.bnd _ (ZhO hp hu k 0 k (by omega) (Zyb _) (by omega) (λi a=>by omega) (λi a b=>by omega) λl hl lo hi=>?_);refine ZoQ f _ (k+1) (hp.bub _ _) (λi j a b=>?_) (by omega) hq;have hk:k<p.size:=by rw[hp.size]; omega
  rw[Zr1 hk (by omega),Zr1 hk (by omega),show k-(k-l)=l by omega]
  repeat' split
  all_goals first
   | (exfalso; omega)
   | exact ZAw _
   | exact lo _ (by omega)
   | exact ZA6 (hi _ (by omega) (by omega))
   | exact hu _ _ (by omega) (by omega)
theorem ZrI(hn:0<n){Q:Array Nat->Prop}(hq:∀p,Pm n p->Up O key p n->Q p):ZcK (orc O key) n (kas_sort n) Q:=by
 refine ZcK.bnd _ (Zq4 ⟨hn,.refl _⟩ λm p h1 h2 h3 h4=>?_);dsimp only;rw[show max m 1=m by omega];split
 ·exact ZoQ _ p m h3 h4 (by omega) hq
 ·exact hq p h3 (by rwa [show n=m by omega])
end
theorem lex_irrefl:∀a:List Int,HM.lexLt a a=false
 | []=>rfl
 | x::a=>by show(if x=x then HM.lexLt a a else decide (x<x))=false;rw[if_pos rfl]; exact lex_irrefl a
theorem Zge(x y:Int)(a b:List Int):HM.lexLt (x::a) (y::b)=if x=y then HM.lexLt a b else decide (x<y):=rfl
theorem lex_trans:∀a b c:List Int,HM.lexLt a b=true->HM.lexLt b c=true->HM.lexLt a c=true
 | [],[],_,h,_=>by cases h
 | [],_::_,[],_,h=>by cases h
 | [],_::_,_::_,_,_=>rfl
 | _::_,[],_,h,_=>by cases h
 | _::_,_::_,[],_,h=>by cases h
 | x::a,y::b,z::c,h1,h2=>by
  rw[Zge]at *;split at h1
  ·rename_i e
   subst e;split at h2
   ·rename_i e; subst e; rw[if_pos rfl]; exact lex_trans a b c h1 h2
   ·rename_i e; rw[if_neg e]; exact h2
  ·split at h2
   ·rename_i e1 e2; subst e2; rw[if_neg e1]; exact h1
   ·rename_i e1 e2
    have h1:=of_decide_eq_true h1;have h2:=of_decide_eq_true h2;rw[if_neg (by omega)]; exact decide_eq_true (by omega)
theorem Zi4:∀a b c:List Int,HM.lexLt a c=true->HM.lexLt a b=true\/HM.lexLt b c=true
 | [],[],_,h=>.inr h
 | [],_::_,_,_=>.inl rfl
 | _::_,_,[],h=>by cases h
 | _::_,[],_::_,_=>.inr rfl
 | x::a,y::b,z::c,h=>by
  rw[Zge]at *;rw[Zge];split at h
  ·rename_i e
   subst e
   by_cases e:x=y
   ·subst e; rw[if_pos rfl,if_pos rfl]; exact Zi4 a b c h
   ·rw[if_neg e,if_neg (Zy1 e)]
    by_cases q:x<y
    ·exact .inl (decide_eq_true q)
    ·exact .inr (decide_eq_true (by omega))
  ·rename_i e
   have h:=of_decide_eq_true h
   by_cases e1:x=y
   ·subst e1; rw[if_neg e]; exact .inr (decide_eq_true h)
   ·rw[if_neg e1]
    by_cases q:x<y
    ·exact .inl (decide_eq_true q)
    ·rw[if_neg (by omega)]; exact .inr (decide_eq_true (by omega))
theorem ZiQ:∀a b:List Int,HM.lexLt a b=false->HM.lexLt b a=false->a=b
 | [],[],_,_=>rfl
 | [],_::_,h,_=>by cases h
 | _::_,[],_,h=>by cases h
 | x::a,y::b,h1,h2=>by
  rw[Zge]at h1 h2
  by_cases e:x=y
  ·subst e
   rw[if_pos rfl]at h1 h2;rw[ZiQ a b h1 h2]
  ·rw[if_neg e]at h1
   rw[if_neg (Zy1 e)]at h2;have h1:=of_decide_eq_false h1;have h2:=of_decide_eq_false h2;omega
@[reducible] def Zn0:KeyOrd where
 α:=List Int
 blt:=HM.lexLt
 irrefl:=lex_irrefl
 trans:=lex_trans
 negTrans:=Zi4
 total:=ZiQ
theorem ZhY{α:Type}{R:α->α->Prop}(anti:∀a b,R a b->R b a->a=b):∀{l m:List α},l.Perm m->l.Pairwise R->m.Pairwise R->l=m
 | [],m,hp,_,_=>(List.nil_perm.mp hp).symm
 | x::l,[],hp,_,_=>absurd hp.symm (by intro q; exact List.cons_ne_nil _ _ (List.nil_perm.mp q))
 | x::l,y::m,hp,hl,hm=>by
  obtain⟨l1,l2⟩:=ZyQ.mp hl;obtain⟨m1,m2⟩:=ZyQ.mp hm;have e:x=y:=by
   rcases Zyo.mp (hp.mem_iff.mp (Zx3 ..))with e | e
   ·exact e
   ·rcases Zyo.mp (hp.mem_iff.mpr (Zx3 ..))with e' | e'
    ·exact e'.symm
    ·exact anti x y (l1 y e') (m1 x e)
  subst e;rw[ZhY anti ((List.perm_cons x).mp hp) l2 m2]
def TI(h:Heap)(b:Addr)(t:List Int):Prop:=∃o its n,h.get? b=some o/\o.cls=.type "tuple"/\o.data=.seq its n/\IntsAre its.toList t
theorem TI.keep{h h':Heap}{b:Addr}{t:List Int}(x:TI h b t)(k:∀o,h.get? b=some o->h'.get? b=some o):TI h' b t:=let ⟨o,its,n,e,r⟩:=x; ⟨o,its,n,k o e,r⟩
section
variable{prog:Program}{w:World}{A:Around}{E:Value->Shared->Prop}{s:Shared}
theorem Zsv{fin:Bool}{Q:Bool->Shared->Prop}:∀{vs ws:List Value} {a b:List Int} (i:Nat),IntsAre vs a->IntsAre ws b->fin=decide (vs.length<ws.length)->Q (HM.lexLt a b) s->KatLex prog w A true fin Q (vs.zip ws) i s
 | _,_,_,_,i,.nil,.nil,e,q=>by subst e; exact kat_nil q
 | _,_,_,_,i,.nil,.cons _ _ _,e,q=>by subst e; exact kat_nil q
 | _,_,_,_,i,.cons _ _ _,.nil,e,q=>by subst e; exact kat_nil q
 | _,_,_,_,i,.cons x t hv,.cons y u hw,e,q=>by
  rw[List.zip_cons_cons];refine kat_cons (wpAny_eqBool_int ?_);rw[Zge]at q
  by_cases h:x=y
  ·rw[if_pos h]at q
   rw[show(x==y)=true by simpa using h];refine kat_yes (Zsv (i+1) hv hw ?_ q);rw[e,Zyg,Zyg];exact decide_eq_decide.mpr (by omega)
  ·rw[if_neg h]at q
   rw[show(x==y)=false by simpa using h];refine kat_no ?_
   by_cases hi:i=0
   ·rw[show(true&&i==0)=true by simpa using hi]
    exact oneLt_int q
   ·rw[show(true&&i==0)=false by simpa using hi]
    exact kat_one _ _ (PyProof.Rows.lt_int q)
theorem Zv5{x y:Addr}{a b:List Int}{Q:Bool->Shared->Prop}(hx:TI s.heap x a)(hy:TI s.heap y b)(h:Q (HM.lexLt a b) s):wpAny (model prog w) A (keyLt' (tuples' true) (.ref x) (.ref y)) Q E s:=by obtain⟨ox,ix,n,e1,_,d1,r1⟩:=hx;obtain⟨oy,iy,k,e2,_,d2,r2⟩:=hy;refine kat_lt e1 d1 e2 d2 (Zsv 0 r1 r2 ?_ h);rw[Zyt,Zyt]
theorem ZpS{α:Type}{cmp:Nat->Nat->(Bool->Shared->Prop)->Shared->Prop}{o:Nat->Nat->Bool}{n:Nat}(hc:∀i j C,i<n->j<n->C (o i j) s->cmp i j C s){G:α->Shared->Prop}:∀(t:KasT α),ZcK o n t (λa=>G a s)->t.kasWp cmp G s
 | .ret a,h=>h
 | .ask i j k,h=>hc i j _ h.1 h.2.1 (ZpS hc (k (o i j)) h.2.2)
theorem Ztp{a:Addr}{vs:List Value}{ts:List (List Int)}{n:Nat}{P:PySem.Fin->Shared->Prop}(ho:s.heap.get? a=some (seqObj "list" vs.toArray n))(hl:ts.length=vs.length)
  (hT:∀(i:Nat) t,ts[i]?=some t->∃b,vs[i]?=some (.ref b)/\TI s.heap b t) (hne:vs.length<2\/∀t∈ts,t≠[]) (h64:vs.length<64)
  (h:∀p:List Nat,p.Perm (Zx8 vs.length)->(p.map λi=>ts.getD i []).Pairwise (λx y=>HM.lexLt y x=false)->P (.done (.ret .none)) { s with heap:=sortedHeap s.heap a vs (p.map λi=>vs.getD i Zy2).toArray }) :
  wpAny (model prog w) A (Builtin.«list.sort» ⟨[.ref a],[]⟩) P E s:=by
 rw[list_sort_plain];have ha:a<s.heap.objs.size:=Zyh ho;refine ZxZ (listItems_at ho rfl (ZxZ (listUpdate_at ho rfl ?_ (by rw[Zyj,Zzo]; omega) (Zzr _))));obtain⟨e1,ho1⟩:∃e1,(s.heap.update a (ZAV λ_=>#[])).get? a=some (seqObj "list" #[] e1):=⟨_,get?_update_seq ho (λ_=>#[])⟩;refine ZxZ (seqEpoch_at ho1 rfl ?_);refine ZxZ (wpAny_newTuple ?_ (by show vs.length<=_; rw[Zzo]; omega));refine ZxZ (wpAny_newList ?_ (Zzr _));refine Zzc ?_;generalize hG:((s.heap.update a (ZAV λ_=>#[])).push (seqObj "tuple" vs.toArray 0)).push (seqObj "list" #[] 0)=g;have ho6:g.get? a=some (seqObj "list" #[] e1):=by rw[<-hG,ZA7 _ _ _ (by rw[size_push',ZBi]; exact Zyp (ZAA ha)),ZA7 _ _ _ (by rw[ZBi]; exact Zyp ha)];exact ho1
 have hold:∀b o,b≠a->s.heap.get? b=some o->g.get? b=some o:=λb o hb e=>by have hlt:=Zyh e;rw[<-hG,ZA7 _ _ _ (by rw[size_push',ZBi]; exact Zyp (ZAA hlt)),ZA7 _ _ _ (by rw[ZBi]; exact Zyp hlt),Heap.get?_update_ne _ _ _ _ hb];exact e
 have hT6:∀(i:Nat) t,ts[i]?=some t->∃b,vs[i]?=some (.ref b)/\TI g b t:=λi t e=>by
  obtain⟨b,e1,x⟩:=hT i t e;refine⟨b,e1,x.keep λo q=>hold b o ?_ q⟩
  rintro rfl
  obtain⟨o',_,_,q1,q2,_⟩:=x;rw[ho]at q1;cases q1;injection q2 with q2
  exact absurd q2 (by decide)
 show wpAny (model prog w) A _ P E { s with heap:=g };dsimp only;have fin:∀(st':SortSt) (p:List Nat),p.Perm (Zx8 vs.length)->(p.map λi=>ts.getD i []).Pairwise (λx y=>HM.lexLt y x=false)->(arrOf st').map (·.2)=(p.map λi=>vs.getD i Zy2).toArray->failedOf st'=none ->
   wpAny (model prog w) A (do
    let touched:=(<-seqEpoch a) != e1
    Builtin.List.listUpdate (.ref a) λ_=>(arrOf st').map (·.2)
    if let some e:=failedOf st' then rule "list.sort.comparison-raised"; throw e
    if touched then rule "list.sort.modified"; raiseError "ValueError" "list modified during sort"
    ret .none) P E { s with heap:=g }:=by
  intro st' p hp hs har hf;refine ZxZ (seqEpoch_at ho6 rfl ?_);rw[har];refine ZxZ (listUpdate_at ho6 rfl ?_ (Zzr _) (by show(p.map λi=>vs.getD i Zy2).toArray.size<=_; rw[Zyj,Zx1,hp.length_eq,ZAd,Zzo]; omega));rw[hf];simp only[bne_self_eq_false,ZzR,if_false];refine Zx5 ?_;have:=h p hp hs;unfold sortedHeap at this;rw[hG]at this;exact this
 by_cases h2:vs.toArray.size<2
 ·rw[if_pos h2,if_pos h2]
  refine ZxZ (Zx5 ?_);rw[StateT.run_pure];refine ZxZ (Zx5 ?_);refine fin (SortSt.mk' general' (vs.toArray.zip vs.toArray) #[] 7 none) (Zx8 vs.length) (.refl _) ?_ ?_ rfl
  ·rw[Zyj]at h2
   have:vs.length=0\/vs.length=1:=by omega
   rcases this with e | e<;>rw[e]<;>simp
  ·rw[Zyj]at h2
   show Array.map (·.2) (vs.toArray.zip vs.toArray)=_
   match vs,h2 with
   | [],_=>simp
   | [v],_=>simp
 ·rw[if_neg h2,if_neg h2]
  rw[Zyj]at h2;have hne':∀t∈ts,t≠[]:=hne.resolve_left h2;have tups:∀(vs:List Value) (ts:List (List Int)),ts.length=vs.length->(∀(i:Nat) t,ts[i]?=some t->∃b,vs[i]?=some (.ref b)/\TI g b t)->(∀t∈ts,t≠[])->∃fs,KatTups g vs fs/\fs.length=vs.length/\∀v∈fs,∃x t,v=ZzQ x t:=by
   intro vs
   induction vs with
   | nil=>intro ts hl _ _; exact⟨[],KatTups.nil,rfl,by simp⟩
   | cons v vs ih =>
    intro ts hl hT hn;cases ts with
    | nil=>simp at hl
    | cons t ts =>
     obtain⟨fs,f1,f2,f3⟩:=ih ts (by simpa using hl) (λi t e=>hT (i+1) t (by simpa using e)) λx hx=>hn x (Zx4 _ hx);obtain⟨b,eb,o,its,m,g1,g2,g3,g4⟩:=hT 0 t rfl;simp at eb;subst eb;cases t with
     | nil=>exact absurd rfl (hn [] (Zx3 ..))
     | cons x t =>
      cases hi:its.toList with
      | nil=>rw[hi]at g4; cases g4
      | cons y ys =>
       rw[hi]at g4;cases g4 with
       | cons _ u _ =>
        refine⟨.int x u::fs,KatTups.cons g1 g2 g3 ?_ f1,by simp[f2],λv hv=>?_⟩
        ·rw[<-ZyS,hi]; rfl
        ·rcases Zyo.mp hv with e | e
         ·exact⟨x,u,e⟩
         ·exact f3 v e
  obtain⟨fs,f1,f2,f3⟩:=tups vs ts hl hT6 hne';refine ZxZ (kat_kind (s:={ s with heap:=g }) (T:=.type "int") f1 (by omega) (λv hv=>?_) (by rfl) ?_)
  ·obtain⟨x,t,rfl⟩:=f3 v hv
   exact Looks.of_pure rfl
  rw[show(ZAT "int" != ZAT "tuple")=true by decide];refine ZxZ (Zzg (kat_run (ks:=vs) (Q:=λst' s'=>s'={ s with heap:=g }/\∃p:Array Nat,Pm vs.length p/\Up Zn0 (λi=>ts.getD i []) p vs.length/\arrOf st'=p.map (kas_item (vs.toArray.zip vs.toArray))/\failedOf st'=none)
   (G:=λp s'=>s'={ s with heap:=g }/\Pm vs.length p/\Up Zn0 (λi=>ts.getD i []) p vs.length) rfl (by omega) h64 (λp' st' s' a1 a2 a3 a4=>⟨a4.1,p',a4.2.1,a4.2.2,a2,a3⟩) ?_) ?_ λ_ _ e=>e)
  ·refine ZpS (o:=orc Zn0 λi=>ts.getD i []) (n:=vs.length) (λi j C hi hj hC=>?_) _ (ZrI (by omega) λp h1 h2=>⟨rfl,h1,h2⟩)
   have gi:ts[i]?=some (ts.getD i []):=by simp[show i<ts.length by omega]
   have gj:ts[j]?=some (ts.getD j []):=by simp[show j<ts.length by omega]
   obtain⟨b1,v1,x1⟩:=hT6 i _ gi;obtain⟨b2,v2,x2⟩:=hT6 j _ gj;show wpAny (model prog w) A (keyLt' _ (vs.getD i Zy2) (vs.getD j Zy2)) C _ _;rw[show vs.getD i Zy2=.ref b1 by simp[Zzv,v1],show vs.getD j Zy2=.ref b2 by simp[Zzv,v2]];exact Zv5 x1 x2 hC
  ·rintro ⟨⟨⟩,st'⟩ s' ⟨rfl,p,hp,hu,har,hf⟩
   refine fin st' p.toList ?_ ?_ (kat_snds rfl har) hf
   ·have:=ZBO.mp hp.perm
    simpa using this
   ·rw[ZBX,ZB2]
    intro i j hi hj hij;have hsz:=hp.size;have q:=hu i j (ZzS hij) (by rw[Zyt]at hj; omega);unfold Ka at q;rw[show p.getD i 0=p.toList[i] by simp[Zz2,show i<p.size by simpa using hi],show p.getD j 0=p.toList[j] by simp[Zz2,show j<p.size by simpa using hj]]at q;exact q
end
def ZeX(h:Heap)(d:Addr)(es:Array DictEntry)(ep:Nat):Prop:=∃o,h.get? d=some o/\o.ExactDict/\o.data=.dict es ep
theorem ZeX.at'{h h':Heap}{d:Addr}{es:Array DictEntry}{ep:Nat}(x:ZeX h d es ep)(e:∀o,h.get? d=some o->h'.get? d=some o):ZeX h' d es ep:=let ⟨o,ho,r⟩:=x; ⟨o,e _ ho,r⟩
theorem ZeX.typeIs{s:Shared}{d:Addr}{es:Array DictEntry}{ep:Nat}(x:ZeX s.heap d es ep):s.TypeIs (.ref d) "dict":=let ⟨o,ho,hc,_⟩:=x; ⟨o,ho,hc.1⟩
theorem ZeX.lt{h:Heap}{d:Addr}{es:Array DictEntry}{ep:Nat}(x:ZeX h d es ep):d<h.objs.size:=let ⟨o,ho,_⟩:=x; Zyh ho
section
variable{prog:Program}{w:World}{A:Around}{E:Value->Shared->Prop}{s:Shared}{it d:Addr}{es:Array DictEntry}{ep i:Nat}
theorem Zoh{Q:Value->Shared->Prop}(hd:(d==Zzy)=false)(hm:ZeX s.heap d es ep)
  (hQ:Q (.ref s.heap.objs.size) { s with heap:=s.heap.push { cls:=.type "dict_keyiterator",data:=.fields #[.ref d,.int 0 0,.int es.size 0,.int ep 0] } }) :
  wpAny (model prog w) A (pyIter (.ref d)) Q E s:=by
 obtain⟨o,ho,hc,hdat⟩:=id hm;have hT:=hm.typeIs;refine ZBV hT F.slot_dict_iter (Zzm F.slot_dict_iter hT F.entry_dict_iter ?_ (F.args_dict_iter_1 _));unfold Builtin.«dict.__iter__»;refine ZxZ ?_;unfold Builtin.Dict.dictSlotNone;refine ZxZ (wpAny_notOrdered_dict hT ?_);show wpAny _ _ (pure (ZyZ d)) _ _ s;refine Zx5 ?_;show wpAny _ _ (ZCx d >>= _) _ _ s;unfold ZCx;rw[if_neg (by rw[hd]; exact ZyI)];refine ZxZ (Zx5 (ZxZ (ZA2 ho hdat (ZxZ (ZCk ho hdat ?_)))));refine ZxZ (Zy0 (Zx5 ⟨_,rfl,"dict_keyiterator",_,⟨_,Zyi _ rfl,rfl⟩,F.slot_dict_keyiterator_next.lookup,?_⟩));simpa [rawInt]using hQ
theorem Zoz{e:DictEntry}{Q:Option Value->Shared->Prop}(hit:s.heap.IsKeyIter it d i es.size ep)(hm:ZeX s.heap d es ep)(hx:es[i]?=some e)
  (hQ:∀h',h'.IsKeyIter it d (i+1) es.size ep->ZzT it s.heap h'->Q (some e.key) { s with heap:=h' }) :
  wpAny (model prog w) A (pyNext (.ref it)) Q E s:=by
 obtain⟨o,ho,hc,hd⟩:=id hit;obtain⟨od,hod,hcd,hdd⟩:=id hm;unfold pyNext;refine ZxZ (ZBN (wpAny_callSpecial?_slot (name:=ZAk "__next__") hit.typeIs F.slot_dict_keyiterator_next
  (Zzm F.slot_dict_keyiterator_next hit.typeIs F.entry_dict_keyiterator_next ?_ (F.args_dict_keyiterator_next_1 _))))
 refine ZxZ (Zx5 (ZxZ (ZxZ ?_)))
 first | refine ZxZ (ZzY hit.typeIs (Zx5 ?_)) | refine ZxZ (ZAl hit.typeIs (Zx5 ?_))
 refine ZxZ (ZBB ho hd ?_);have hown:ZBD "dict_keyiterator" = false:=by decide
 simp only[hown,ZzR,if_false];show wpAny _ _ (if(ZyZ d==Zy2)=true then _ else _) _ _ s;rw[if_neg (show ¬((ZyZ d==Zy2)=true) from ZyI)];refine ZxZ (Zx5 (ZxZ (ZA2 hod hdd ?_)));rw[if_neg (by simp)];refine ZxZ (Zx5 (ZxZ (ZCk hod hdd ?_)));rw[if_neg (by simp)];refine Zx5 ?_;obtain⟨hlt,he⟩:=Array.getElem?_eq_some_iff.mp hx;simp only[show ¬((i:Int)<0) from by omega,if_false,ZA5,ZAg hlt];refine ZxZ ?_
 first | refine ZxZ (ZzY hit.typeIs (Zx5 ?_)) | refine ZxZ (ZAl hit.typeIs (Zx5 ?_))
 refine ZxZ (wpAny_isOneOf_keyiter hit.typeIs ?_);show wpAny _ _ (setField (.ref it) 1 (rawInt ((i:Int)+1)) >>= _) _ _ s;refine ZxZ (ZAZ ho hd (by simp) ?_);have hit':(s.heap.update it (ZCF (·.setIfInBounds 1 (rawInt ((i:Int)+1))))).IsKeyIter it d (i+1) es.size ep :=
  ⟨_,Zzb _ ho (ZBk (ZzD hd _)),(ZBW ..).trans hc,by rw[ZzD hd]; simp[rawInt]⟩
 refine ZxZ (Zzc ?_);refine ZxZ (wpAny_isOneOf_keyiter (s:={ s with heap:=s.heap.update it (ZCF (·.setIfInBounds 1 (rawInt ((i:Int)+1)))) }) hit'.typeIs ?_);show wpAny _ _ (pure es[i].key) _ _ _;refine Zx5 (Zx5 ⟨_,rfl,Zx5 ?_⟩);rw[he];exact hQ _ hit' (Zza ..)
theorem ZpZ{Q:Option Value->Shared->Prop}(hh:A.handled=none)(hit:s.heap.IsKeyIter it d i es.size ep)(hm:ZeX s.heap d es ep)(hx:es.size<=i)
  (hQ:∀h',Heap.ExtBut it s.heap h'->Q none { s with heap:=h' }):wpAny (model prog w) A (pyNext (.ref it)) Q E s:=by
 obtain⟨o,ho,hc,hd⟩:=id hit;obtain⟨od,hod,hcd,hdd⟩:=id hm;unfold pyNext;refine ZxZ (ZBN (wpAny_callSpecial?_slot (name:=ZAk "__next__") hit.typeIs F.slot_dict_keyiterator_next
  (Zzm F.slot_dict_keyiterator_next hit.typeIs F.entry_dict_keyiterator_next ?_ (F.args_dict_keyiterator_next_1 _))))
 refine ZxZ (Zx5 (ZxZ (ZxZ ?_)))
 first | refine ZxZ (ZzY hit.typeIs (Zx5 ?_)) | refine ZxZ (ZAl hit.typeIs (Zx5 ?_))
 refine ZxZ (ZBB ho hd ?_);have hown:ZBD "dict_keyiterator" = false:=by decide
 simp only[hown,ZzR,if_false];show wpAny _ _ (if(ZyZ d==Zy2)=true then _ else _) _ _ s;rw[if_neg (show ¬((ZyZ d==Zy2)=true) from ZyI)];refine ZxZ (Zx5 (ZxZ (ZA2 hod hdd ?_)));rw[if_neg (by simp)];refine ZxZ (Zx5 (ZxZ (ZCk hod hdd ?_)));rw[if_neg (by simp)];refine Zx5 ?_;simp only[show ¬((i:Int)<0) from by omega,if_false,ZA5,ZBa hx];refine ZxZ ?_
 first | refine ZxZ (ZzY hit.typeIs (Zx5 ?_)) | refine ZxZ (ZAl hit.typeIs (Zx5 ?_))
 show wpAny _ _ (setField (.ref it) 0 .none >>= _) _ _ s;refine ZxZ (ZAZ ho hd (by simp) ?_);show wpAny _ _ (newExc (.type "StopIteration") [] >>= _) _ _ _;refine ZxZ ?_;simp only[newExc,newTuple];refine ZxZ (Zy0 ?_ (by size_fits));refine ZxZ (m:=ZBC _ _) (ZCq (a:=Zy2) (by first | rfl | (simp only[ZBC]; rfl)) ?_)
 refine Zy0 ?_ (by size_fits);simp only[raiseNew];refine ZxZ (wpAny_handled ?_);rw[show A.in1.handled=none from hh];refine ZxZ (Zx5 (wpAny_throw ?_));refine ZxZ (ZCa (T:="StopIteration") (b:=true) ⟨_,Zyi _ rfl,rfl⟩ isSubtype_stop ?_);exact Zx5 (hQ _ (((Zza ..).extBut.push _).push _))
theorem ZrT(hh:A.handled=none)(I d:Addr)(hne:d≠I)(es:Array DictEntry)(ep:Nat) :
  Walks prog w A I [I,d] [I] es.size (λi v=>∃e,es[i]?=some e/\v=e.key) (λi h=>h.IsKeyIter I d i es.size ep/\ZeX h d es ep) where
 sub:=λb hb=>by simp at hb; simp[hb]
 frame:=λ_ _ _ st hk=>⟨st.1.at λo e=>hk I (by simp) o e,st.2.at' λo e=>hk d (by simp) o e⟩
 item:=λi s Q E hi st hQ=>by have hx:es[i]?=some es[i]:=ZAg hi;refine Zoz st.1 st.2 hx λh' hit' hs'=>?_;exact hQ _ h' s.toks ⟨_,hx,rfl⟩ ⟨hit',st.2.at' λo e=>hs'.extBut d o hne e⟩ λb o hb e=>hs'.extBut b o (λh=>hb (by simp[h])) e
 done:=λs Q E st hQ=>ZpZ hh st.1 st.2 (Zyb _) λh' he'=>hQ h' s.toks λb o hb e=>he' b o (λh=>hb (by simp[h])) e
 self:=λ_ _ _ _ st hQ=>wpAny_pyIter_keyiter st.1 hQ
end
end HP
namespace HP
open PySem PySem.Spec PySem.W PySem.Calls PyProof.Rows L2
variable[FX]
section
variable{prog:Program}{w:World}{A:Around}{E:Value->Shared->Prop}{s:Shared}
theorem Zti{r:Addr}{Q:Bool->Shared->Prop}(hT:s.TypeIs (.ref r) "set")(h:Q false s):wpAny (model prog w) A (ZBH (.ref r)) Q E s:=by
 unfold ZBH;refine ZxZ (wpAny_specialOf hT PySem.F.slot_set_len.lookup ?_);generalize hid:("set.__len__":String)=id0
 wp_delta
 rw[show splitId id0=some ("set","__len__") from by subst hid; decide +kernel];subst hid;refine ZxZ (ZCa (T:="set") (b:=true) hT (by rw[isSubtype_type]; kernel_rfl) ?_);refine Zz7 (λq=>absurd q (by decide)) λ_=>?_;refine Zz7 (λ_=>?_) (λq=>absurd (by decide +kernel) q);exact ZxZ (wpAny_typeOf hT (Zx5 h))
theorem Zup{d:Addr}{es:Array DictEntry}{ep:Nat}(lo:(d==Zzy)=false):KdlSrc prog w "dict" d d es.size (λi v=>∃e,es[i]?=some e/\v=e.key) (λh=>ZeX h d es ep) where
 type:=λ_ hm=>hm.typeIs
 there:=λ_ hm=>⟨hm.lt,hm.lt⟩
 keep:=λ_ _ hm hk=>hm.at' λo e=>hk d (.inl rfl) o e
 notList:=by decide
 notTuple:=by decide
 hint:=λ_ _ _ _ hm hq=>kdl_hint_dict hm.typeIs hq
 iter:=λ_ _ hh hm=>⟨_,_,(λ_ _ hq=>Zoh lo hm hq),ZrT hh _ d (Zyp hm.lt) es ep,⟨⟨_,Zyi _ rfl,rfl,rfl⟩,hm.at' λo e=>Zx7 _ e⟩⟩
theorem Zex.typeIs{a:Addr}{es:Array (Int × Value)}{ep:Nat}{t:SetTable}(x:Zex w s.heap a es ep t):s.TypeIs (.ref a) "set":=let ⟨o,ho,hc,_⟩:=x.obj; ⟨o,ho,hc.1⟩
theorem Zex.lt{h:Heap}{a:Addr}{es:Array (Int × Value)}{ep:Nat}{t:SetTable}(x:Zex w h a es ep t):a<h.objs.size:=let ⟨o,ho,_⟩:=x.obj; Zyh ho
theorem ZuJ{a:Addr}{es:Array (Int × Value)}{ep:Nat}{t:SetTable}:KdlSrc prog w "set" a a es.size (λi v=>∃e,(Zd1 w a es ep)[i]?=some e/\v=e.2) (λh=>Zex w h a es ep t) where
 type:=λ_ hm=>hm.typeIs
 there:=λ_ hm=>⟨hm.lt,hm.lt⟩
 keep:=λ_ _ hm hk=>hm.at' λo e=>hk a (.inl rfl) o e
 notList:=by decide
 notTuple:=by decide
 hint:=λ_ _ _ _ hm hq=>Zti hm.typeIs hq
 iter:=λ_ _ hh hm=>⟨_,_,(λ_ _ hq=>ZtN hm hq),Zse hh _ a (Zyp hm.lt) es ep t,⟨0,⟨_,Zyi _ rfl,rfl,rfl⟩,hm.at' λo e=>Zx7 _ e,λ_=>ZqS hm.tab.rise⟩⟩
theorem Zg0{T:String}{r d:Addr}{n:Nat}{P:Nat->Value->Prop}{OK:Heap->Prop}{R:List Value->Shared->Prop}(K:KdlSrc prog w T r d n P OK)(hh:A.handled=none)(hok:OK s.heap)(hn:n<=sizeLine)
  (h:∀(h':Heap) (tk:Nat) (acc:Array Value),(∀b o,s.heap.get? b=some o->h'.get? b=some o)->s.heap.objs.size<h'.objs.size->ItemsOf P acc n->R acc.toList { s with heap:=h',toks:=tk }) :
  wpAny (model prog w) A (collect (.ref r)) R E s:=by
 have hlt:=K.there _ hok;unfold collect;refine ZxZ (wpAny_runValue (Zzk entry_proto_collect' ?_));rw[Zy5 ZBI _];show wpAny _ A.in1 (newList [] >>= λl=>again (.builtin "list.__iadd__" ⟨[l,.ref r],[]⟩)) _ _ s;refine ZxZ (Zy0 (Zx5 ⟨ZAb ZAr _,Zzk entry_list_iadd' ?_⟩));rw[Zy5 ZAr _];have hS₁:(s.heap.push { cls:=.type "list",data:=.seq ([]:List Value).toArray }).get? s.heap.objs.size=some { cls:=.type "list",data:=.seq #[] }:=Zyi _ rfl;show wpAny _ A.in1 (ZBJ (.ref s.heap.objs.size) (.ref r) (.ref s.heap.objs.size)) _ _ _;refine Zzg (kdl_extend (A:=A) (s:={ s with heap:=s.heap.push { cls:=.type "list",data:=.seq ([]:List Value).toArray } })
  (R:=λ(q:Result) (s':Shared)=>∃(h':Heap) (tk:Nat) (acc':Array Value) (c':Nat),q=.ok (.ret (.ref s.heap.objs.size))/\s'={ s with heap:=h',toks:=tk } /\
   (∀b o,s.heap.get? b=some o->h'.get? b=some o)/\h'.get? s.heap.objs.size=some { cls:=.type "list",dict:=none,data:=.seq acc' c',slots:=#[] }/\ItemsOf P acc' n)
  K hh (K.keep _ _ hok λb _ o e=>Zx7 _ e) s.heap.objs.size (ZAO hlt.1) (ZAO hlt.2) (.ref s.heap.objs.size) 0 hS₁
  (λh' tk acc' c' hk hS' hacc=>⟨h',tk,acc',c',rfl,rfl,λb o e=>hk b o (Zyp (Zyh e)) (Zx7 _ e),hS',hacc⟩) hn) (λfin s' x=>?_) λe s' x=>?_
 ·have go:∀(h':Heap) (tk:Nat) (acc':Array Value) (c':Nat),(∀b o,s.heap.get? b=some o->h'.get? b=some o)->h'.get? s.heap.objs.size=some { cls:=.type "list",dict:=none,data:=.seq acc' c',slots:=#[] }->ItemsOf P acc' n ->
    wpAny (model prog w) A (load s.heap.objs.size >>= λo=>match o.data with | .seq xs _=>pure xs.toList | _=>unsupported "internal:collect") R E { s with heap:=h',toks:=tk }:=λh' tk acc' c' hk hS' hacc =>
   ZxZ (wpAny_load hS' (Zx5 (h h' tk acc' hk (Zyh hS') hacc)))
  cases fin with
  | done f=>obtain⟨h',tk,acc',c',e,rfl,hk,hS',hacc⟩:=x;cases e;exact go h' tk acc' c' hk hS' hacc
  | again c₁=>refine⟨x.1,Zz4 x.2 λq s₂ y=>?_⟩;obtain⟨h',tk,acc',c',rfl,rfl,hk,hS',hacc⟩:=y;exact go h' tk acc' c' hk hS' hacc
 ·obtain⟨_,_,_,_,e',_⟩:=x
  cases e'
end
inductive ZiW(K:Zx0)(F H:Hp)(p:Addr):List PyData->Prop where
 | lst {ds:List PyData} {vs:List V} (h:SqL K H p vs) (r:Zv K F ds vs):ZiW K F H p ds
 | tup {ds:List PyData} {vs:List V} (h:SqT K H p vs) (r:Zv K F ds vs):ZiW K F H p ds
 | dk {kvs:List (Key × V)} (h:H p=some (.dK kvs)):ZiW K F H p (kvs.map λq=>HM.ZaE q.1)
 | dt {kvs:List (List Key × V)} (h:H p=some (.dT kvs)):ZiW K F H p (kvs.map λq=>.tuple (q.1.map HM.ZaE))
theorem ZuE{K:Zx0}{F:Hp}(k:Key):Rep K F (HM.ZaE k) (kV k):=by
 cases k with
 | inl i=>exact .int i
 | inr x=>exact .str x
theorem ZgA{K:Zx0}{F:Hp}:∀(ks:List Key),Zv K F (ks.map HM.ZaE) (ks.map kV)
 | []=>.nil
 | k::ks=>.cons (ZuE k) (ZgA ks)
theorem Zu3{P:Program}{w:World}{k:Key}{u:Value}(h:(ZaG P w).is k u=true):RelV (kV k) u:=by
 rw[ZqG]at h;rcases Zbi h with⟨i,t,rfl,rfl⟩ | ⟨x,t,rfl,rfl⟩
 ·exact⟨t,rfl⟩
 ·exact⟨t,rfl⟩
section
variable{X:Cx}{pins:List (Addr × Obj)}{σ:L2.St}{H F:Hp}{s:Shared}{p:Addr}{ds:List PyData}
theorem Zhb:∀{vs:List V} {us:List Value},vs.length=us.length->(∀(i:Nat) v u,vs[i]?=some v->us[i]?=some u->RelV v u)->Vals vs us
 | [],[],_,_=>.nil
 | [],_::_,h,_=>by simp at h
 | _::_,[],h,_=>by simp at h
 | v::vs,u::us,h,k=>.cons (k 0 v u rfl rfl) (Zhb (by simpa using h) λi a b e1 e2=>k (i+1) a b (by simpa using e1) (by simpa using e2))
theorem ZiW.gath(I:Inv X pins σ H s)(sub:Zq F H)(h:ZiW X.K F H p ds):∃vs,Zv X.K (ZcH F H) ds vs/\∀(A:Around) (E:Value->Shared->Prop) (R:List Value->Shared->Prop),A.handled=none ->
  (∀us h' tk,Vals vs us->(∀b o,s.heap.get? b=some o->h'.get? b=some o)->R us { s with heap:=h',toks:=tk })->wpAny (model X.prog X.w) A (collect (.ref p)) R E s:=by
 cases h with
 | @lst _ vs h r=>obtain⟨its,rv,pl,hz⟩:=I.list h;obtain⟨o,ho,hcl,n,hd⟩:=pl.isList;refine⟨vs,r.mono (ZdD sub),λA E R _ k=>wpAny_collect_seq p (.inl rfl) ho hcl hd (λh' kp=>?_) (by rw[Zyj,<-rv.length]; exact hz)⟩;exact k its h' s.toks rv kp
 | @tup _ vs h r=>obtain⟨its,rv,pl,hz⟩:=I.tuple h;obtain⟨o,ho,hcl,n,hd⟩:=pl;refine⟨vs,r.mono (ZdD sub),λA E R _ k=>wpAny_collect_seq p (.inr rfl) ho hcl hd (λh' kp=>?_) (by rw[Zyj,<-rv.length]; exact hz)⟩;exact k its h' s.toks rv kp
 | @dk kvs h =>
  obtain⟨z,lo,vs,rel,dd⟩:=Zqs I.hok h;obtain⟨ep,hat⟩:=dd.dictAt;have hl:kvs.length=vs.length:=ZAt rel;refine⟨kvs.map λq=>kV q.1,?_,λA E R hh k=>Zg0 (kdl_dict (knd:=ZaG X.prog X.w) (kvs:=vs) (ep:=ep) lo) hh hat (by omega) λh' tk acc kp hsz hacc=>k _ h' tk ?_ kp⟩
  ·have:=ZgA (K:=X.K) (F:=ZcH F H) (kvs.map (·.1))
   rw[Zyn,Zyn]at this;exact this
  ·refine Zhb (by have q:acc.toList.length=acc.size:=Zyt; rw[Zx1,q,hacc.1,hl]) λi v u e1 e2=>?_
   obtain⟨kk,x,q1,q2⟩:=hacc.2 i u (by rw[<-ZyS]; exact e2);rw[Zyr]at e1;obtain⟨q,e3,e4⟩:=Zx2.mp e1;subst e4;have key:∀{l:List (Key × V)} {m:List (Key × Value)},KV l m->∀(i:Nat) a b,l[i]?=some a->m[i]?=some b->a.1=b.1:=by
    intro l m r
    induction r with
    | nil=>intro i a b e; simp at e
    | cons hq _ ih =>
     intro i a b e1 e2;cases i with
     | zero=>simp at e1 e2; subst e1; subst e2; exact hq.1
     | succ i=>exact ih i a b (by simpa using e1) (by simpa using e2)
   have ek:=key rel i q (kk,x) e3 q1;rw[ek];exact Zu3 q2
 | @dt kvs h =>
  obtain⟨z,lo,xs,rel,o,es,ep,h1,h2,h3,h4,h5⟩:=(show Z8 X.prog X.w H s.heap p (.dT kvs) from I.hok p _ h);have hl:kvs.length=xs.length:=ZAt rel;have hes:es.size=xs.length:=by rw[<-Zyt,h4,Zx1]
  have hm:ZeX s.heap p es ep:=⟨o,h1,h2,h3⟩;refine⟨xs.map λq=>V.ref q.2.1,?_,λA E R hh k=>Zg0 (Zup (es:=es) (ep:=ep) lo) hh hm (by omega) λh' tk acc kp hsz hacc=>k _ h' tk ?_ kp⟩
  ·clear h4 hes hl z h h5
   induction rel with
   | nil=>exact .nil
   | @cons p0 _ _ _ hq _ ih=>obtain⟨q1,q2,_⟩:=hq;rw[Zx6,Zx6];refine .cons ?_ ih;have rk:=ZgA (K:=X.K) (F:=ZcH F H) p0.1;exact .tup (Zn8 q2) rk.1 rk.2
  ·refine Zhb (by have q:acc.toList.length=acc.size:=Zyt; rw[Zx1,q,hacc.1,hes]) λi v u e1 e2=>?_
   obtain⟨e,q1,q2⟩:=hacc.2 i u (by rw[<-ZyS]; exact e2);subst q2;rw[Zyr]at e1;obtain⟨q,e3,e4⟩:=Zx2.mp e1;subst e4;rw[<-ZyS,h4,Zyr,e3]at q1;cases q1;rfl
theorem ZcM{K:Zx0}{F:Hp}:∀{ds:List PyData} {vs:List V} {ns:List Int},HM.ZaI ds=some ns->Zv K F ds vs->vs=ns.map V.int
 | [],vs,ns,h,r=>by cases h;exact r.nil_inv
 | d::ds,vs,ns,h,r=>by
  obtain⟨v,us,rfl,r1,r2⟩:=r.cons_inv;cases d with
  | int b=>obtain⟨bs',h1,h2⟩:=Zx2.mp h;subst h2;rw[r1.int_inv,ZcM h1 r2];rfl
  | none=>cases h
  | bool _=>cases h
  | str _=>cases h
  | list _=>cases h
  | tuple _=>cases h
  | dict _=>cases h
theorem ZpM:∀(t:List Int),HM.ZaI (HM.ofInts t)=some t
 | []=>rfl
 | x::t=>by show(HM.ZaI (HM.ofInts t)).map (x::·)=_;rw[ZpM t];rfl
theorem Zop:∀{ds:List PyData} {ns:List Int},HM.ZaI ds=some ns->ds=HM.ofInts ns
 | [],ns,h=>by cases h; rfl
 | d::ds,ns,h=>by
  cases d with
  | int b=>obtain⟨bs',h1,h2⟩:=Zx2.mp h;subst h2;rw[Zop h1];rfl
  | none=>cases h
  | bool _=>cases h
  | str _=>cases h
  | list _=>cases h
  | tuple _=>cases h
  | dict _=>cases h
theorem Zfd{K:Zx0}{F:Hp}:∀(ns:List Int),Zv K F (HM.ofInts ns) (ns.map V.int)
 | []=>.nil
 | n::ns=>.cons (.int n) (Zfd ns)
theorem Zea:∀{ns:List Int} {us:List Value},Vals (ns.map V.int) us->IntsAre us ns
 | [],_,r=>by rw[ZzU]at r; cases r; exact .nil
 | n::ns,_,r=>by
  rw[Zx6]at r;cases r with
  | cons h t=>obtain⟨u,rfl⟩:=h; exact .cons n u (Zea t)
theorem ZhJ:∀{us:List Value} {ns:List Int},IntsAre us ns->Vals (ns.map V.int) us
 | _,_,.nil=>.nil
 | _,_,.cons n t h=>.cons ⟨t,rfl⟩ (ZhJ h)
theorem ZnJ:∀{ds:List PyData} {ts:List (List Int)},HM.Zjl ds=some ts->ds=HM.Zfe ts
 | [],ts,h=>by cases h; rfl
 | d::ds,ts,h=>by
  cases d with
  | tuple es =>
   unfold HM.Zjl at h;split at h
   ·rename_i ns hn
    obtain⟨r',h1,h2⟩:=Zx2.mp h;subst h2;rw[Zop hn,ZnJ h1];rfl
   ·cases h
  | none=>cases h
  | bool _=>cases h
  | int _=>cases h
  | str _=>cases h
  | list _=>cases h
  | dict _=>cases h
theorem Zow{ns ms:List Int}(h:ms.Perm ns)(hs:ms.Pairwise (·<=·)):ms=HM.sortI ns:=by refine ZhY (R:=(·<=·)) (λa b h1 h2=>by omega) (h.trans (ZAL ns _).symm) hs ?_;have:=ZAs (le:=λa b:Int=>decide (a<=b)) (λa b c h1 h2=>by simp at *; omega) (λa b=>by simp; omega) ns;exact this.imp λh=>by simpa using h
theorem ZoG{ts us:List (List Int)}(h:us.Perm ts)(hs:us.Pairwise (λx y=>HM.lexLt y x=false)):us=HM.Zco ts:=by
 refine ZhY (R:=λx y=>HM.lexLt y x=false) (λa b h1 h2=>ZiQ a b h2 h1) (h.trans (ZAL ts _).symm) hs ?_;have:=ZAs (le:=λa b:List Int=>!HM.lexLt b a) (λa b c h1 h2=>by
  simp only[Bool.not_eq_true']at *;cases q:HM.lexLt c a with
  | false=>rfl
  | true =>
   rcases Zi4 c b a q with z | z
   ·rw[h2]at z; cases z
   ·rw[h1]at z; cases z) (λa b=>by
  cases q:HM.lexLt b a with
  | false=>simp
  | true =>
   cases q2:HM.lexLt a b with
   | false=>simp
   | true=>have:=lex_trans _ _ _ q q2; rw[lex_irrefl]at this; cases this) ts
 exact this.imp λh=>by simpa using h
theorem ZjL{h:Heap}{a:Addr}{vs:List Value}{out:Array Value}{b:Addr}{o:Obj}(hb:b≠a)(e:h.get? b=some o):(sortedHeap h a vs out).get? b=some o:=by rw[sortedHeap_old hb (Zyh e)]; exact e
theorem ZnX(hc:X.calm=true):ZaZ X (.builtin "sorted") (λxs H Q=>∃p F ds ds',xs=[.ref p]/\Zq F H/\ZiW X.K F H p ds/\HM.ZdF ds=some ds'/\∀l ws,H l=none->Zv X.K (ZcH F H) ds' ws->Q (.ref l) (upd H l (.lst ws))):=by
 intro pins s σ H xs us Q I r h;obtain⟨p,F,ds,ds',rfl,sub,hsrc,hsort,q⟩:=h;obtain⟨u,rfl,rx⟩:=vals1 r;cases rx;obtain⟨vs,rv,go⟩:=hsrc.gath I sub;unfold HM.ZdF at hsort;split at hsort
 ·rename_i h64
  have hvl:=rv.1;refine ZB4 kind_sorted plain_sorted entry_sorted (args_sorted1 _) ?_;unfold Builtin.«sorted»;refine ZxZ (m:=checkCount "sorted" 1 1 _) (Zx5 ?_);refine ZxZ (go _ _ _ (I.ok.hd hc) λus h' tk ru kp=>?_);have hul:=ru.length;refine ZxZ (wpAny_newList ?_ (by rw[Zzo]; omega));have hoL:(h'.push (seqObj "list" us.toArray 0)).get? h'.objs.size=some (seqObj "list" us.toArray 0):=Zyi _ rfl;have fin:∀(out:Array Value) (ws:List V),Vals ws out.toList->Zv X.K (ZcH F H) ds' ws->ws.length<64->EP X pins σ Q (.ref h'.objs.size) { s with heap:=sortedHeap (h'.push (seqObj "list" us.toArray 0)) h'.objs.size us out,toks:=tk }:=λout ws rw' rd hw=>by obtain⟨e,he⟩:=sortedHeap_at (out:=out) hoL;have I1:Inv X pins σ H { s with heap:=h',toks:=tk }:=I.kept kp;refine⟨.ref h'.objs.size,_,I1.laid (a:=h'.objs.size) (o:=.lst ws) (t':=tk) (λb o e1=>?_) (Zyb _) ⟨by rw[Zzo]; omega,out.toList,e,rw',by simpa using he⟩,rfl,q _ ws (I1.hok.fresh (Zyb _)) rd⟩;exact ZjL (Zyp (Zyh e1)) (Zx7 _ e1)
  show wpAny _ _ _ _ _ { s with heap:=h'.push (seqObj "list" us.toArray 0),toks:=tk };split at hsort
  ·rename_i ns hns
   cases hsort;have evs:=ZcM hns rv;rw[evs]at ru;have hI:=Zea ru;refine ZxZ (Zzc (Zzm slot_list_sort ⟨_,hoL,rfl⟩ ZCl (list_sort_tree hoL hI (by omega) λout ns' a1 a2 a3=>⟨_,rfl,?_⟩) (args_list_sort _)));refine Zx5 ⟨_,rfl,?_⟩;have e:=Zow a2 a3;have hl:ns'.length<64:=by rw[a2.length_eq,<-hI.length,<-hul]; omega
   refine fin out (ns'.map V.int) (ZhJ a1) ?_ (by rw[Zx1]; exact hl);rw[<-e];exact Zfd ns'
  ·split at hsort
   ·rename_i ts hts
    split at hsort
    ·rename_i hne
     cases hsort;have eds:=ZnJ hts;have hT:∀(i:Nat) t,ts[i]?=some t->∃b,us[i]?=some (.ref b)/\TI (h'.push (seqObj "list" us.toArray 0)) b t:=λi t e=>by
      have ed:ds[i]?=some (.tuple (HM.ofInts t)):=by rw[eds]; unfold HM.Zfe; rw[Zyr,e]; rfl
      obtain⟨v,hv,rp⟩:=rv.get ed;generalize hq:HM.ofInts t=q at rp;cases rp with
      | @tupk b x h1 =>
       exfalso;cases t with
       | nil=>cases hq
       | cons a t =>
        injection hq with e1 _
        cases e1
      | @tup b _ xs hb hl hr=>subst hq;obtain⟨u,hu,ru'⟩:=ru.get hv;cases ru';have ev:=ZcM (F:=ZcH F H) (ZpM t) ⟨hl,hr⟩;subst ev;have hH:H b=some (.tup (t.map V.int)):=(Ext.refl sub).tups.sub _ _ hb;obtain⟨z,its,rt,o,h1,h2,n,h3⟩:=(show Z8 X.prog X.w H s.heap b (.tup (t.map V.int)) from I.hok b _ hH);exact⟨b,hu,o,its.toArray,n,Zx7 _ (kp b o h1),h2,h3,by simpa using Zea rt⟩
     have hlt:ts.length=us.length:=by have:=congrArg ZyN eds;unfold HM.Zfe at this;rw[Zx1]at this;omega
     refine ZxZ (Zzc (Zzm slot_list_sort ⟨_,hoL,rfl⟩ ZCl (Ztp hoL hlt hT ?_ (by omega) λpm hp hs=>⟨_,rfl,?_⟩) (args_list_sort _)))
     ·rw[ZzJ]at hne
      rcases hne with z | z
      ·left
       have:=of_decide_eq_true z;omega
      ·right
       intro t ht e;have:=Zx9.mp z t ht;rw[e]at this;cases this
     ·refine Zx5 ⟨_,rfl,?_⟩
      have hpl:pm.length=us.length:=by rw[hp.length_eq,ZAd]
      have hmem:∀i∈pm,i<us.length:=λi hi=>Zyq.mp (hp.mem_iff.mp hi);have e:(pm.map λi=>ts.getD i [])=HM.Zco ts:=by
       refine ZoG ?_ hs;refine(hp.map _).trans ?_;have:(Zx8 us.length).map (λi=>ts.getD i [])=ts:=by refine List.ext_getElem (by simp[hlt]) λi h1 h2=>?_;simp at h1;simp[Zzv,show i<ts.length by omega]
       rw[this]
      refine fin _ (pm.map λi=>vs.getD i V.non) ?_ ?_ (by rw[Zx1]; omega)
      ·refine Zhb (by simp) λk v u e1 e2=>?_
       rw[Zyr]at e1;rw[List.toList_toArray,Zyr]at e2;obtain⟨i,hi,rfl⟩:=Zx2.mp e1;rw[hi]at e2;cases e2;have hlt':=hmem i (Zyu hi);have hv:vs[i]?=some (vs.getD i V.non):=by simp[Zzv,show i<vs.length by omega]
       obtain⟨u,hu,ru'⟩:=ru.get hv;have:us.getD i Zy2=u:=by simp[Zzv,hu]
       show RelV _ (us.getD i Zy2);rw[this];exact ru'
      ·rw[<-e]
       refine⟨by unfold HM.Zfe; simp,λk d v e1 e2=>?_⟩;unfold HM.Zfe at e1;rw[Zyr,Zyr]at e1;rw[Zyr]at e2;obtain⟨i,hi,rfl⟩:=Zx2.mp e2;rw[hi]at e1;have hlt':=hmem i (Zyu hi);have hd:ds[i]?=some d:=by
        rw[eds]; unfold HM.Zfe;rw[Zyr];have:ts[i]?=some (ts.getD i []):=by simp[Zzv,show i<ts.length by omega]
        rw[this];exact e1
       have hv:vs[i]?=some (vs.getD i V.non):=by simp[Zzv,show i<vs.length by omega]
       exact rv.2 i d _ hd hv
    ·cases hsort
   ·cases hsort
 ·cases hsort
end
end HP
namespace HP
open PySem PySem.Spec PySem.W PySem.Calls PyProof.Rows L2
variable[FX]
section
variable{prog:Program}{w:World}{A:Around}{E:Value->Shared->Prop}{s:Shared}
theorem Zmv{r:Addr}{a b c:Int}{t u v:Tok}{n:Nat}{R:List Value->Shared->Prop}(hh:A.handled=none)(hr:IsRange s.heap r a b c t u v)(hsmall:ZCI a b c=true)(hn:ZAp a b c=n)(hlen:n<=2 ^ 24)
  (h:∀(h':Heap) (tk:Nat) (acc:Array Value),(∀b o,s.heap.get? b=some o->h'.get? b=some o)->ItemsOf (λi v=>∃t,v=.int (a+i*c) t) acc n->R acc.toList { s with heap:=h',toks:=tk }) :
  wpAny (model prog w) A (collect (.ref r)) R E s:=by
 unfold collect;refine ZxZ (wpAny_runValue (Zzk entry_proto_collect' ?_));rw[Zy5 ZBI _];show wpAny _ A.in1 (newList [] >>= λl=>again (.builtin "list.__iadd__" ⟨[l,.ref r],[]⟩)) _ _ s;refine ZxZ (Zy0 (Zx5 ⟨ZAb ZAr _,Zzk entry_list_iadd' ?_⟩));rw[Zy5 ZAr _];have hS₁:(s.heap.push { cls:=.type "list",data:=.seq ([]:List Value).toArray }).get? s.heap.objs.size=some { cls:=.type "list",data:=.seq #[] }:=Zyi _ rfl;show wpAny _ A.in1 (ZBJ (.ref s.heap.objs.size) (.ref r) (.ref s.heap.objs.size)) _ _ _;have hr1:IsRange (s.heap.push { cls:=.type "list",data:=.seq ([]:List Value).toArray }) r a b c t u v:=Zx7 _ hr;refine Zzg (wpAny_extend_range (A:=A) (s:={ s with heap:=s.heap.push { cls:=.type "list",data:=.seq ([]:List Value).toArray } })
  (R:=λ(q:Result) (s':Shared)=>∃(h':Heap) (tk:Nat) (acc':Array Value) (c':Nat),q=.ok (.ret (.ref s.heap.objs.size))/\s'={ s with heap:=h',toks:=tk } /\
   (∀b o,s.heap.get? b=some o->h'.get? b=some o)/\h'.get? s.heap.objs.size=some { cls:=.type "list",dict:=none,data:=.seq acc' c',slots:=#[] }/\ItemsOf (λi v=>∃t,v=.int (a+i*c) t) acc' n)
  hh hr1 hsmall hn hlen s.heap.objs.size (.ref s.heap.objs.size) 0 hS₁
  (λh' tk acc' c' hk hS' hacc=>⟨h',tk,acc',c',rfl,rfl,λb o e=>hk b o (Zyp (Zyh e)) (Zx7 _ e),hS',hacc⟩)) (λfin s' x=>?_) λe s' x=>?_
 ·have go:∀(h':Heap) (tk:Nat) (acc':Array Value) (c':Nat),(∀b o,s.heap.get? b=some o->h'.get? b=some o)->h'.get? s.heap.objs.size=some { cls:=.type "list",dict:=none,data:=.seq acc' c',slots:=#[] }->ItemsOf (λi v=>∃t,v=.int (a+i*c) t) acc' n ->
    wpAny (model prog w) A (load s.heap.objs.size >>= λo=>match o.data with | .seq xs _=>pure xs.toList | _=>unsupported "internal:collect") R E { s with heap:=h',toks:=tk }:=λh' tk acc' c' hk hS' hacc =>
   ZxZ (wpAny_load hS' (Zx5 (h h' tk acc' hk hacc)))
  cases fin with
  | done f=>obtain⟨h',tk,acc',c',e,rfl,hk,hS',hacc⟩:=x;cases e;exact go h' tk acc' c' hk hS' hacc
  | again c₁=>refine⟨x.1,Zz4 x.2 λq s₂ y=>?_⟩;obtain⟨h',tk,acc',c',rfl,rfl,hk,hS',hacc⟩:=y;exact go h' tk acc' c' hk hS' hacc
 ·obtain⟨_,_,_,_,e',_⟩:=x
  cases e'
end
theorem Zjw(r:Addr)(a b c:Int)(t u v:Tok)(n:Nat)(hsmall:ZCI a b c=true)(hn:ZAp a b c=n)(hlen:n<=2 ^ 24) :
  Meets (Builtin.«tuple.__new__» ⟨[.type "tuple",.ref r],[]⟩)
   (λA R s=>A.handled=none/\IsRange s.heap r a b c t u v/\∀(h':Heap) (tk:Nat) (acc:Array Value),(∀b o',s.heap.get? b=some o'->h'.get? b=some o')->ItemsOf (λi v=>∃t,v=.int (a+i*c) t) acc n ->
    R (.ok (.ret (.ref h'.objs.size))) { s with heap:=h'.push { cls:=.type "tuple",data:=.seq acc },toks:=tk }) :=
 .of_wp λprog w A R s h=>by
  obtain⟨hp,g,d,tk,os⟩:=s; obtain⟨hh,ht,h⟩:=h;have hsub:=PySem.sub_tuple_self;have hinit:=PySem.init_tuple_lookup;have hmh:=PySem.madeHere_tuple;have hT:Shared.TypeIs ⟨hp,g,d,tk,os⟩ (.ref r) "range":=⟨_,ht,rfl⟩;have hh1:A.in1.handled=none:=hh
  wp_walk using wpAny_typeOf hT,Zmv hh1 ht hsmall hn hlen
  intro h' tk' acc hk hacc;show wpAny _ _ (ZCb acc.toList.toArray >>= λv=>ret v) _ _ _;unfold ZCb;have e:acc.toList.toArray=acc:=by simp
  rw[e];refine ZxZ (Zy0 ?_ (by show acc.size<=sizeLine; rw[hacc.1,Zzo]; omega));exact Zx5 ⟨_,rfl,h h' tk' acc hk hacc⟩
section
variable{X:Cx}{a b c e:Expr}{fa fb fc:HM.EF}{pos p:Pos}{f:HM.BF}
theorem ZnI:ZaZ X (.type "range") (λxs H Q=>∃j,xs=[.int j]/\∀l,H l=none->Q (.ref l) (upd H l (.rng 0 j))):=by intro pins s σ H xs us Q I r h;obtain⟨j,rfl,q⟩:=h;obtain⟨u,rfl,rx⟩:=vals1 r;obtain⟨t,rfl⟩:=rx;refine call_range_1 ⟨.ref s.heap.objs.size,_,I.laid (a:=s.heap.objs.size) (o:=.rng 0 j) (λb o e=>Zx7 _ e) (Zyb _) ?_,rfl,q _ (I.hok.fresh (Zyb _))⟩;exact⟨_,_,_,Zyi _ rfl⟩
theorem Zps(hc:X.calm=true):ZaZ X (.type "tuple") (λxs H Q=>∃p lo hi,xs=[.ref p]/\H p=some (.rng lo hi)/\-1000000<lo/\lo<1000000/\-1000000<hi/\hi<1000000 /\
  ∀l,H l=none->Q (.ref l) (upd H l (.tup ((Zx8 (hi-lo).toNat).map λ(k:Nat)=>V.int (lo+k))))):=by
 intro pins s σ H xs us Q I r h;obtain⟨p,lo,hi,rfl,hp,h1,h2,h3,h4,q⟩:=h;obtain⟨u,rfl,rx⟩:=vals1 r;cases rx;obtain⟨t,u,v,ho⟩:=(show Z8 X.prog X.w H s.heap p (.rng lo hi) from I.hok p _ hp);have hn:ZAp lo hi 1=((hi-lo).toNat:Nat):=by rw[rangeSize_one]; split<;>omega
 refine callType_new PySem.F.called_tuple (by decide) (PySem.F.typeCall_tuple_1 _) (PySem.F.newCall_tuple_1 _) (λobj=>PySem.F.args_object_init_2 obj _) PySem.F.entry_tuple_new
  (Zjw p lo hi 1 t u v (hi-lo).toNat (small_one (by omega) (by omega) (by omega) (by omega)) hn (by omega)) ⟨I.ok.hd hc,ho,λh' tk' acc kp hacc=>⟨⟨_,Zyi _ rfl,rfl⟩,?_⟩⟩
 have I1:Inv X pins σ H { s with heap:=h',toks:=tk' }:=I.kept kp;have rv:Vals ((Zx8 (hi-lo).toNat).map λ(k:Nat)=>V.int (lo+k)) acc.toList:=by
  refine Zhb (by have z:acc.toList.length=acc.size:=Zyt; rw[Zx1,ZAd,z,hacc.1]) λi v u e1 e2=>?_;rw[Zyr]at e1;obtain⟨k,hk,rfl⟩:=Zx2.mp e1;obtain⟨t,rfl⟩:=hacc.2 i u (by rw[<-ZyS]; exact e2);have:k=i:=by have:=Zyd.mp hk;obtain⟨_,e⟩:=this;simpa using e.symm
  subst this;exact⟨t,by simp⟩
 have I2:=I1.laid (a:=h'.objs.size) (o:=.tup ((Zx8 (hi-lo).toNat).map λ(k:Nat)=>V.int (lo+k))) (h':=h'.push { cls:=.type "tuple",data:=.seq acc }) (t':=tk') (λb o e=>Zx7 _ e) (Zyb _)
  ⟨by rw[Zx1,ZAd,Zzo]; omega,acc.toList,rv,by simpa using IsTup.new _ _⟩
 exact⟨.ref h'.objs.size,_,I2,rfl,q _ (I1.hok.fresh (Zyb _))⟩
theorem Zpt{K:Zx0}{F:Hp}(lo:Int)(n:Nat):Zv K F (HM.ZbS lo n) ((Zx8 n).map λ(k:Nat)=>V.int (lo+k)):=by unfold HM.ZbS;refine⟨by simp,λi d v e1 e2=>?_⟩;rw[Zyr]at e1 e2;obtain⟨k,hk,rfl⟩:=Zx2.mp e1;rw[hk]at e2;cases e2;exact .int _
theorem ZoY(hmt:X.mg "tuple" = none)(hm:X.mg "range" = none)(hc:X.calm=true)(ha:XE X a fa){p' pos':Pos}(hgt:Gl X "tuple":=by rfl)(hg:Gl X "range":=by rfl)(hs:Zyc [a] X.env=[(false,eval a X.env)]:=by rfl)
  (hs2:Zyc [ZCN (.Name "range" p') [a] [] pos'] X.env=[(false,eval (ZCN (.Name "range" p') [a] [] pos') X.env)]:=by rfl) :
  XE X (.Call (.Name "tuple" p) [.Call (.Name "range" p') [a] [] pos'] [] pos) (HM.Zke (HM.Zcs fa)):=by
 intro r d hd;unfold HM.Zke at hd;split at hd
 ·rename_i ds hds
  split at hd
  ·cases hd
   unfold HM.Zcs at hds;split at hds
   ·rename_i j hj
    split at hds
    ·rename_i hok
     cases hds;obtain⟨k1,k2⟩:=Zjb hok;refine PE.imp (Zdu (Zps hc) hgt hmt Zkd (Zak (Zdu ZnI hg hm boot_range (Zak (ha r _ hj) ZbK hs) (he:=hs)) ZbK hs2) (he:=hs2)) λσ H Q ⟨F0,H0,F,at_,k⟩=>?_;refine⟨F0,H0,F,at_,λv F1 H1 x1 r1=>⟨j,by rw[r1.int_inv],λl hl=>?_⟩⟩;refine⟨l,0,j,rfl,ZE,by omega,by omega,by omega,by omega,λl2 hl2=>?_⟩;have x2:=x1.lay' (o:=.rng 0 j) hl;have x3:=x2.lay (o:=.tup ((Zx8 (j-0).toNat).map λ(k:Nat)=>V.int (0+k))) hl2;have rp:=Zpt (K:=X.K) (F:=upd F1 l2 (.tup ((Zx8 (j-0).toNat).map λ(k:Nat)=>V.int (0+k)))) 0 j.toNat;have ej:(j-0).toNat=j.toNat:=by omega
     refine k _ _ _ x3 (.tup ZE ?_ ?_)
     ·rw[ej]; exact rp.1
     ·rw[ej]at rp ⊢; exact rp.2
    ·cases hds
   ·cases hds
  ·cases hd
 ·cases hd
theorem ZrP{K:Zx0}{F H:Hp}{q:HM.B}{v:V}{fp:List Addr}{ds:List PyData}(sub:Zq F H)(r:Zab K F H q v fp)(h:HM.Zt7 q=some ds):∃a,v=.ref a/\ZiW K F H a ds:=by
 cases r with
 | pl r =>
  cases r with
  | tup h1 h2 h3=>cases h; exact⟨_,rfl,.tup (.of (sub _ _ h1)) ⟨h2,h3⟩⟩
  | @tupk a x h1=>cases h; exact⟨_,rfl,.tup (.inr h1) (.one (.str x))⟩
  | lst h1 h2 h3=>cases h; exact⟨_,rfl,.lst (sub.seq h1) ⟨h2,h3⟩⟩
  | dct _ _ _ _=>cases h
  | fn _=>cases h
  | non=>cases h
  | bl _=>cases h
  | int _=>cases h
  | str _=>cases h
 | ol h1 r=>cases h; exact⟨_,rfl,.lst (.of h1) r⟩
 | hd _ _ _ _=>cases h
 | hf _=>cases h
 | @ok a kvs vvs h1 h2 h3 =>
  cases h;refine⟨_,rfl,?_⟩;have e:(kvs.map λp=>HM.ZaE p.1)=vvs.map λp=>HM.ZaE p.1:=by
   have:=congrArg (ZBz HM.ZaE) h2
   rwa [Zyn,Zyn]at this
  rw[e];exact .dk h1
 | @ot a kvs vvs h1 h2 h3 =>
  cases h;refine⟨_,rfl,?_⟩;have e:(kvs.map λp=>ZyT (p.1.map HM.ZaE))=vvs.map λp=>ZyT (p.1.map HM.ZaE):=by
   have:=congrArg (ZBz λk:List Key=>ZyT (k.map HM.ZaE)) h2
   rwa [Zyn,Zyn]at this
  rw[e];exact .dt h1
 | @otl a kvs vvs ls h1 h2 h3 h4 =>
  cases h;refine⟨_,rfl,?_⟩;have e:(kvs.map λp=>ZyT (p.1.map HM.ZaE))=vvs.map λp=>ZyT (p.1.map HM.ZaE):=by
   have:=congrArg (ZBz λk:List Key=>ZyT (k.map HM.ZaE)) h2
   rwa [Zyn,Zyn]at this
  rw[e];exact .dt h1
theorem Zdf(hm:X.mg "sorted" = none)(hc:X.calm=true)(ha:XB X a f)(hg:Gl X "sorted":=by rfl)(hs:Zyc [a] X.env=[(false,eval a X.env)]:=by rfl):XF X (.Call (.Name "sorted" p) [a] [] pos) (HM.Zc9 f):=by
 intro r d h;unfold HM.Zc9 at h;split at h
 ·rename_i x hx
  split at h
  ·rename_i ds hds
   obtain⟨ds',h1,h2⟩:=Zx2.mp h;subst h2;refine PE.imp (Zdr (ZnX hc) hg hm ZlX (Zfa ha hx hs) (he:=hs)) λσ H Q ⟨F0,H0,F,at_,k⟩=>?_;refine⟨F0,H0,F,at_,λv fp F1 H1 x1 r1=>?_⟩;obtain⟨l,e1,src⟩:=ZrP x1.sub r1 hds;subst e1;exact⟨l,F1,ds,ds',rfl,x1.sub,src,h1,λl' ws hl' rs=>ZeM (P:=λv _ H'=>Q v H') x1.tups rs hl' k⟩
  ·cases h
 ·cases h
theorem Zro(hc:X.calm=true):ZaZ X (.type "set") (λxs H Q=>∃p ns,xs=[.ref p]/\SqL X.K H p (ns.map V.int)/\(∀n∈ns,0<=n/\n<8)/\∀l,H l=none->Q (.ref l) (upd H l (.ext λh=>ZdI X.prog X.w h l (HM.dedup [] ns)))):=by intro pins s σ H xs us Q I r h;obtain⟨p,ns,rfl,hq,hb,q⟩:=h;obtain⟨u,rfl,rx⟩:=vals1 r;cases rx;obtain⟨its,rv,pl,hz⟩:=I.list hq;refine Zr0 (I.ok.hd hc) pl.isList (by simpa using Zea rv) hb λh' tk hS kp=>?_;have hS':=hS;obtain⟨o,es,ep,t,ho,_⟩:=hS';refine⟨.ref s.heap.objs.size,_,I.laid (a:=s.heap.objs.size) (o:=.ext λh=>ZdI X.prog X.w h s.heap.objs.size (HM.dedup [] ns)) (λb o e=>kp b o (Zyh e) e) (Zyb _) ?_,rfl,q _ (I.hok.fresh (Zyb _))⟩;exact⟨hS,⟨o,ho⟩,λh1 h2 x kk=>x.at' kk⟩
theorem Znx(hc:X.calm=true):ZaZ X (.builtin "sorted") (λxs H Q=>∃p L,xs=[.ref p]/\H p=some (.ext λh=>ZdI X.prog X.w h p L)/\∀l,H l=none->Q (.ref l) (upd H l (.lst ((HM.sortI L).map V.int)))):=by
 intro pins s σ H xs us Q I r h;obtain⟨p,L,rfl,hp,q⟩:=h;obtain⟨u,rfl,rx⟩:=vals1 r;cases rx;obtain⟨hX,_,_⟩:=(show Z8 X.prog X.w H s.heap p (.ext λh=>ZdI X.prog X.w h p L) from I.hok p _ hp);obtain⟨o,es,ep,t,ho,hex,hd,hen,hpm,hpl,ht⟩:=hX;have hsz:=size_of hpl;have hfew:=ht.few;have raw:Zex X.w s.heap p es ep t:=⟨⟨o,ho,hex,hd⟩,by rw[hsz]; exact ht.fits,hsz,ht⟩;refine ZB4 kind_sorted plain_sorted entry_sorted (args_sorted1 _) ?_;unfold Builtin.«sorted»;refine ZxZ (m:=checkCount "sorted" 1 1 _) (Zx5 ?_);refine ZxZ (Zg0 (ZuJ (es:=es) (ep:=ep) (t:=t)) (I.ok.hd hc) raw (by rw[Zzo]; omega) λh' tk acc kp _ hacc=>?_);have hal:acc.toList.length=es.size:=by rw[Zyt]; exact hacc.1
 have hI:IntsAre acc.toList ((Zd1 X.w p es ep).toList.map Zez):=by
  have key:∀(us:List Value) (xs:List (Int × Value)),us.length=xs.length->(∀(i:Nat) u,us[i]?=some u->∃e,xs[i]?=some e/\u=e.2)->(∀e∈xs,∃n t,e=((intKind X.prog X.w).hash n,ZzQ n t))->IntsAre us (xs.map Zez):=by
   intro us
   induction us with
   | nil=>intro xs hl _ _; cases xs with | nil=>exact .nil | cons _ _=>simp at hl
   | cons u us ih =>
    intro xs hl hk he;cases xs with
    | nil=>simp at hl
    | cons x xs=>obtain⟨e,e1,e2⟩:=hk 0 u rfl;simp at e1;subst e1;obtain⟨n,t,e3⟩:=he x (Zx3 ..);rw[e2,e3];exact .cons n t (ih xs (by simpa using hl) (λi u e=>hk (i+1) u (by simpa using e)) λe h=>he e (Zx4 _ h))
  refine key acc.toList (Zd1 X.w p es ep).toList (by rw[hal,Zyt,ZiR]) (λi u e=>?_) λe h=>hen e ((Ziz X.w p es ep).mem_iff.mp h);obtain⟨e',e1,e2⟩:=hacc.2 i u (by rw[<-ZyS]; exact e);exact⟨e',by rw[ZyS]; exact e1,e2⟩
 refine ZxZ (wpAny_newList ?_ (by rw[hal,Zzo]; omega));have hoL:(h'.push (seqObj "list" acc.toList.toArray 0)).get? h'.objs.size=some (seqObj "list" acc.toList.toArray 0):=Zyi _ rfl;show wpAny _ _ _ _ _ { s with heap:=h'.push (seqObj "list" acc.toList.toArray 0),toks:=tk };refine ZxZ (Zzc (Zzm slot_list_sort ⟨_,hoL,rfl⟩ ZCl (list_sort_tree hoL hI (by omega) λout ns' a1 a2 a3=>⟨_,rfl,?_⟩) (args_list_sort _)));refine Zx5 ⟨_,rfl,?_⟩;have e:ns'=HM.sortI L:=Zow (a2.trans (((Ziz X.w p es ep).map Zez).trans hpm)) a3;have hl:ns'.length<64:=by rw[a2.length_eq,<-hI.length,hal]; omega
 obtain⟨ee,he⟩:=sortedHeap_at (out:=out) hoL;have I1:Inv X pins σ H { s with heap:=h',toks:=tk }:=I.kept kp;refine⟨.ref h'.objs.size,_,I1.laid (a:=h'.objs.size) (o:=.lst (ns'.map V.int)) (t':=tk) (λb o e1=>?_) (Zyb _) ⟨by rw[Zx1,Zzo]; omega,out.toList,ee,ZhJ a1,by simpa using he⟩,rfl,?_⟩
 ·exact ZjL (Zyp (Zyh e1)) (Zx7 _ e1)
 ·rw[e]; exact q _ (I1.hok.fresh (Zyb _))
theorem Zie(hm:X.mg "sorted" = none)(hm2:X.mg "set" = none)(hc:X.calm=true){p' pos':Pos}(ha:XB X a f)(hg:Gl X "sorted":=by rfl)(hg2:Gl X "set":=by rfl)(hs:Zyc [a] X.env=[(false,eval a X.env)]:=by rfl)
  (hs2:Zyc [ZCN (.Name "set" p') [a] [] pos'] X.env=[(false,eval (ZCN (.Name "set" p') [a] [] pos') X.env)]:=by rfl) :
  XF X (.Call (.Name "sorted" p) [.Call (.Name "set" p') [a] [] pos'] [] pos) (HM.ZfF f):=by
 intro r d h;unfold HM.ZfF at h;split at h
 ·rename_i x hx
  split at h
  ·rename_i ds hds
   split at h
   ·rename_i ns hns
    split at h
    ·rename_i hlow
     cases h;refine PE.imp (Zdr (Znx hc) hg hm ZlX (Zak (Zdu (Zro hc) hg2 hm2 ZvQ (Zfa ha hx hs) (he:=hs)) ZbK hs2) (he:=hs2)) λσ H Q ⟨F0,H0,F,at_,k⟩=>?_;refine⟨F0,H0,F,at_,λv fp F1 H1 x1 r1=>?_⟩;obtain⟨l,vs,e1,hq,rs⟩:=Zgh x1.sub r1 hds;subst e1;rw[ZcM hns rs]at hq;refine⟨l,ns,rfl,hq,λn hn=>?_,λl2 hl2=>⟨l2,_,rfl,ZE,λl3 hl3=>?_⟩⟩
     ·have:=Zx9.mp hlow n hn
      rw[Zyk,decide_eq_true_eq,decide_eq_true_eq]at this;exact this
     ·have x2:=x1.lay' (o:=.ext λh=>ZdI X.prog X.w h l2 (HM.dedup [] ns)) hl2
      exact ZeM (P:=λv _ H'=>Q v H') x2 (Zfd _) hl3 k
    ·cases h
   ·cases h
  ·cases h
 ·cases h
end
end HP
namespace HP
open PySem PySem.Spec PyProof.Rows L2
variable[FX]
section
variable{X:Cx}{a b:Expr}{fa:HM.EF}{f:HM.BF}{pos:Pos}
theorem Zj1(i:Int):∀ns:List Int,inV (.int i) (ns.map V.int)=ns.contains i
 | []=>rfl
 | n::ns=>by have ih:=Zj1 i ns;unfold inV at ih ⊢;rw[Zx6,ZzG,ih,List.contains_cons];show(n==i||_)=(i==n||_);rw[show(n==i)=(i==n) from ZAM.mpr ⟨λh=>beq_iff_eq.mpr (beq_iff_eq.mp h).symm,λh=>beq_iff_eq.mpr (beq_iff_eq.mp h).symm⟩]
theorem ZiO:∀ns:List Int,(ns.map V.int).all Zba=true
 | []=>rfl
 | n::ns=>by rw[Zx6,Zzi,ZiO ns]; rfl
theorem Zs8{r:HM.Env}{d:PyData}(h:HM.Zn3 fa f r=some d):∃i q ds ns,fa r=some (.int i)/\f r=some q/\HM.Zbe q=some ds/\HM.ZaI ds=some ns/\d=.bool (ns.contains i):=by
 unfold HM.Zn3 at h;split at h
 ·split at h
  ·split at h
   ·obtain⟨c,h1,h2⟩:=Zx2.mp h
    obtain⟨ns,h3,h4⟩:=Zx2.mp h1;exact⟨_,_,_,ns,by assumption,by assumption,by assumption,h3,by rw[<-h2,<-h4]⟩
   ·cases h
  ·cases h
 ·cases h
theorem Zpz{r:HM.Env}{d:PyData}(h:HM.Zhj fa f r=some d):∃i q ds ns,fa r=some (.int i)/\f r=some q/\HM.Zbe q=some ds/\HM.ZaI ds=some ns/\d=.bool (!ns.contains i):=by
 unfold HM.Zhj at h;split at h
 ·split at h
  ·split at h
   ·obtain⟨c,h1,h2⟩:=Zx2.mp h
    obtain⟨ns,h3,h4⟩:=Zx2.mp h1;exact⟨_,_,_,ns,by assumption,by assumption,by assumption,h3,by rw[<-h2,<-h4]⟩
   ·cases h
  ·cases h
 ·cases h
theorem ZtL{neg:Bool}{r:HM.Env}{i:Int}{q:HM.B}{ds:List PyData}{ns:List Int}(ha:XE X a fa)(hb:XB X b f)(h1:fa r=some (.int i))(h2:f r=some q)(h3:HM.Zbe q=some ds)(h4:HM.ZaI ds=some ns){op:CmpOp}(ho:OpR X (Zy6 op) (rIn X.K neg))(hm:Zy7 op b=false) :
  PE X (.Compare a [op] [b] pos) (tAt X.K r λ_ F' _ v=>v=.bl (if neg then !ns.contains i else ns.contains i)):=by
 refine PE.imp (Zp2 ho (ha r _ h1) (hb r q h2) hm) λσ H Q ⟨F0,H0,F,at_,k⟩=>?_;refine⟨F0,H0,F,at_,λv F1 H1 x1 r1=>⟨F0,H0,F1,at_.grow x1,λw F2 H2 x2 ⟨fp,r2⟩=>?_⟩⟩;obtain⟨p,vs,e1,hq,rs⟩:=Zf8 x2.sub r2 h3;cases r1;rw[ZcM h4 rs]at hq;refine⟨p,_,e1,hq,rfl,ZiO ns,k _ F2 H2 (x1.trans x2) ?_⟩;rw[Zj1]
theorem Ztt{neg:Bool}{r:HM.Env}{i:Int}{q:HM.B}{ds:List PyData}{ns:List Int}(ha:XE X a fa)(hb:XB X b f)(h1:fa r=some (.int i))(h2:f r=some q)(h3:HM.Zbe q=some ds)(h4:HM.ZaI ds=some ns){op:CmpOp}(ho:OpR X (Zy6 op) (rIn X.K neg))(hm:Zy7 op b=false) :
  PT X (.Compare a [op] [b] pos) λσ H Q=>Now X.K r σ H λF0 H0 F=>∀F' H',Ext F H F' H'->Q (if neg then !ns.contains i else ns.contains i) H':=by
 refine PT.imp (Zlq ho (ha r _ h1) (hb r q h2) hm) λσ H Q ⟨F0,H0,F,at_,k⟩=>?_;refine⟨F0,H0,F,at_,λv F1 H1 x1 r1=>⟨F0,H0,F1,at_.grow x1,λw F2 H2 x2 ⟨fp,r2⟩=>?_⟩⟩;obtain⟨p,vs,e1,hq,rs⟩:=Zf8 x2.sub r2 h3;cases r1;rw[ZcM h4 rs]at hq;refine⟨p,_,e1,hq,rfl,ZiO ns,_,rfl,?_⟩;rw[Zj1];exact k F2 H2 (x1.trans x2)
theorem Zvd(ha:XE X a fa)(hb:XB X b f)(hm:Zy7 .In b=false:=by rfl):XE X (.Compare a [.In] [b] pos) (HM.Zn3 fa f):=by intro r d h;obtain⟨i,q,ds,ns,h1,h2,h3,h4,rfl⟩:=Zs8 h;refine PE.imp (ZtL ha hb h1 h2 h3 h4 Zsn hm) λσ H Q ⟨F0,H0,F,at_,k⟩=>⟨F0,H0,F,at_,λv F' H' x e=>k v F' H' x ?_⟩;subst e;exact .bl _
theorem Zrd(ha:XE X a fa)(hb:XB X b f)(hm:Zy7 .NotIn b=false:=by rfl):XT X (.Compare a [.NotIn] [b] pos) (HM.tV (HM.Zhj fa f)):=by intro r d h;obtain⟨i,q,ds,ns,h1,h2,h3,h4,e⟩:=Zpz (Zff h);cases e;exact Ztt ha hb h1 h2 h3 h4 Znt hm
end
end HP
namespace HP
open PySem PySem.Spec PyProof.Rows L2
variable[FX]
section
variable{X:Cx}{c e:Expr}{fa:HM.EF}{t:HM.TF}{g:HM.SF}{pos:Pos}{body:List Stmt}
theorem ZjR(n:Nat)(hxe:X.xe=λ_ _=>False)(hc:XT X c t)(hb:XSs X body g):XS X (.While c body [] pos) (HM.Zky n t g):=by
 intro r o ho;have ho:HM.Za0 t g n r=some o:=ho;have pb:PSs X body (λE σ H=>∃r o,g r=some o/\tSt X.K r o E σ H):=λpins s σ H E I ⟨r,o,h1,h2⟩=>hb r o h1 pins s σ H E I h2;have pc:PT X c (λσ H Q=>∃r b,t r=some b/\Now X.K r σ H λF0 H0 F=>∀F' H',Ext F H F' H'->Q b H'):=λpins s σ H Q I ⟨r,b,h1,h2⟩=>hc r b h1 pins s σ H Q I h2;refine PS.imp (ZsQ (ZlK hxe) pc pb) λE σ H ⟨F0,H0,F,at_,k⟩=>?_;refine⟨λm σ H=>∃F r,At X.K F0 H0 F H r σ/\HM.Za0 t g m r=some o,⟨n,F,r,at_,ho⟩,?_⟩
 rintro m σ H ⟨F2,r2,at2,go⟩
 cases m with
 | zero=>cases go
 | succ m =>
  unfold HM.Za0 at go;split at go
  ·rename_i ht
   refine⟨r2,true,ht,F0,H0,F2,at2,λF' H' x=>?_⟩;dsimp only;rw[if_pos rfl];have at3:=at2.grow x;have a4:=at3.rebase;refine⟨λσ' H'=>∃F r,At X.K F0 H0 F H' r σ'/\HM.Za0 t g m r=some o,λσ' H' q=>⟨m,ZAi m,q⟩,?_⟩;split at go
   ·rename_i r' hr
    exact⟨_,_,hr,F',H0,F',a4,λσ' F' H' a'=>⟨F',r',a'.unbase at3.ext at3.nt0,go⟩⟩
   ·rename_i r' hr
    exact⟨_,_,hr,F',H0,F',a4,λσ' F' H' a'=>⟨F',r',a'.unbase at3.ext at3.nt0,go⟩⟩
   ·rename_i r' hr
    cases go;exact⟨_,_,hr,F',H0,F',a4,λσ' F' H' a'=>k σ' F' H' (a'.unbase at3.ext at3.nt0)⟩
   ·rename_i d hr
    cases go;exact⟨_,_,hr,F',H0,F',a4,λv F' H' x q=>k v F' H' (at3.ext.unbase x) q⟩
   ·cases go
  ·rename_i ht
   cases go;refine⟨r2,false,ht,F0,H0,F2,at2,λF' H' x=>?_⟩;dsimp only;rw[if_neg (by simp)];exact k σ F' H' (at2.grow x)
  ·cases go
end
end HP
namespace HP
open PySem PySem.Spec PyProof.Rows L2
variable[FX]
section
variable{X:Cx}{a b:Expr}{fa:HM.EF}{f:HM.BF}{pos:Pos}
theorem Zr7{e:Value->Bool}{f:PyData->Bool}:∀{ds:List PyData} {us:List Value},ds.length=us.length->(∀(i:Nat) d u,ds[i]?=some d->us[i]?=some u->e u=f d)->us.any e=ds.any f
 | [],[],_,_=>rfl
 | [],_::_,hl,_=>by simp at hl
 | _::_,[],hl,_=>by simp at hl
 | d::ds,u::us,hl,k=>by rw[ZzG,ZzG,k 0 d u rfl rfl,Zr7 (ds:=ds) (us:=us) (by simpa using hl) λi d u e1 e2=>k (i+1) d u (by simpa using e1) (by simpa using e2)]
def ZtR(K:Zx0)(neg:Bool):R2:=λvx vy H Q=>∃F p xs x ds,Zq F H/\vy=.ref p/\(SqL K H p xs\/SqT K H p xs)/\Rep K F x vx/\Zv K F ds xs/\HM.Zad x=true/\ds.all HM.Zad=true /\
 Q (.bl (if neg then !ds.any λd=>Zy4 d x else ds.any λd=>Zy4 d x)) H
open Classical in
noncomputable def ZdK (h:Heap) (x:PyData) (u:Value):Bool:=decide (∃d as,Reads h u d as/\d.canLay0=true/\Zy4 d x=true)
theorem ZrZ{h:Heap}{x d:PyData}{u:Value}{as:List Addr}(r:Reads h u d as)(hl:d.canLay0=true):ZdK h x u=Zy4 d x:=by
 classical
 unfold ZdK;cases q:Zy4 d x with
 | true=>exact decide_eq_true ⟨d,as,r,hl,q⟩
 | false=>refine decide_eq_false λ⟨d',as',r',hl',q'⟩=>?_;rw[SeqAt.Reads.unique d d' u as as' hl r r']at q;rw[q]at q';cases q'
theorem ZhS{k:Nat}(hr:Zag k X.A){pins:List (Addr × Obj)}{s:Shared}{σ:L2.St}{H F:Hp}{x:PyData}{vx:V}{u:Value}{ds:List PyData}{xs:List V}{its:List Value}(I:Inv X pins σ H s)(sub:Zq F H)(rx:Rep X.K F x vx)(ru:RelV vx u)(rs:Zv X.K F ds xs)(rv:Vals xs its)(px:HM.Zad x=true)(pd:ds.all HM.Zad=true) :
  (∀y∈its,SeqAt.EqAt X.A.in1 s y u (ZdK s.heap x y))/\its.any (ZdK s.heap x)=ds.any λd=>Zy4 d x:=by
 obtain⟨x1,x2⟩:=ZdE px;obtain⟨as,hx⟩:=rx.reads I sub x1 u ru;have hun:=hr.un;have each:∀(i:Nat) d y,ds[i]?=some d->its[i]?=some y->(∃bs,Reads s.heap y d bs)/\d.canLay0=true/\d.depth<=60:=λi d y e1 e2=>by
  have hi:i<xs.length:=by rw[<-rs.1]; exact(Zyd.mp e1).1
  obtain⟨y',q1,q2⟩:=rv.get (Zye hi);rw[e2]at q1;cases q1;have hp:=ZdE (Zx9.mp pd d (Zyu e1));exact⟨(rs.2 i d _ e1 (Zye hi)).reads I sub hp.1 y q2,hp⟩
 have hl:ds.length=its.length:=rs.1.trans rv.length;refine⟨λy hy=>?_,Zr7 hl λi d y e1 e2=>?_⟩
 ·obtain⟨i,hi,e⟩:=ZAn hy
  have hi':i<ds.length:=by omega
  obtain⟨⟨bs,q⟩,h1,h2⟩:=each i ds[i] y (Zye hi') (by rw[Zye hi,e]);rw[ZrZ q h1];refine SeqAt.eqAt_reads _ _ _ _ _ _ _ _ q hx h1 x1 ?_;have:min (ds[i]).depth x.depth<=60:=ZyO (ZCi _ _) h2;show X.A.units+1+_<_;omega
 ·obtain⟨⟨bs,q⟩,h1,_⟩:=each i d y e1 e2
  exact ZrZ q h1
theorem Zvz{k:Nat}(hr:Zag k X.A):OpR X (Zy6 .In) (ZtR X.K false):=by
 intro pins s σ H vx vy v u Q I r1 r2 ⟨F,p,xs,x,ds,sub,e,hq,rx,rs,px,pd,q⟩;subst e;cases r2;rcases hq with hq | hq
 ·obtain⟨its,r,pl,hz⟩:=I.list hq
  obtain⟨h1,h2⟩:=ZhS hr I sub rx r1 rs r px pd;refine SeqAt.in_listAt (ZdK s.heap x) pl.isList (λw hw=>h1 w (by simpa using hw)) ⟨.bl _,H,I,rfl,?_⟩;rw[show its.toArray.any (ZdK s.heap x)=its.any (ZdK s.heap x) by simp,h2];exact q
 ·obtain⟨its,r,pl,hz⟩:=I.tuple hq
  obtain⟨h1,h2⟩:=ZhS hr I sub rx r1 rs r px pd;refine SeqAt.in_tupleAt (ZdK s.heap x) pl (λw hw=>h1 w (by simpa using hw)) ⟨.bl _,H,I,rfl,?_⟩;rw[show its.toArray.any (ZdK s.heap x)=its.any (ZdK s.heap x) by simp,h2];exact q
theorem ZrU{k:Nat}(hr:Zag k X.A):OpR X (Zy6 .NotIn) (ZtR X.K true):=by
 intro pins s σ H vx vy v u Q I r1 r2 ⟨F,p,xs,x,ds,sub,e,hq,rx,rs,px,pd,q⟩;subst e;cases r2;rcases hq with hq | hq
 ·obtain⟨its,r,pl,hz⟩:=I.list hq
  obtain⟨h1,h2⟩:=ZhS hr I sub rx r1 rs r px pd;refine SeqAt.notIn_listAt (ZdK s.heap x) pl.isList (λw hw=>h1 w (by simpa using hw)) ⟨.bl _,H,I,rfl,?_⟩;rw[show its.toArray.any (ZdK s.heap x)=its.any (ZdK s.heap x) by simp,h2];exact q
 ·obtain⟨its,r,pl,hz⟩:=I.tuple hq
  obtain⟨h1,h2⟩:=ZhS hr I sub rx r1 rs r px pd;refine SeqAt.notIn_tupleAt (ZdK s.heap x) pl (λw hw=>h1 w (by simpa using hw)) ⟨.bl _,H,I,rfl,?_⟩;rw[show its.toArray.any (ZdK s.heap x)=its.any (ZdK s.heap x) by simp,h2];exact q
theorem ZoT{ds:List PyData}{x:PyData}{c:Bool}(h:HM.Zlj ds x=some c):HM.Zad x=true/\ds.all HM.Zad=true/\c=ds.any λd=>Zy4 d x:=by
 unfold HM.Zlj at h;split at h
 ·rename_i hp
  rw[Zyk]at hp;cases h;exact⟨hp.1,hp.2,rfl⟩
 ·cases h
theorem Ztx{r:HM.Env}{d:PyData}(h:HM.ZnC fa f r=some d):∃x q ds,fa r=some x/\f r=some q/\HM.Zbe q=some ds/\HM.Zad x=true/\ds.all HM.Zad=true/\d=.bool (ds.any λd=>Zy4 d x):=by
 unfold HM.ZnC at h;split at h
 ·split at h
  ·split at h
   ·obtain⟨c,h1,h2⟩:=Zx2.mp h
    obtain⟨h3,h4,h5⟩:=ZoT h1;exact⟨_,_,_,by assumption,by assumption,by assumption,h3,h4,by rw[<-h2,<-h5]⟩
   ·cases h
  ·cases h
 ·cases h
theorem Zpo{r:HM.Env}{d:PyData}(h:HM.Zhd fa f r=some d):∃x q ds,fa r=some x/\f r=some q/\HM.Zbe q=some ds/\HM.Zad x=true/\ds.all HM.Zad=true/\d=.bool (!ds.any λd=>Zy4 d x):=by
 unfold HM.Zhd at h;split at h
 ·split at h
  ·split at h
   ·obtain⟨c,h1,h2⟩:=Zx2.mp h
    obtain⟨h3,h4,h5⟩:=ZoT h1;exact⟨_,_,_,by assumption,by assumption,by assumption,h3,h4,by rw[<-h2,<-h5]⟩
   ·cases h
  ·cases h
 ·cases h
theorem Zn2{neg:Bool}{r:HM.Env}{x:PyData}{q:HM.B}{ds:List PyData}(ha:XE X a fa)(hb:XB X b f)(h1:fa r=some x)(h2:f r=some q)(h3:HM.Zbe q=some ds)(p1:HM.Zad x=true)(p2:ds.all HM.Zad=true){op:CmpOp}(ho:OpR X (Zy6 op) (ZtR X.K neg))(hm:Zy7 op b=false) :
  PT X (.Compare a [op] [b] pos) λσ H Q=>Now X.K r σ H λF0 H0 F=>∀F' H',Ext F H F' H'->Q (if neg then !ds.any λd=>Zy4 d x else ds.any λd=>Zy4 d x) H':=by
 refine PT.imp (Zlq ho (ha r _ h1) (hb r q h2) hm) λσ H Q ⟨F0,H0,F,at_,k⟩=>?_;refine⟨F0,H0,F,at_,λv F1 H1 x1 r1=>⟨F0,H0,F1,at_.grow x1,λw F2 H2 x2 ⟨fp,r2⟩=>?_⟩⟩;obtain⟨p,vs,e1,hq,rs⟩:=Zf8 x2.sub r2 h3;exact⟨F2,p,vs,x,ds,x2.sub,e1,hq,r1.mono x2.ff,rs,p1,p2,_,rfl,k F2 H2 (x1.trans x2)⟩
theorem Zve{k:Nat}(hr:Zag k X.A)(ha:XE X a fa)(hb:XB X b f)(hm:Zy7 .In b=false:=by rfl):XT X (.Compare a [.In] [b] pos) (HM.tV (HM.ZnC fa f)):=by intro r d h;obtain⟨x,q,ds,h1,h2,h3,h4,h5,e⟩:=Ztx (Zff h);cases e;exact Zn2 ha hb h1 h2 h3 h4 h5 (Zvz hr) hm
theorem Zre{k:Nat}(hr:Zag k X.A)(ha:XE X a fa)(hb:XB X b f)(hm:Zy7 .NotIn b=false:=by rfl):XT X (.Compare a [.NotIn] [b] pos) (HM.tV (HM.Zhd fa f)):=by intro r d h;obtain⟨x,q,ds,h1,h2,h3,h4,h5,e⟩:=Zpo (Zff h);cases e;exact Zn2 ha hb h1 h2 h3 h4 h5 (ZrU hr) hm
end
end HP
namespace HP
open PySem PySem.Spec PyProof.Rows L2
variable[FX]
section
variable{X:Cx}{a b c e:Expr}{fa fb fc:HM.EF}{f:HM.BF}{pos p:Pos}{es:List Expr}
theorem rdT{F F':Hp}{a:Addr}{vvs:List (List Key × V)}(r:Rd F a (.dT vvs))(s:Zaz F F'):Rd F' a (.dT vvs):=r.imp (λh=>s _ _ h) λ⟨o,h⟩=>⟨o,s _ _ h⟩
theorem ZqW{H:Hp}{a b:Addr}{kvs:List (List Key × V)}{k:List Key}(e:Rd H a (.dT kvs))(eb:H b=some (.tup (k.map kV))):ZcI H a (.ref b) (ZaN kvs k):=.inr ⟨kvs,k,b,e,rfl,eb,rfl⟩
theorem Zkg{K:Zx0}{F H:Hp}{q:HM.B}{v:V}{fp:List Addr}{kvs:List (List Key × PyData)}(sub:Zq F H)(r:Zab K F H q v fp)(h:HM.Zlm q=some kvs):∃l vvs,v=.ref l/\Rd H l (.dT vvs)/\ZaO K F kvs vvs:=by
 cases r with
 | pl r =>
  cases r with
  | @dct l es kvs' vvs h1 h2 h3 h4=>subst h2;have h:HM.ZeT (HM.Zg kvs')=some kvs:=h;rw[HM.dec_enc]at h;cases h;refine⟨l,vvs,rfl,Zjd h1 sub,h3,?_,h4⟩;have:=congrArg ZyN h3;rw[Zx1,Zx1]at this;rw[Zx1,Zx1,this]
  | fn _=>cases h
  | tupk _=>cases h
  | tup _ _ _=>cases h
  | lst _ _ _=>cases h
  | non=>cases h
  | bl _=>cases h
  | int _=>cases h
  | str _=>cases h
 | ol _ _=>cases h
 | ok _ _ _=>cases h
 | @ot l kvs vvs h1 h2 h3=>cases h; exact⟨l,vvs,rfl,.inl h1,h2,h3⟩
 | @hd l o es kvs' vvs h1 h2 h3 h4=>subst h2;have h:HM.ZeT (HM.Zg kvs')=some kvs:=h;rw[HM.dec_enc]at h;cases h;exact⟨l,vvs,rfl,.inr ⟨o,sub _ _ h1⟩,h3,h4⟩
 | hf _=>cases h
 | otl _ _ _ _=>cases h
theorem ZtX{r:HM.Env}{d:PyData}(h:HM.ZnY fa f r=some d):∃x q kvs y,fa r=some x/\f r=some q/\HM.Zlm q=some kvs/\HM.ZaV x=some y/\d=.bool (HM.Zm kvs y).isSome:=by
 unfold HM.ZnY at h;split at h
 ·split at h
  ·split at h
   ·obtain⟨y,h1,h2⟩:=Zx2.mp h
    exact⟨_,_,_,y,by assumption,by assumption,by assumption,h1,h2.symm⟩
   ·cases h
  ·cases h
 ·cases h
theorem ZpB{r:HM.Env}{d:PyData}(h:HM.Zbr fa f r=some d):∃x q kvs y,fa r=some x/\f r=some q/\HM.Zlm q=some kvs/\HM.ZaV x=some y/\d=.bool (!(HM.Zm kvs y).isSome):=by
 unfold HM.Zbr at h;split at h
 ·split at h
  ·split at h
   ·obtain⟨y,h1,h2⟩:=Zx2.mp h
    exact⟨_,_,_,y,by assumption,by assumption,by assumption,h1,h2.symm⟩
   ·cases h
  ·cases h
 ·cases h
theorem Zvf(hu:X.A.units+1<cLine)(ha:XE X a fa)(hb:XB X b f)(hm:Zy7 .In b=false:=by rfl):XT X (.Compare a [.In] [b] pos) (HM.tV (HM.ZnY fa f)):=by intro r d h;obtain⟨x,q,kvs,y,h1,h2,h3,h4,e⟩:=ZtX (Zff h);cases e;refine PT.imp (ZnK (ZvR hu (ha r x h1) (hb r q h2)) hm) λσ H Q ⟨F0,H0,F,at_,k⟩=>?_;refine⟨F0,H0,F,at_,λv F1 H1 x1 r1=>⟨F0,H0,F1,at_.grow x1,λw F2 H2 x2 ⟨fp,r2⟩=>?_⟩⟩;obtain⟨l,vvs,e1,e2,T⟩:=Zkg x2.sub r2 h3;obtain⟨bb,rfl,hbb⟩:=Zcc h4 (r1.mono x2.ff);exact⟨l,_,e1,ZqW e2 (x2.sub _ _ hbb),_,rfl,by rw[T.some_iff]; exact k F2 H2 (x1.trans x2)⟩
theorem Zd3(hu:X.A.units+1<cLine)(ha:XE X a fa)(hb:XB X b f)(hm:Zy7 .NotIn b=false:=by rfl):XT X (.Compare a [.NotIn] [b] pos) (HM.tV (HM.Zbr fa f)):=by intro r d h;obtain⟨x,q,kvs,y,h1,h2,h3,h4,e⟩:=ZpB (Zff h);cases e;refine PT.imp (ZnK (ZlL hu (ha r x h1) (hb r q h2)) hm) λσ H Q ⟨F0,H0,F,at_,k⟩=>?_;refine⟨F0,H0,F,at_,λv F1 H1 x1 r1=>⟨F0,H0,F1,at_.grow x1,λw F2 H2 x2 ⟨fp,r2⟩=>?_⟩⟩;obtain⟨l,vvs,e1,e2,T⟩:=Zkg x2.sub r2 h3;obtain⟨bb,rfl,hbb⟩:=Zcc h4 (r1.mono x2.ff);exact⟨l,_,e1,ZqW e2 (x2.sub _ _ hbb),_,rfl,by rw[T.some_iff]; exact k F2 H2 (x1.trans x2)⟩
theorem Zg5(hu:X.A.units+1<cLine)(ha:XB X a f)(hk:XE X b fb)(hs:ZoH b:=by intro _ _; rfl):XE X (.Subscript a b pos) (HM.Zbx f fb):=by
 intro r d h;unfold HM.Zbx at h;split at h
 ·rename_i q hq
  split at h
  ·rename_i kvs hd
   split at h
   ·rename_i x hx
    split at h
    ·rename_i y hy
     refine PE.imp (Zk4 hu (ha r q hq) (hk r x hx) hs) λσ H Q ⟨F0,H0,F,at_,kk⟩=>?_;refine⟨F0,H0,F,at_,λv F1 H1 x1 ⟨fp,r1⟩=>⟨F0,H0,F1,at_.grow x1,λw F2 H2 x2 r2=>?_⟩⟩;obtain⟨l,vvs,e1,e2,T⟩:=Zkg x1.sub r1 hd;have e2':=rdT e2 x2.hh;have T':ZaO X.K F2 kvs vvs:=⟨T.1,T.2.mono x2.ff⟩;obtain⟨bb,rfl,hbb⟩:=Zcc hy r2;obtain⟨u,q1,q2⟩:=T'.look.1 d h;exact⟨l,u,e1,by rw[<-q1]; exact ZqW e2' (x2.sub _ _ hbb),kk u F2 H2 (x1.trans x2) q2⟩
    ·cases h
   ·cases h
  ·cases h
 ·cases h
structure XAL(X:Cx)(es:List Expr)(f:HM.AF):Prop where
 len:∀r ds,f r=some ds->ds.length=es.length
 pa:∀r ds,f r=some ds->PA X es λσ H Q=>Now X.K r σ H λF0 H0 F=>∀vs F' H',Ext F H F' H'->Zv X.K H' ds vs->Q vs H'
theorem Zab.lent{K:Zx0}{F H:Hp}{q:HM.B}{v:V}{fp:List Addr}{d:PyData}(sub:Zq F H)(r:Zab K F H q v fp)(h:HM.frz q=some d):Rep K H d v:=by
 cases r with
 | pl r=>cases h; exact r.mono sub
 | ol h1 r=>cases h; exact .lst (.of h1) r.1 (r.mono sub).2
 | ok _ _ _=>cases h
 | hd h1 he hk r=>cases h; exact(Rep.dct (.inr ⟨_,h1⟩) he hk r.2).mono sub
 | hf h1=>cases h; exact(Rep.fn h1).mono sub
 | ot h1 hk r=>cases h; exact .dct (.inl h1) rfl hk (r.mono sub).2
 | otl _ _ _ _=>cases h
end
end HP
namespace HP
open PySem PySem.Spec PyProof.Rows L2
variable[FX]
section
variable{X:Cx}{a b c e:Expr}{fa fb fc:HM.EF}{f:HM.BF}{pos p:Pos}{es:List Expr}
theorem Zrf{g:HM.AF}(h:XA X es g):XAL X es g :=
 ⟨h.len,λr ds hd=>PA.imp (h.pa r ds hd) λσ H Q ⟨F0,H0,F,at_,k⟩=>⟨F0,H0,F,at_,λvs F' H' x q=>k vs F' H' x (q.mono x.sub)⟩⟩
theorem ZfM{g:HM.AF}(ha:XE X e fa)(hr:XAL X es g)(hs:Zyc (e::es) X.env=(false,eval e X.env)::Zyc es X.env:=by rfl):XAL X (e::es) (HM.Zd fa g):=by
 refine⟨λr ds h=>?_,λr ds h=>?_⟩
 ·unfold HM.Zd at h
  split at h
  ·obtain⟨xs,h1,h2⟩:=Zx2.mp h
   subst h2;rw[Zyg,Zyg,hr.len r xs h1]
  ·cases h
 unfold HM.Zd at h;split at h
 ·rename_i x hx
  obtain⟨xs,h1,h2⟩:=Zx2.mp h;subst h2;refine PA.imp (Zak (ha r x hx) (hr.pa r xs h1) hs) λσ H Q ⟨F0,H0,F,at_,k⟩=>?_;exact⟨F0,H0,F,at_,λv F1 H1 x1 r1=>⟨F0,H0,F1,at_.grow x1,λvs F2 H2 x2 r2=>k (v::vs) F2 H2 (x1.trans x2) (.cons ((r1.mono x2.ff).mono x2.sub) r2)⟩⟩
 ·cases h
theorem ZmU{g:HM.AF}(ha:XB X e f)(hr:XAL X es g)(hs:Zyc (e::es) X.env=(false,eval e X.env)::Zyc es X.env:=by rfl):XAL X (e::es) (HM.Zd (HM.ZmI f) g):=by
 refine⟨λr ds h=>?_,λr ds h=>?_⟩
 ·unfold HM.Zd at h
  split at h
  ·obtain⟨xs,h1,h2⟩:=Zx2.mp h
   subst h2;rw[Zyg,Zyg,hr.len r xs h1]
  ·cases h
 unfold HM.Zd at h;split at h
 ·rename_i x hx
  obtain⟨xs,h1,h2⟩:=Zx2.mp h;subst h2;obtain⟨q,hq,hf⟩:=ZA1.mp hx;refine PA.imp (Zak (ha r q hq) (hr.pa r xs h1) hs) λσ H Q ⟨F0,H0,F,at_,k⟩=>?_;exact⟨F0,H0,F,at_,λv F1 H1 x1 ⟨fp,r1⟩=>⟨F0,H0,F1,at_.grow x1,λvs F2 H2 x2 r2=>k (v::vs) F2 H2 (x1.trans x2) (.cons ((r1.lent x1.sub hf).monoT x2.hh) r2)⟩⟩
 ·cases h
theorem Rep.flat{K:Zx0}{F F':Hp}{d:PyData}{v:V}(r:Rep K F d v)(h:HM.Zjg d=true):Rep K F' d v:=by
 cases r with
 | non=>exact .non
 | bl b=>exact .bl b
 | int i=>exact .int i
 | str x=>exact .str x
 | tupk _=>cases h
 | tup _ _ _=>cases h
 | lst _ _ _=>cases h
 | dct _ _ _ _=>cases h
 | fn _=>cases h
theorem Ext.forget{F H F'' H'':Hp}(s:Zq F H)(n:NoT F)(x:Ext (Zcy H) H F'' H''):Ext F H F H'' :=
 ⟨Zq.refl F,x.hh,(n.sub s).trans (x.ff.trans x.sub),λ_ _ z=>.inl z,x.tab,id⟩
theorem ZsE{k:Nat}{x:Str}{g:HM.AF}{M:List PyData->Option PyData}(C:Callee X.prog X.w X.K X.mg X.base k x M)(hr:Zag k X.A)(ha:XAL X (e::es) g)(hg:Gl X x:=by rfl)(hdb:(x==("__debug__":Str))=false:=by decide)
  (he:Zyc (e::es) X.env=(false,eval e X.env)::Zyc es X.env:=by rfl) (hpl:(backTo pos (Zyc es X.env)).any (·.1)=false:=by rfl):XE X (.Call (.Name x p) (e::es) [] pos) (HM.Zom M g):=by
 intro r d hd;unfold HM.Zom at hd;split at hd
 ·rename_i ds hds
  split at hd
  ·rename_i d' hM
   split at hd
   ·rename_i hflat
    cases hd;obtain⟨fa,fd,ps,hl,F,hm,hk,hb⟩:=C.ex;refine PE.imp (Zjc (E:=E0) F hr hg hm hk hb .nil ZmJ (ha.pa r ds hds) hdb he hpl) λσ H Q ⟨F0,H0,F1,at_,k⟩=>?_;refine⟨F0,H0,F1,at_,λvs F' H' x q=>?_⟩;show spD X.K ps.length M (vs++[]) H' Q E0;rw[ZyJ];exact⟨Zcy H',ds,d,by rw[<-q.1]; exact hl ds d hM,ZiS,at_.tbx x,.drop,q.drop',hM,λv F2 H2 x2 q2=>k v F' H2 (x.trans (Ext.forget x.sub (at_.ntx x) x2)) (q2.flat hflat)⟩
   ·cases hd
  ·cases hd
 ·cases hd
theorem ZrY(hc:X.calm=true):ZaZ X (.builtin "max") (λxs H Q=>∃(p:Addr) (ns:List Int),xs=[.ref p]/\SqL X.K H p (ns.map V.int)/\0<ns.length/\∀M,M∈ns->(∀a,a∈ns->a<=M)->Q (.int M) H):=by
 intro pins s σ H xs us Q I r h;obtain⟨p,ns,rfl,hq,hne,q⟩:=h;obtain⟨u,rfl,rx⟩:=vals1 r;cases rx;obtain⟨its,rv,pl,hz⟩:=I.list hq;have hi:=Zea rv;obtain⟨xs,e⟩:=hi.allInts.items;have hns:ns=xs.toList.map (·.1):=by rw[<-hi.numsOf,<-nums_intItems,<-e]
 have hsz:0<xs.size:=by have h3:=hne; rw[hns,Zx1,Zyt]at h3; exact h3
 have hl:=pl.isList;rw[e]at hl;refine max_intList (I.ok.hd hc) hl hsz λv h' tk hv hk=>?_;obtain⟨t,rfl⟩:=intItems_at hv;obtain⟨h1,h2⟩:=argBest_gt (numAt xs) (xs.size-1);refine⟨.int _,H,I.kept (t':=tk) hk,⟨t,rfl⟩,q _ ?_ λa ha=>?_⟩
 ·rw[hns,numAt_eq]; exact getD_mem (by rw[Zx1,Zyt]; omega)
 ·rw[hns]at ha
  obtain⟨j,hj,rfl⟩:=mem_getD ha;rw[Zx1,Zyt]at hj;rw[<-numAt_eq]; exact h2 j (by omega)
theorem Zuc(hm:X.mg "max" = none)(hc:X.calm=true)(ha:XB X a f)(hg:Gl X "max":=by rfl)(hs:Zyc [a] X.env=[(false,eval a X.env)]:=by rfl):XE X (.Call (.Name "max" p) [a] [] pos) (HM.ZkF f):=by
 intro r d h;unfold HM.ZkF at h;split at h
 ·rename_i x hx
  split at h
  ·rename_i ds hds
   split at h
   ·rename_i ns hns
    obtain⟨m,h1,h2⟩:=Zx2.mp h;subst h2;refine PE.imp (Zdr (ZrY hc) hg hm ZrJ (Zfa ha hx hs) (he:=hs)) λσ H Q ⟨F0,H0,F,at_,k⟩=>?_;refine⟨F0,H0,F,at_,λv fp F1 H1 x1 r1=>?_⟩;obtain⟨l,vs,e1,hq,rs⟩:=Zgh x1.sub r1 hds;rw[ZcM hns rs]at hq;obtain⟨m1,m2⟩:=ZCy.mp h1;refine⟨l,ns,by rw[e1],hq,List.length_pos_of_mem m1,λM k1 k2=>?_⟩;have:M=m:=Int.le_antisymm (m2 M k1) (k2 m m1);subst this;exact k _ F1 H1 x1 (.int _)
   ·cases h
  ·cases h
 ·cases h
end
end HP
namespace HP
open PySem PySem.Spec PyProof.Rows L2
variable[FX]
end HP
namespace HP
open PySem PySem.Spec PyProof.Rows L2
variable[FX]
section
variable{X:Cx}{a b c e:Expr}{fa fb fc:HM.EF}{f:HM.BF}{pos p:Pos}{es:List Expr}
theorem Zrg(i:Nat){x:Str}{p1 p2 p3:Pos}(ha:XB X a f)(hN:X.N[i]?=some x:=by rfl)(hv:Vis X.env.scope x:=by first | exact ZyY rfl | exact ZyC (ZyY rfl) | exact ZyC (ZyC rfl))(hd:(x==("__debug__":Str))=false:=by decide)(hcd:(x==("__classdict__":Str))=false:=by decide)
  (hbase:Zz9 (.Name x p1) "extend" X.env (eval (.Name x p1) X.env)=eval (.Name x p1) X.env:=by rfl)
  (hfew:((backTo p3 (Zyc [a] X.env)).all (λx=>!x.1)&&(ZB8 p3 (ZA9 [] X.env)).all (λx=>x.1.isSome)&&decide (([a]:List Expr).length+([]:List Keyword).length+(if([]:List Keyword).isEmpty then 0 else 1)<30))=true:=by rfl)
  (hline:(p2.endLine==p3.line)=true:=by rfl) (hs:Zyc [a] X.env=[(false,eval a X.env)]:=by rfl):XS X (.Expr (.Call (.Attribute (.Name x p1) "extend" p2) [a] [] p3) pos) (HM.Zi3 i f):=by
 intro r o h;unfold HM.Zi3 at h;split at h
 ·rename_i ds hds
  split at h
  ·rename_i es hes
   split at h
   ·rename_i hz
    cases h;refine PS.imp (Zhf (ZmK Zz0 PySem.F.slot_list_extend PySem.F.type_list_extend Zru (Zca hN hv hd hcd) (Zak (ha r _ hes) ZbK hs) hbase hfew hline hs rfl)) λE σ H ⟨F0,H0,F,at_,k⟩=>?_;obtain⟨l,vs,e1,e2,e3,_⟩:=at_.chgList (es:=ds) hds;refine⟨.ref l,e1,.inl ⟨rfl,_,SqL.of e2⟩,F0,H0,F,at_,λv F1 H1 x1 ⟨fp,r1⟩=>?_⟩;have at1:=at_.grow x1;obtain⟨l',vs',f1,f2,f3,f4⟩:=at1.chgList (es:=ds++es) hds;rw[e1]at f1;cases f1;cases r1 with
    | @ol b _ us hb rs =>
     refine⟨_,b,vs',us,rfl,rfl,f2,hb,?_,k _ F1 _ (f4 _ (f3.append rs))⟩;have e4:=f3.1;have e6:=rs.1;have e5:(1000000:Nat)<=sizeLine:=by decide
     unfold HM.big at hz;omega
   ·cases h
  ·cases h
 ·cases h
theorem Zvg(i j:Nat){x y:Str}{p1 p2 p3 p4:Pos}(hN:X.N.Nodup)(hNi:X.N[i]?=some x:=by rfl)(hNj:X.N[j]?=some y:=by rfl)(hx:Loc X.env.scope x:=by first | exact ZyY rfl | exact ZyC rfl)(hv:Vis X.env.scope y:=by first | exact ZyY rfl | exact ZyC (ZyY rfl) | exact ZyC (ZyC rfl))(hd:(y==("__debug__":Str))=false:=by decide)(hcd:(y==("__classdict__":Str))=false:=by decide)
  (hbase:Zz9 (.Name y p1) "pop" X.env (eval (.Name y p1) X.env)=eval (.Name y p1) X.env:=by rfl) (hline:(p2.endLine==p3.line)=true:=by rfl)
  (hs:Zz3 (.Call (.Attribute (.Name y p1) "pop" p2) [] [] p3) (some (.Name x p4)) pos.line X.env=pure false:=by rfl) (hf:X.fn x=true\/X.env.scope.names.lookup x=some .local:=by first | exact .inl rfl | exact .inr rfl) :
  XS X (.Assign [.Name x p4] (.Call (.Attribute (.Name y p1) "pop" p2) [] [] p3) pos) (HM.ZsZ i j):=by
 intro r o h;unfold HM.ZsZ at h;split at h
 ·rename_i ds hds
  split at h
  ·rename_i d hd'
   cases h;refine PS.imp (ZnZ hN hNi hx (Zwo Zz0 PySem.F.slot_list_pop PySem.F.type_list_pop Zws (Zca hNj hv hd hcd) hbase hline) hs hf) λE σ H ⟨F0,H0,F,at_,k⟩=>?_;obtain⟨l,vs,e1,e2,e3,e4⟩:=at_.chgList (es:=ds.dropLast) hds;obtain⟨v,q1,q2⟩:=e3.get hd';refine⟨.ref l,e1,.inl ⟨rfl,_,SqL.of e2⟩,l,vs,v,rfl,rfl,e2,by rw[<-e3.1]; exact q1,k _ F _ ((e4 _ ?_).set q2)⟩;rw[ZCz,ZCz,<-e3.1];exact e3.take _
  ·cases h
 ·cases h
def spF(K:Zx0)(n:Nat)(M:List PyData->Option PyData):Sp:=λvs H Q _=>∃F ds ys,vs.length=n/\Zq F H/\Tb H/\NoT F/\Zv K F ds vs/\M ds=some (.list ys)/\∀l us F' H',Ext F H F' H'->H' l=some (.lst us)->Zv K F' ys us->F' l=none->H l=none->Q (.ref l) H'
structure Zd8(P:Program)(w:World)(K:Zx0)(mg:Str->Option Value)(base:Heap)(k:Nat)(x:Str)(M:List PyData->Option PyData):Prop where
 ex:∃f fd ps,(∀ds d,M ds=some d->ds.length=ps.length)/\Zds P w K mg base CX0 k f fd ps (spF K ps.length M)/\mg x=some (.ref f)/\Zzp K (.ref f)=true/\Binds K fd ps []
theorem Zd8.mono{P:Program}{w:World}{K:Zx0}{mg:Str->Option Value}{base:Heap}{j k:Nat}{x:Str}{M:List PyData->Option PyData}(C:Zd8 P w K mg base j x M)(h:j<=k):Zd8 P w K mg base k x M:=by obtain⟨f,fd,ps,l,F,r⟩:=C.ex;exact⟨f,fd,ps,l,F.mono h,r⟩
theorem ZsF{k:Nat}{x:Str}{g:HM.AF}{M:List PyData->Option PyData}(C:Zd8 X.prog X.w X.K X.mg X.base k x M)(hr:Zag k X.A)(ha:XA X (e::es) g)(hg:Gl X x:=by rfl)(hdb:(x==("__debug__":Str))=false:=by decide)
  (he:Zyc (e::es) X.env=(false,eval e X.env)::Zyc es X.env:=by rfl) (hpl:(backTo pos (Zyc es X.env)).any (·.1)=false:=by rfl):XF X (.Call (.Name x p) (e::es) [] pos) (HM.ZiJ M g):=by
 intro r d hd;unfold HM.ZiJ at hd;split at hd
 ·rename_i ds hds
  split at hd
  ·rename_i ys hM
   cases hd;obtain⟨fa,fd,ps,hl,F,hm,hk,hb⟩:=C.ex;refine PE.imp (Zjc (E:=E0) F hr hg hm hk hb .nil ZmJ (ha.pa r ds hds) hdb he hpl) λσ H Q ⟨F0,H0,F1,at_,k⟩=>?_;refine⟨F0,H0,F1,at_,λvs F' H' x q=>?_⟩;show spF X.K ps.length M (vs++[]) H' Q E0;rw[ZyJ];refine⟨F',ds,ys,by rw[<-q.1]; exact hl ds _ hM,x.sub,at_.tbx x,at_.ntx x,q,hM,λl us F2 H2 x2 h1 h2 h3 h4=>k _ F2 H2 (x.trans x2) ⟨[l],.ol h1 h2,by simp,λa ha=>?_⟩⟩;obtain rfl:a=l:=by simpa using ha
   exact⟨h3,x.hh.free h4⟩
  ·cases hd
 ·cases hd
theorem ZqH{P:Program}{w:World}{K:Zx0}{mg:Str->Option Value}{base:Heap}{k:Nat}{x qual:Str}{st:Stmt}{f:Addr}{fd:FuncData}{N ps:List Str}{e:Expr}{g:HM.BF}{p1:Pos}(Fn:Fun K x qual st f fd)(S:Zw N ps (Ze st))(hm:mg x=some (.ref f))(hb:Binds K fd ps [])
  (hst:ZaR st=[.Return (some e) p1]) (hol:∀r b,g r=some b->∃ys,b=.ol ys)
  (body:∀(cdv:Value) (A:Around) (outer:List Env) (s:Shared) (H:Hp) (E:XK),Zag k (A.deeper (envOfC qual (Ze st) s.heap.objs.size f cdv))->XF (Zga CX0 P w K mg base N qual (Ze st) f cdv A outer s H E).nox e g) :
  Zd8 P w K mg base (k+1) x (HM.fnOf ps.length N.length (HM.ZC (HM.eOf g))):=by
 have hpl:ps.length<=N.length:=by have:=congrArg ZyN S.pre; rw[ZzB]at this; omega
 refine⟨f,fd,ps,λds d h=>?_,Fn.ok S (λvs H Q E h=>?_) (λcdv A outer s H vs Q E hr h=>?_),hm,Fn.kp,hb⟩
 ·unfold HM.fnOf at h
  split at h
  ·assumption
  ·cases h
 ·obtain⟨_,_,_,h,_⟩:=h
  exact h
 ·obtain⟨F,ds,ys,hl,sub,tb,nt,q,hM,kk⟩:=h
  unfold HM.fnOf at hM;split at hM
  ·rename_i hds
   have a0:=Zgp (N:=N) sub tb nt q (by omega);have hg:g (HM.ZeB N.length ds)=some (.ol ys):=by
    split at hM
    ·rename_i r hr'
     cases hq:HM.eOf g (HM.ZeB N.length ds)with
     | none=>unfold HM.ZC at hr'; rw[hq]at hr'; cases hr'
     | some d=>unfold HM.ZC at hr'; rw[hq]at hr'; cases hr'
    ·rename_i d' hr'
     cases hM;obtain⟨d,h1,h2⟩:=Zx2.mp hr';cases h2;obtain⟨b,h3,h4⟩:=ZA1.mp h1;obtain⟨zs,rfl⟩:=hol _ _ h3;cases h4;exact h3
    ·cases hM
   rw[hst];refine⟨_,Zp8 (ZoL (body cdv A outer s H E hr _ _ hg)),F,H,F,a0,λv F' H' x ⟨fp,r1,nd,hn⟩=>?_⟩;cases r1 with
   | @ol l _ us h1 h2=>exact kk l us F' H' x h1 h2 (hn l (by simp)).1 (hn l (by simp)).2
  ·cases hM
theorem Ztq(i:HM.IF)(c:HM.TF)(e:HM.EF)(r:HM.Env)(b:HM.B)(h:HM.ZM i c e r=some b):∃ys,b=.ol ys:=by
 unfold HM.ZM at h;split at h
 ·split at h
  ·obtain⟨ys,_,h2⟩:=Zx2.mp h
   exact⟨ys,h2.symm⟩
  ·cases h
 ·cases h
end
end HP
namespace HP
open PySem PySem.Spec PyProof.Rows L2
variable[FX]
section
variable{K:Zx0}{F H F0 H0 G:Hp}{a b:Addr}{ob u:HO}{vvs:List (List Key × V)}{d:PyData}{v:V}{ds:List PyData}{vs:List V}{r:HM.Env}{σ:L2.St}{i:Nat}{es:List (PyData × PyData)}
theorem Zbc(h:b≠a):sw a ob G b=G b:=by unfold sw; rw[if_neg h]
theorem ZfA:sw a ob G a=(G a).map λ_=>ob:=by unfold sw; rw[if_pos rfl]
theorem Zqb(s:Zq F H):Zq (sw a ob F) (sw a ob H):=λb o z=>by
 by_cases hb:b=a
 ·subst hb
  rw[ZfA]at z ⊢;obtain⟨x,h1,h2⟩:=Zx2.mp z;rw[s _ _ h1,<-h2]; rfl
 ·rw[Zbc hb]at z ⊢; exact s b o z
theorem Zt4(hG:∀u,G a=some u->u=.dT vvs):sw a (.dT vvs) (sw a ob G)=G:=by
 funext b
 by_cases hb:b=a
 ·subst hb
  rw[ZfA,ZfA];cases h:G b with
  | none=>rfl
  | some u=>rw[hG u h]; rfl
 ·rw[Zbc hb,Zbc hb]
theorem Dk.nt(h:Dk vvs u):(∀xs,u≠.tup xs)/\(∀xs,u≠.lst xs)/\(∀o xs,u≠.frz o (.lst xs))/\(∀ps,u≠.tbl ps)/\(∀x,u≠.own x):=by rcases h with h | ⟨o,h⟩<;>subst h<;>exact⟨λ_ z=>(by cases z),λ_ z=>(by cases z),λ_ _ z=>(by cases z),λ_ z=>(by cases z),λ_ z=>(by cases z)⟩
theorem Rep.sw(hF:∀u,F a=some u->Dk vvs u)(hob:Dk vvs ob)(r:Rep K F d v):Rep K (HP.sw a ob F) d v:=by
 induction r with
 | non=>exact .non
 | bl b=>exact .bl b
 | int i=>exact .int i
 | str x=>exact .str x
 | fn h=>exact .fn (FX.sw hF hob h)
 | tupk h=>exact .tupk h
 | @tup b ds vs h hl _ ih=>exact .tup (by rw[Zbc (λz=>(hF _ (z▸h)).nt.1 _ rfl)]; exact h) hl ih
 | @lst b ds vs h hl _ ih =>
  refine .lst ?_ hl ih;rcases h with h | h
  ·refine .inl ?_
   have hb:b≠a:=λz=>by
    rcases h with h | ⟨o,h⟩
    ·exact(hF _ (z▸h)).nt.2.1 _ rfl
    ·exact(hF _ (z▸h)).nt.2.2.1 _ _ rfl
   unfold Rd;rw[Zbc hb];exact h
  ·exact .inr h
 | @dct b es kvs vvs' h he hk _ ih =>
  refine .dct ?_ he hk ih
  by_cases hb:b=a
  ·subst hb
   have:vvs'=vvs/\∃u,F b=some u:=by
    rcases h with h | ⟨o,h⟩
    ·rcases hF _ h with z | ⟨o',z⟩
     ·cases z; exact⟨rfl,_,h⟩
     ·cases z
    ·rcases hF _ h with z | ⟨o',z⟩
     ·cases z
     ·cases z; exact⟨rfl,_,h⟩
   obtain⟨rfl,u,hu⟩:=this;unfold Rd;rw[ZfA,hu];rcases hob with z | ⟨o,z⟩
   ·subst z; exact .inl rfl
   ·subst z; exact .inr ⟨o,rfl⟩
  ·unfold Rd
   rw[Zbc hb];exact h
theorem Zv.sw(hF:∀u,F a=some u->Dk vvs u)(hob:Dk vvs ob)(r:Zv K F ds vs):Zv K (HP.sw a ob F) ds vs:=⟨r.1,λi d v h1 h2=>(r.2 i d v h1 h2).sw hF hob⟩
theorem Ext.sw(x:Ext F0 H0 F H)(hH:∀u,H a=some u->Dk vvs u)(hob:Dk vvs ob):Ext (HP.sw a ob F0) (HP.sw a ob H0) (HP.sw a ob F) (HP.sw a ob H) :=
 ⟨Zqb x.ff,x.hh.sw,Zqb x.sub,λb o z=>by
  by_cases hb:b=a
  ·subst hb
   rw[ZfA]at z;obtain⟨u,h1,h2⟩:=Zx2.mp z;rcases x.new b u h1 with q | q | ⟨xs,e,q⟩
   ·exact .inl (by rw[ZfA,q,<-h2]; rfl)
   ·exact .inr (.inl (by rw[ZfA,q]; rfl))
   ·exact absurd e ((hH _ (x.sub _ _ h1)).nt.1 xs)
  ·rw[Zbc hb]at z
   rcases x.new b o z with q | q
   ·exact .inl (by rw[Zbc hb]; exact q)
   ·refine .inr ?_
    unfold Fre;rw[Zbc hb];exact q,λt=>(x.tab (t.unsw hob)).sw hH,λt b o z=>by
  unfold HP.sw at z;split at z
  ·obtain⟨u,_,e⟩:=Zx2.mp z
   subst e; exact hob.ntt
  ·rename_i hb
   refine x.nts (λc u y=>?_) b o z
   by_cases hc:c=a
   ·subst hc; exact(hH _ (x.sub _ _ (x.ff _ _ y))).ntt
   ·exact t c u (by rw[Zbc hc]; exact y)⟩
theorem At.sw(e:At K F0 H0 F H r σ)(hFa:F a=some u)(hu:Dk vvs u)(hob:Dk vvs ob)(nh:∀(i:Nat) (es:List (PyData × PyData)),r[i]?≠some (some (HM.B.hd es))):At K (HP.sw a ob F0) (HP.sw a ob H0) (HP.sw a ob F) (HP.sw a ob H) r σ:=by
 obtain⟨fp,e⟩:=e;have hF:∀u,F a=some u->Dk vvs u:=λu' h=>by rw[hFa]at h; cases h; exact hu
 have hH:∀u,H a=some u->Dk vvs u:=λu' h=>by rw[e.sub _ _ hFa]at h; cases h; exact hu
 have own:∀i,∀c∈fp i,c≠a:=λi c hc z=>by rw[<-z,(e.own i c hc).1]at hFa; cases hFa
 refine⟨fp,e.ext.sw hH hob,e.len,λi b h=>?_,e.emp,λi b h=>?_,e.nd,e.dis,e.tb.sw (vvs:=vvs) (λu' z=>by have q:=e.ext.hh.back z (e.sub _ _ hFa) hu.nt.2.2.2.1;rw[q]; exact hu),λb o z=>?_⟩
 rotate_left 2
 ·unfold HP.sw at z
  split at z
  ·obtain⟨u,_,e⟩:=Zx2.mp z
   subst e; exact hob.ntt
  ·exact e.nt b o z
 ·obtain⟨v,h1,h2⟩:=e.at_ i b h
  refine⟨v,h1,?_⟩;have own:=own i;generalize fp i=f at h2 own;cases h2 with
  | pl q=>exact .pl (q.sw hF hob)
  | ol k q=>exact .ol (by rw[Zbc (own _ (by simp))]; exact k) (q.sw hF hob)
  | ok k hk q=>exact .ok (by rw[Zbc (own _ (by simp))]; exact k) hk (q.sw hF hob)
  | ot k hk q=>exact .ot (by rw[Zbc (own _ (by simp))]; exact k) hk (q.sw hF hob)
  | otl k hk hv q=>refine .otl (by rw[Zbc (own _ (by simp))]; exact k) hk hv λi ds l h1 h2=>?_;obtain⟨vs,q1,q2⟩:=q i ds l h1 h2;exact⟨vs,by rw[Zbc (own l (Zx4 _ (Zyu h2)))]; exact q1,q2.sw hF hob⟩
  | hd _ _ _ _=>exact absurd h (nh _ _)
  | hf _=>exact absurd h (nh _ _)
 ·rw[Zbc (own i b h),Zbc (own i b h)]
  exact e.own i b h
theorem set_same{x:Option V}(h:σ[i]?=some x):σ.set i x=σ:=by obtain⟨h1,h2⟩:=Zyd.mp h;rw[<-h2];exact ZAB h1
theorem At.say{b':HM.B}(e:At K F0 H0 F H r σ)(h1:σ[i]?=some (some v))(q:Zab K F H b' v []):At K F0 H0 F H (r.set i (some b')) σ:=by
 have:=e.store (i:=i) q ZzH (λa h=>by simp at h) λ_ _ _ _ _ _ h=>by simp at h
 rwa [set_same h1]at this
theorem At.loosen(e:At K F0 H0 F H r σ)(h:r[i]?=some (some (.hd es))):At K F0 H0 F H (r.set i (some (.pl (.dict es)))) σ:=by
 obtain⟨v,fp,h1,h2⟩:=e.any h;cases h2 with
 | hd k1 k2 k3 k4=>exact e.say h1 (.pl (.dct (.inr ⟨_,k1⟩) k2 k3 k4.2))
 | hf k1=>exact e.say h1 (.pl (.fn k1))
theorem Zt5(h:r.all (λq=>!HM.Zbw q)=true)(i:Nat)(es:List (PyData × PyData)):r[i]?≠some (some (.hd es)):=λz=>by have:=Zx9.mp h _ (Zyu z);cases this
theorem ZrD{b':HM.B}(h:(r.set i none).all (λq=>!HM.Zbw q)=true)(hb:∀es,b'≠.hd es)(j:Nat)(es:List (PyData × PyData)):(r.set i (some b'))[j]?≠some (some (.hd es)):=λz=>by
 by_cases hj:i=j
 ·subst hj
  by_cases hi:i<r.length
  ·rw[ZyR hi]at z
   injection z with z
   injection z with z
   exact hb _ z
  ·rw[ZCt (by rw[Zzd]; omega)]at z
   cases z
 ·rw[Zyz hj]at z
  exact Zt5 h j es (by rw[Zyz hj]; exact z)
end
section
variable{X:Cx}{pins:List (Addr × Obj)}{σ:L2.St}{H:Hp}{s:Shared}{a:Addr}{u ob:HO}{vvs:List (List Key × V)}
theorem ZmN{h:Heap}{o:HO}{b:Addr}(ha:H a=some u)(hu:Dk vvs u)(x:Z8 X.prog X.w H h b o):Z8 X.prog X.w (sw a ob H) h b o :=
 x.stay (λ_ _ _ q=>q) (λc q=>by rw[Zbc (λz=>by rw[z,ha]at q; cases q; exact hu.nt.2.2.2.2 _ rfl)]; exact q) λc xs q=>by rw[Zbc (λz=>by rw[z,ha]at q; cases q; exact hu.nt.1 _ rfl)]; exact q
theorem Zog(I:Inv X pins σ H s)(ha:H a=some u)(hu:Dk vvs u)(ok:Z8 X.prog X.w (sw a ob H) s.heap a ob)(hn:∀o w,X.H₀ a≠some (.frz o w)):Inv X pins σ (HP.sw a ob H) s:=by
 have none':∀b,H b=none->HP.sw a ob H b=none:=λb h=>by rw[Zbc (λz=>by rw[z,ha]at h; cases h)]; exact h
 refine⟨I.ok,I.os,I.bare,⟨I.base.keep,I.base.slot,λb o h1 h2 h3=>none' b (I.base.free b o h1 h2 h3),I.base.there,λb xs h=>?_,λb o w h=>?_,λb ps h=>?_⟩,I.loc,I.cell,none' _ I.free,λx c h=>none' _ (I.freeC x c h),λp hp=>?_,λb o h=>?_,I.len⟩
 ·have q:=I.base.tups b xs h
  rw[Zbc (λz=>by rw[z,ha]at q; cases q; exact hu.nt.1 _ rfl)];exact q
 ·have q:=I.base.frzs b o w h
  rw[Zbc (λz=>hn o w (by rw[<-z]; exact h))];exact q
 ·obtain⟨m,q⟩:=I.base.tbls b ps h
  exact⟨m,by rw[Zbc (λz=>by rw[z,ha]at q; cases q; exact hu.nt.2.2.2.1 _ rfl)]; exact q⟩
 ·have q:=I.pin p hp
  exact⟨q.1,none' _ q.2.1,q.2.2⟩
 ·by_cases hb:b=a
  ·subst hb
   rw[ZfA,ha]at h;cases h;exact ok
  ·rw[Zbc hb]at h
   exact ZmN ha hu (I.hok b o h)
theorem Zg6(i:Nat){st:Stmt}{g:HM.SF}(h:XS X st g):XS X st (HM.ZeA i g):=by
 intro r o ho;unfold HM.ZeA at ho;split at ho
 case h_2=>exact h r o ho
 rename_i es hr;split at ho
 case isFalse=>cases ho
 rename_i hall;have nh:=Zt5 hall;intro pins s σ H E I ⟨F0,H0,F,at_,k⟩;obtain⟨v,h1,h2⟩:=at_.plain hr;cases h2 with
 | @dct a _ kvs vvs hd he hk hrr =>
  have rs:∀{F':Hp},Zq F F'->Zv X.K F' (kvs.map (·.2)) (vvs.map (·.2)):=λs=>by refine Zv.mono ⟨?_,hrr⟩ s;have:=congrArg ZyN hk;rw[Zx1,Zx1]at this ⊢;exact this
  rcases hd with hd | ⟨q,hd⟩
  ·have hHa:=at_.sub _ _ hd
   obtain⟨z,y,xs,rl,q,es1,ep,e1,c1⟩:=(show Z8 X.prog X.w H s.heap a (.dT vvs) from I.hok a _ hHa);have hn:∀o w,X.H₀ a≠some (.frz o w):=λo w z=>by have:=I.base.frzs _ _ _ z;rw[hHa]at this; cases this
   have I1:=Zog (ob:=.frz q (.dT vvs)) I hHa (.inl rfl) ⟨e1,ZmN hHa (.inl rfl) ⟨z,y,xs,rl,q,es1,ep,e1,c1⟩⟩ hn;have at1:=at_.sw (ob:=.frz q (.dT vvs)) hd (.inl rfl) (.inr ⟨q,rfl⟩) nh;have Ra:HP.sw a (.frz q (.dT vvs)) F a=some (.frz q (.dT vvs)):=by rw[ZfA,hd]; rfl
   have hFd:∀u,F a=some u->Dk vvs u:=λu z=>by rw[hd]at z; cases z; exact .inl rfl
   have at2:=(at1.say (i:=i) h1 (.hd Ra he hk (Zv.sw hFd (.inr ⟨q,rfl⟩) (rs (Zq.refl F))))).rebase;have e0:HP.sw a (.dT vvs) (HP.sw a (.frz q (.dT vvs)) F0)=F0:=Zt4 λu z=>by have:=at_.ext.ff _ _ z;rw[hd]at this; cases this; rfl
   have e1:HP.sw a (.dT vvs) (HP.sw a (.frz q (.dT vvs)) H0)=H0:=Zt4 λu z=>by exact at_.ext.hh.back z hHa λ_ w=>by cases w
   split at ho
   ·rename_i r' hg
    split at ho
    case h_2=>cases ho
    rename_i es' hr';split at ho
    case isFalse=>cases ho
    rename_i hall';cases ho;refine thn (h _ _ hg pins s σ _ { nx:=λσ' H'=>∃F',At X.K (HP.sw a (.frz q (.dT vvs)) F) (HP.sw a (.frz q (.dT vvs)) H0) F' H' r' σ',rt:=λ_ _=>False,bk:=λ_ _=>False,ct:=λ_ _=>False } I1 ⟨_,_,_,at2,λσ' F' H' a'=>⟨F',a'⟩⟩) λfl s' z=>?_;cases fl with
    | next=>obtain⟨σ',H',I',F',a'⟩:=z;have Fa:=a'.ext.ff _ _ Ra;have Ha:=a'.sub _ _ Fa;have a3:=((At.unbase at1.ext (at1.nt0) a').loosen hr').sw (ob:=.dT vvs) Fa (.inr ⟨q,rfl⟩) (.inl rfl) (ZrD hall' λ_ z=>by cases z);rw[e0,e1]at a3;exact⟨σ',_,Zog I' Ha (.inr ⟨q,rfl⟩) (ZmN Ha (.inr ⟨q,rfl⟩) (ZkL I'.hok (.inr ⟨q,Ha⟩))) hn,k σ' _ _ a3⟩
    | brk=>obtain⟨_,_,_,z⟩:=z; exact z.elim
    | cont=>obtain⟨_,_,_,z⟩:=z; exact z.elim
    | ret u=>obtain⟨_,_,_,_,_,z⟩:=z; exact z.elim
   ·rename_i d hg
    cases ho;refine thn (h _ _ hg pins s σ _ { nx:=λ_ _=>False,bk:=λ_ _=>False,ct:=λ_ _=>False,rt:=λv' H'=>∃F',Ext (HP.sw a (.frz q (.dT vvs)) F) (HP.sw a (.frz q (.dT vvs)) H0) F' H'/\Rep X.K F' d v' } I1 ⟨_,_,_,at2,λv' F' H' x q=>⟨F',x,q⟩⟩) λfl s' z=>?_;cases fl with
    | ret u=>obtain⟨v',σ',H',I',rv,F',x',r'⟩:=z;have Fa:=x'.ff _ _ Ra;have Ha:=x'.sub _ _ Fa;have x3:=(Ext.unbase at1.ext x').sw (a:=a) (vvs:=vvs) (ob:=.dT vvs) (λu z=>by rw[Ha]at z; cases z; exact .inr ⟨q,rfl⟩) (.inl rfl);rw[e0,e1]at x3;exact⟨v',σ',_,Zog I' Ha (.inr ⟨q,rfl⟩) (ZmN Ha (.inr ⟨q,rfl⟩) (ZkL I'.hok (.inr ⟨q,Ha⟩))) hn,rv,k v' _ _ x3 (r'.sw (λu z=>by rw[Fa]at z; cases z; exact .inr ⟨q,rfl⟩) (.inl rfl))⟩
    | next=>obtain⟨_,_,_,z⟩:=z; exact z.elim
    | brk=>obtain⟨_,_,_,z⟩:=z; exact z.elim
    | cont=>obtain⟨_,_,_,z⟩:=z; exact z.elim
   ·cases ho
  ·have at2:=at_.say (i:=i) h1 (.hd hd he hk (rs (Zq.refl F)))
   split at ho
   ·rename_i r' hg
    split at ho
    case h_2=>cases ho
    rename_i es' hr';split at ho
    case isFalse=>cases ho
    cases ho;exact h _ _ hg pins s σ H E I ⟨F0,H0,F,at2,λσ' F' H' a'=>k σ' F' H' (a'.loosen hr')⟩
   ·rename_i d hg
    cases ho;exact h _ _ hg pins s σ H E I ⟨F0,H0,F,at2,k⟩
   ·cases ho
 | fn hv =>
  have at2:=at_.say (i:=i) h1 (.hf hv);split at ho
  ·rename_i r' hg
   split at ho
   case h_2=>cases ho
   rename_i es' hr';split at ho
   case isFalse=>cases ho
   cases ho;exact h _ _ hg pins s σ H E I ⟨F0,H0,F,at2,λσ' F' H' a'=>k σ' F' H' (a'.loosen hr')⟩
  ·rename_i d hg
   cases ho;exact h _ _ hg pins s σ H E I ⟨F0,H0,F,at2,k⟩
  ·cases ho
def Itd(a:Addr)(o:Obj):It :=
 ⟨λi H=>∃vvs q,H a=some (.frz o (.dT vvs))/\vvs[i]?=some q,λi H x H'=>H'=H/\∀vvs,H a=some (.frz o (.dT vvs))->∃q b,vvs[i]?=some q/\x=.ref b/\H b=some (.tup (q.1.map kV)),λi H=>∃vvs,H a=some (.frz o (.dT vvs))/\vvs.length<=i⟩
theorem Zqz{α β:Type}{R:α->β->Prop}{l:List α}{m:List β}(r:Paired R l m):∀{i:Nat} {x:α},l[i]?=some x->∃y,m[i]?=some y/\R x y:=by
 induction r with
 | nil=>intro i x e; simp at e
 | @cons p q _ _ hq _ ih =>
  intro i x e;cases i with
  | zero=>rw[ZzZ]at e; cases e; exact⟨q,rfl,hq⟩
  | succ i=>rw[ZyD]at e ⊢; exact ih e
theorem Zsk{P:Program}{w:World}{K:Zx0}{tg:Expr}(a it:Addr)(o:Obj)(es:Array DictEntry)(ep:Nat)(hd:o.data=.dict es ep):Turn P w K tg (Itd a o) [it] it (λi h=>h.IsKeyIter it a i es.size ep) where
 mem:=by simp
 obj:=λi h st b hb=>by
  have e:b=it:=by simpa using hb
  subst e;obtain⟨o,e,c,d⟩:=st;exact⟨o,e,λv z=>by rw[d]at z; cases z⟩
 keep:=λi h h' st k=>st.at λo e=>k it (by simp) o e
 item:=by
  intro X hP hw hK hc i pins s σ H E I hf st hg;subst hP hw hK;obtain⟨vvs,q,hH,hq⟩:=hg;obtain⟨h1,z,lo,xs,rel,o2,es2,ep2,h2,h3,h4,h5,h6⟩:=(show Z8 X.prog X.w H s.heap a (.frz o (.dT vvs)) from I.hok a _ hH);rw[h1]at h2;cases h2;rw[hd]at h4;cases h4;obtain⟨f0,f1,f2,f3,f4,f5⟩:=hf it (by simp);obtain⟨p,hp,hr1,hr2,_⟩:=Zqz rel hq;have he:es[i]?=some (entryOfKey (ZBj (ZaG X.prog X.w)) p):=by rw[<-ZyS,h5,Zyr,hp]; rfl
  refine Zoz st ⟨o,h1,h3,hd⟩ he λh' st' sb=>?_;have I1:Inv X pins σ H { s with heap:=h' }:=I.turned (t':=s.toks) (λb o hb e=>(sb.2 b hb).trans e) f0 f1 f3 f4 f5;obtain⟨oi,e,c,d⟩:=id st';refine⟨_,rfl,ZmO (s:={ s with heap:=h' }) e c d (by decide) ⟨.ref p.2.1,H,I1,rfl,⟨rfl,λvv hv=>?_⟩,st',λb hb=>(hf b hb).1⟩⟩;rw[hH]at hv;cases hv;exact⟨q,p.2.1,hq,rfl,hr2⟩
 done:=by
  intro X hP hw hK hc i pins s σ H E I hf st hg;subst hP hw hK;obtain⟨vvs,hH,hq⟩:=hg;obtain⟨h1,z,lo,xs,rel,o2,es2,ep2,h2,h3,h4,h5,h6⟩:=(show Z8 X.prog X.w H s.heap a (.frz o (.dT vvs)) from I.hok a _ hH);rw[h1]at h2;cases h2;rw[hd]at h4;cases h4;obtain⟨f0,f1,f2,f3,f4,f5⟩:=hf it (by simp);have hl:vvs.length=xs.length:=ZAt rel;have hes:es.size=xs.length:=by rw[<-Zyt,h5,Zx1]
  exact ZpZ (I.ok.hd hc) st ⟨o,h1,h3,hd⟩ (by omega) λh' eb=>⟨rfl,I.turned (t':=s.toks) (λb o hb e=>eb b o hb e) f0 f1 f3 f4 f5⟩
 self:=λ_ _ _ _ _ st h=>wpAny_pyIter_keyiter st h
theorem Zu1{tg l:Expr}{tl:TE}(hl:PE X l tl):PI X tg l (λσ H R=>tl σ H λx H1=>∃a o vvs,x=.ref a/\H1 a=some (.frz o (.dT vvs))/\R (Itd a o) H1):=by
 intro pins s σ H R I h;refine thn (hl pins s σ H _ I h) λv s1 ⟨x,H1,I1,r1,a,o,vvs,e,hH,q⟩=>?_;subst e;cases r1;obtain⟨h1,z,lo,xs,rel,o2,es,ep,h2,h3,h4,h5,h6⟩:=(show Z8 X.prog X.w H1 s1.heap a (.frz o (.dT vvs)) from I1.hok a _ hH);rw[h1]at h2;cases h2;refine Zoh lo ⟨o,h1,h3,h4⟩ ⟨s1.heap.objs.size,[s1.heap.objs.size],_,_,H1,rfl,I1.kept (t':=s1.toks) λb o e=>Zx7 _ e,Zsk a _ o es ep h4,⟨_,Zyi _ rfl,rfl,rfl⟩,λb hb=>?_,q⟩;obtain rfl:b=s1.heap.objs.size:=by simpa using hb
 exact I1.fpOk (Zyb _) (I1.hok.fresh (Zyb _))
theorem Zs0{K:Zx0}{F:Hp}{a:Addr}{o:Obj}{kvs:List (List Key × PyData)}{vvs:List (List Key × V)}(h:F a=some (.frz o (.dT vvs)))(hk:kvs.map (·.1)=vvs.map (·.1)):ItD K (Itd a o) (kvs.map λp=>.tuple (p.1.map HM.ZaE)) F:=by
 intro F' H s1 s2;have hH:=s2 _ _ (s1 _ _ h);have hl:kvs.length=vvs.length:=by
  have:=congrArg ZyN hk
  rwa [Zx1,Zx1]at this
 refine⟨λi d hd=>?_,vvs,hH,by rw[Zx1,hl]; exact Zyb _⟩;rw[Zyr]at hd;obtain⟨q,hq,hd⟩:=Zx2.mp hd;subst hd;have hi:i<vvs.length:=by rw[<-hl]; exact(Zyd.mp hq).1
 have hw:vvs[i]?=some vvs[i]:=Zye hi;have hw1:vvs[i].1=q.1:=by
  have:(kvs.map (·.1))[i]?=(vvs.map (·.1))[i]?:=by rw[hk]
  rw[Zyr,Zyr,hq,hw]at this;exact(ZyU this).symm
 refine⟨⟨vvs,_,hH,hw⟩,λx H' hy=>?_⟩;obtain⟨e,y⟩:=hy;refine⟨e,?_⟩;obtain⟨q',b,e1,e2,e3⟩:=y vvs hH;rw[hw]at e1;cases e1;subst e2;rw[hw1]at e3;have rk:=ZgA (K:=K) (F:=ZcH F' H) q.1;exact .tup (Zn8 e3) rk.1 rk.2
theorem Zg7(i:Nat){tg:Expr}{x:Str}{pos:Pos}(hN:X.N[i]?=some x:=by rfl)(hv:Vis X.env.scope x:=by first | exact ZyY rfl | exact ZyC (ZyY rfl) | exact ZyC (ZyC rfl))(hd:(x==("__debug__":Str))=false:=by decide)
  (hcd:(x==("__classdict__":Str))=false:=by decide):XI X tg (.Name x pos) (HM.ZaS i):=by
 intro r ds h;have row:∀{d:PyData},r[i]?=some (some (.pl d))->HM.Zbe (.pl d)=some ds->HM.Zah (HM.bOf (HM.Zc i)) r=some ds:=λ{d} h1 h2=>by
  have e:HM.Zc i r=some d:=by unfold HM.Zc; rw[h1]
  unfold HM.Zah HM.bOf;rw[e];exact h2
 unfold HM.ZaS at h;split at h
 ·rename_i q; exact ZW (Za i hN hv hd hcd) r ds (row q h)
 ·rename_i q; exact ZW (Za i hN hv hd hcd) r ds (row q h)
 ·rename_i es q
  obtain⟨kvs,h1,h2⟩:=Zx2.mp h;subst h2;refine PI.imp (Zu1 (Zca hN hv hd hcd)) λσ H R ⟨F0,H0,F,at_,k⟩=>?_;obtain⟨v,fp,g1,g2⟩:=at_.any q;cases g2 with
  | @hd a o _ kvs' vvs k1 k2 k3 k4=>subst k2;rw[HM.dec_enc]at h1;cases h1;exact⟨.ref a,g1,a,o,vvs,rfl,at_.sub _ _ k1,k _ F H at_.refl (Zs0 k1 k3)⟩
  | hf _=>cases h1
 ·cases h
end
end HP
namespace HP
open PySem PySem.Spec PyProof.Rows L2
variable[FX]
end HP
namespace HP
open PySem PySem.Spec PyProof.Rows L2
variable[FX]
end HP
namespace HP
open PySem
abbrev mdA(I S:Addr)(dv:Value):Args:=⟨[.ref I,.none,.ref S],[(ZAk "default",dv)]⟩
theorem Zi7:(toString "min" ++ toString ".loop":String) = "min.loop":=by decide
theorem Zu2(a dv:Value):argsOk "min" ⟨[a],[(ZAk "default",dv)]⟩:=by unfold argsOk; kernel_rfl
section
variable{prog:Program}{w:World}{A:Around}{R:Result->Shared->Prop}{I:Addr}{fp wr:List Addr}{n:Nat}{P:Nat->Value->Prop}{St:Nat->Heap->Prop}
theorem ZuK(W:Walks prog w A.in1 I fp wr n P St)(bt:Nat->Nat->Bool)(hc:CmpOf prog w A.in1 .Lt P bt){S:Addr}(hf:S ∉ fp)(dv:Value):∀(k j:Nat) (s:Shared) (b:Value) (ep:Nat),n=j+1+k->St (j+1) s.heap->P (argBest bt j) b ->
  s.heap.get? S=some { cls:=.type "list",dict:=none,data:=.seq #[b,b] ep,slots:=#[] } ->
  (∀v h' tk,P (argBest bt (n-1)) v->(∀x o,x ∉ wr->x≠S->s.heap.get? x=some o->h'.get? x=some o)->R (.ok (.ret v)) { s with heap:=h',toks:=tk }) ->
  codeAny (model prog w) A (.builtin "min.loop" (mdA I S dv)) R s:=by
 have hw:S ∉ wr:=λh=>hf (W.sub _ h);intro k
 induction k with
 | zero =>
  intro j s b ep hn st pb gS out;have hn:n=j+1:=by omega
  subst hn;refine Zzk ZBb ?_;rw[Zy5 Zzs _];show wpAny _ A.in1 (seqItems? (.ref S) >>= _) _ _ s;refine ZxZ (wpAny_seqItems gS rfl ?_);show wpAny _ A.in1 (tryCatch (pyNext (.ref I)) _ >>= _) _ _ s;refine ZxZ (ZA0 (W.done s _ _ st λh1 tk keep=>?_));have gS1:=keep S _ hw gS;show wpAny _ A.in1 (updateSeq S (λ_=>#[]) >>= _) _ _ _;exact ZxZ (ZCm gS1 rfl (ZxZ (ZCr (Zx5 (out b _ tk pb λx o hx hS e=>(Zzq _ _ (Zy1 hS)).trans (keep x o hx e))))))
 | succ k ih =>
  intro j s b ep hn st pb gS out;refine Zzk ZBb ?_;rw[Zy5 Zzs _];show wpAny _ A.in1 (seqItems? (.ref S) >>= _) _ _ s;refine ZxZ (wpAny_seqItems gS rfl ?_);show wpAny _ A.in1 (tryCatch (pyNext (.ref I)) _ >>= _) _ _ s;refine ZxZ (ZA0 (W.item (j+1) s _ _ (by omega) st λv h1 tk pv st1 keep=>?_));have gS1:=keep S _ hw gS;show wpAny _ A.in1 (tryCatch (holding [v,v] (richCompare .Lt v b >>= _)) _ >>= _) _ _ _;refine ZxZ (ZA0 (Zzc (ZxZ (hc (j+1) (argBest bt j) v b _ _ _ pv pb (ZxZ (Zzc (ZzX (ZxZ (ZCr (Zx5 ?_))))))))));have best:argBest bt (j+1)=if bt (j+1) (argBest bt j)then j+1 else argBest bt j:=rfl
  cases hb:bt (j+1) (argBest bt j)with
  | true =>
   rw[hb,if_pos rfl]at best;simp only[if_true];refine ZxZ (ZCm gS1 rfl (ZxZ (ZCr ?_)));rw[Zi7];refine Zx5 ⟨ZAb Zzs _,ih (j+1) _ v _ (by omega) (W.frame _ _ _ st1 λx hx o e=>?_) (by rw[best]; exact pv) (Zzb _ gS1 rfl) λv' h2 tk2 p' keep2=>?_⟩
   ·exact(Zzq _ _ (λz:S=x=>hf (by rw[z]; exact hx))).trans e
   ·exact out v' h2 tk2 p' λx o hx hS e=>keep2 x o hx hS ((Zzq _ _ (Zy1 hS)).trans (keep x o hx e))
  | false=>rw[hb,if_neg (by simp)]at best;simp only[ZzR,if_false];refine ZxZ (ZCr ?_);rw[Zi7];exact Zx5 ⟨ZAb Zzs _,ih (j+1) _ b ep (by omega) st1 (by rw[best]; exact pb) gS1 λv' h2 tk2 p' keep2=>out v' h2 tk2 p' λx o hx hS e=>keep2 x o hx hS (keep x o hx e)⟩
theorem Ztv(W:Walks prog w A.in1 I fp wr n P St)(bt:Nat->Nat->Bool)(hc:CmpOf prog w A.in1 .Lt P bt){S:Addr}(hf:S ∉ fp)(dv:Value){s:Shared}{ep:Nat}(st:St 0 s.heap)
  (gS:s.heap.get? S=some { cls:=.type "list",dict:=none,data:=.seq #[] ep,slots:=#[] })
  (o0:n=0->∀h' tk,(∀x o,x ∉ wr->x≠S->s.heap.get? x=some o->h'.get? x=some o)->R (.ok (.ret dv)) { s with heap:=h',toks:=tk })
  (o1:0<n->∀v h' tk,P (argBest bt (n-1)) v->(∀x o,x ∉ wr->x≠S->s.heap.get? x=some o->h'.get? x=some o)->R (.ok (.ret v)) { s with heap:=h',toks:=tk }) :
  codeAny (model prog w) A (.builtin "min.loop" (mdA I S dv)) R s:=by
 have hw:S ∉ wr:=λh=>hf (W.sub _ h);refine Zzk ZBb ?_;rw[Zy5 Zzs _];show wpAny _ A.in1 (seqItems? (.ref S) >>= _) _ _ s;refine ZxZ (wpAny_seqItems gS rfl ?_);show wpAny _ A.in1 (tryCatch (pyNext (.ref I)) _ >>= _) _ _ s
 by_cases h0:n=0
 ·subst h0
  refine ZxZ (ZA0 (W.done s _ _ st λh1 tk keep=>?_));show wpAny _ A.in1 (rule _ >>= _) _ _ _;exact ZxZ (wpAny_rule (Zx5 (o0 rfl h1 tk λx o hx _ e=>keep x o hx e)))
 ·refine ZxZ (ZA0 (W.item 0 s _ _ (by omega) st λv h1 tk pv st1 keep=>?_))
  have gS1:=keep S _ hw gS;show wpAny _ A.in1 (updateSeq S (λ_=>#[v,v]) >>= _) _ _ _;refine ZxZ (ZCm gS1 rfl ?_);rw[Zi7];refine Zx5 ⟨ZAb Zzs _,ZuK W bt hc hf dv (n-1) 0 _ v _ (by omega) (W.frame _ _ _ st1 λx hx o e=>?_) pv (Zzb _ gS1 rfl) λv' h2 tk2 p' keep2=>?_⟩
  ·exact(Zzq _ _ (λz:S=x=>hf (by rw[z]; exact hx))).trans e
  ·exact o1 (by omega) v' h2 tk2 p' λx o hx hS e=>keep2 x o hx hS ((Zzq _ _ (Zy1 hS)).trans (keep x o hx e))
end
end HP
namespace HP
open PySem PySem.Spec PyProof.Rows L2
variable[FX]
theorem Rep.fn_inv{K:Zx0}{F:Hp}{t:Nat}{cs:List PyData}{v:V}(h:Rep K F (HM.fnD t cs) v):∃a,v=.ref a/\FX.fv t cs F a:=by
 cases h with
 | @dct a es kvs vvs h he hk hr =>
  cases kvs with
  | nil=>cases he
  | cons p r =>
   injection he with h1 _
   injection h1 with h2 _
   cases h2
 | fn h=>exact⟨_,rfl,h⟩
theorem ZtA{d:PyData}{t:Nat}{cs:List PyData}(h:HM.Zk9 d=some (t,cs)):d=HM.fnD t cs:=by
 unfold HM.Zk9 at h;split at h
 ·cases h; rfl
 ·cases h
structure GFn(mg:Str->Option Value)(x:Str)(t:Nat):Prop where
 ex:∃f,mg x=some (.ref f)/\∀F,FX.fv t [] F f
section
variable{X:Cx}{pos p:Pos}{e a b:Expr}{es:List Expr}{f:HM.AF}
theorem Zvh{x:Str}{t:Nat}(h:GFn X.mg x t)(hg:Gl X x:=by rfl)(hd:(x==("__debug__":Str))=false:=by decide):XE X (.Name x pos) (HM.eC (HM.fnD t [])):=by obtain⟨f,hm,hv⟩:=h.ex;exact ZfJ (ZpK hg hm (v:=.ref f) rfl hd) λF=>.fn (hv F)
structure Zd5(P:Program)(w:World)(K:Zx0)(mg:Str->Option Value)(base:Heap)(k:Nat)(ap:HM.AP):Prop where
 fn:∀{t:Nat} {cs:List PyData} {F:Hp} {a:Addr},FX.fv t cs F a->∀{A:Around} {outer:List Env} {s:Shared} {H:Hp},ZeO P w K mg base A outer s H->Zq F H->ZCO a s.heap
 run:∀{t:Nat} {cs:List PyData} {F:Hp} {a:Addr},FX.fv t cs F a->∀{A:Around} {outer:List Env} {s:Shared} {H:Hp},ZeO P w K mg base A outer s H->Zq F H ->
  ∀{us:List Value} {vs:List V} {ds:List PyData} {d:PyData} {Q:VK},Zag k A->Tb H->NoT F->Vals vs us->Zv K F ds vs->ap t cs ds=some d->(∀v F' H',Ext F H F' H'->Rep K F' d v->Q v H') ->
   codeAny (model P w) A (.call (.ref a) ⟨us,[]⟩) (CR CX0 outer P w H s Q E0) s
theorem Zd5.mono{P:Program}{w:World}{K:Zx0}{mg:Str->Option Value}{base:Heap}{j k:Nat}{ap:HM.AP}(C:Zd5 P w K mg base j ap)(h:j<=k):Zd5 P w K mg base k ap :=
 ⟨C.fn,by intro t cs F a q A outer s H e z us vs ds d Q hr; exact C.run q e z (hr.mono h)⟩
theorem ZmV{k:Nat}{ap:HM.AP}(C:Zd5 X.prog X.w X.K X.mg X.base k ap)(hr:Zag k X.A)(i:Nat){x:Str}(ha:XA X (e::es) f)(hN:X.N[i]?=some x:=by rfl)
  (hv:Vis X.env.scope x:=by first | exact ZyY rfl | exact ZyC (ZyY rfl) | exact ZyC (ZyC rfl)) (hd:(x==("__debug__":Str))=false:=by decide) (hcd:(x==("__classdict__":Str))=false:=by decide)
  (he:Zyc (e::es) X.env=(false,eval e X.env)::Zyc es X.env:=by rfl) (hpl:(backTo pos (Zyc es X.env)).any (·.1)=false:=by rfl):XE X (.Call (.Name x p) (e::es) [] pos) (HM.Zgg ap i f):=by
 intro r d h;unfold HM.Zgg at h;split at h
 case h_2=>cases h
 rename_i d0 hs;split at h
 case h_2=>cases h
 rename_i t cs hu;split at h
 case h_2=>cases h
 rename_i ds hds;obtain rfl:=ZtA hu;intro pins s σ H Q I ⟨F0,H0,F1,at_,kk⟩;obtain⟨v,h1,h2⟩:=at_.plain hs;obtain⟨q,rfl,fv⟩:=h2.fn_inv;refine Zz5 (thn (Zca hN hv hd hcd pins s σ H (λv' H'=>v'=.ref q/\H'=H) I ⟨_,h1,rfl,rfl⟩) λu s1 ⟨v',H1,I1,r1,e1,e2⟩=>?_);subst e1 e2;obtain rfl:u=ZyZ q:=r1;refine PySem.W.callWith_F (C.fn fv I1.env0 at_.sub) (thn (ha.pa r ds hds pos pins s1 σ H1 (λvs H2=>∃F2,Ext F1 H1 F2 H2/\Zv X.K F2 ds vs) I1 ⟨F0,H0,F1,at_,λvs F2 H2 x2 q2=>⟨F2,x2,q2⟩⟩) λus s2 ⟨vs,H2,I2,r2,F2,x2,q2⟩=>?_) he hpl;have fv2:=FX.mono fv x2.ff;refine⟨C.fn fv2 I2.env0 x2.sub,wpAny_call (Zz4 (C.run fv2 I2.env0 x2.sub hr (at_.tbx x2) (at_.ntx x2) r2 q2 h λv F' H' x3 q3=>kk v F' H' (x2.trans x3) q3) λrs s' hq=>?_)⟩;cases rs with
 | error e=>exact Zy3 hq
 | ok fl =>
  cases fl with
  | ret u=>exact I2.after hq
  | next=>exact Zy3 hq
  | brk=>exact Zy3 hq
  | cont=>exact Zy3 hq
def spN(K:Zx0)(n:Nat)(M:List PyData->Option (List (List Key × PyData))):Sp:=λvs H Q _=>∃F ds kvs,vs.length=n/\Zq F H/\Tb H/\NoT F/\Zv K F ds vs/\M ds=some kvs /\
 ∀l vvs F' H',Ext F H F' H'->H' l=some (.dT vvs)->kvs.map (·.1)=vvs.map (·.1)->Zv K F' (kvs.map (·.2)) (vvs.map (·.2))->F' l=none->H l=none->Q (.ref l) H'
structure Zec(P:Program)(w:World)(K:Zx0)(mg:Str->Option Value)(base:Heap)(k:Nat)(x:Str)(M:List PyData->Option (List (List Key × PyData))):Prop where
 ex:∃f fd ps,(∀ds d,M ds=some d->ds.length=ps.length)/\Zds P w K mg base CX0 k f fd ps (spN K ps.length M)/\mg x=some (.ref f)/\Zzp K (.ref f)=true/\Binds K fd ps []
theorem Zec.mono{P:Program}{w:World}{K:Zx0}{mg:Str->Option Value}{base:Heap}{j k:Nat}{x:Str}{M:List PyData->Option (List (List Key × PyData))}(C:Zec P w K mg base j x M)(h:j<=k):Zec P w K mg base k x M:=by obtain⟨f,fd,ps,l,F,r⟩:=C.ex;exact⟨f,fd,ps,l,F.mono h,r⟩
theorem Zv.flat{K:Zx0}{F F':Hp}{ds:List PyData}{vs:List V}(r:Zv K F ds vs)(h:∀d∈ds,HM.Zjg d=true):Zv K F' ds vs :=
 ⟨r.1,λi d v h1 h2=>(r.2 i d v h1 h2).flat (h d (Zyu h1))⟩
theorem ZsG{k:Nat}{x:Str}{g:HM.AF}{M:List PyData->Option (List (List Key × PyData))}(C:Zec X.prog X.w X.K X.mg X.base k x M)(hr:Zag k X.A)(ha:XAL X (e::es) g)(hg:Gl X x:=by rfl)(hdb:(x==("__debug__":Str))=false:=by decide)
  (he:Zyc (e::es) X.env=(false,eval e X.env)::Zyc es X.env:=by rfl) (hpl:(backTo pos (Zyc es X.env)).any (·.1)=false:=by rfl):XF X (.Call (.Name x p) (e::es) [] pos) (HM.ZiX M g):=by
 intro r d hd;unfold HM.ZiX at hd;split at hd
 case h_2=>cases hd
 rename_i ds hds;split at hd
 case h_2=>cases hd
 rename_i kvs hM;split at hd
 case isFalse=>cases hd
 rename_i hfl;cases hd;obtain⟨fa,fd,ps,hl,F,hm,hk,hb⟩:=C.ex;refine PE.imp (Zjc (E:=E0) F hr hg hm hk hb .nil ZmJ (ha.pa r ds hds) hdb he hpl) λσ H Q ⟨F0,H0,F1,at_,kk⟩=>?_;refine⟨F0,H0,F1,at_,λvs F' H' x q=>?_⟩;show spN X.K ps.length M (vs++[]) H' Q E0;rw[ZyJ];refine⟨Zcy H',ds,kvs,by rw[<-q.1]; exact hl ds _ hM,ZiS,at_.tbx x,.drop,q.drop',hM,λl vvs F2 H2 x2 h1 h2 h3 h4 h5=>?_⟩;refine kk _ F' H2 (x.trans (Ext.forget x.sub (at_.ntx x) x2)) ⟨[l],.ot h1 h2 (h3.flat λd hd=>?_),by simp,λc hc=>?_⟩
 ·obtain⟨q,h6,rfl⟩:=Zyf.mp hd
  exact Zx9.mp hfl q h6
 ·obtain rfl:c=l:=by simpa using hc
  exact⟨x.sub.free h5,x.hh.free h5⟩
def tSn(K:Zx0)(r:HM.Env)(kvs:List (List Key × PyData)):TS:=λE σ H=>Now K r σ H λF0 H0 F=>∀l vvs F' H',Ext F0 H0 F' H'->H' l=some (.dT vvs)->kvs.map (·.1)=vvs.map (·.1)->Zv K F' (kvs.map (·.2)) (vvs.map (·.2))->F' l=none->H0 l=none->E.rt (.ref l) H'
def XSn(X:Cx)(sts:List Stmt)(m:HM.NF):Prop:=∀r kvs,m r=some kvs->PSs X sts (tSn X.K r kvs)
theorem ZnO{st:Stmt}{rest:List Stmt}{g:HM.SF}{m:HM.NF}(h1:XS X st g)(h2:XSn X rest m):XSn X (st::rest) (HM.Zkc g m):=by
 intro r kvs h;unfold HM.Zkc at h;split at h
 ·rename_i r' q
  refine PSs.imp (Zh3 (h1 r _ q) (h2 r' kvs h)) λE σ H ⟨F0,H0,F,at_,k⟩=>?_;exact⟨F0,H0,F,at_,λσ' F' H' at'=>⟨F0,H0,F',at',k⟩⟩
 ·cases h
theorem ZuU(j:Nat){x:Str}{p1:Pos}(hN:X.N[j]?=some x:=by rfl)(hv:Vis X.env.scope x:=by first | exact ZyY rfl | exact ZyC (ZyY rfl) | exact ZyC (ZyC rfl))(hd:(x==("__debug__":Str))=false:=by decide)
  (hcd:(x==("__classdict__":Str))=false:=by decide):XSn X [.Return (some (.Name x p)) p1] (HM.ZoD j):=by
 intro r kvs h;unfold HM.ZoD at h;split at h
 ·rename_i kvs' hs
  cases h;refine PSs.imp (Zh3 (ZoL (Zca hN hv hd hcd)) ZgB) λE σ H ⟨F0,H0,F,⟨fp,at_⟩,k⟩=>?_;obtain⟨v,h1,h2⟩:=at_.at_ j _ hs;generalize hfp:fp j=fj at h2;cases h2 with
  | @ot l _ vvs hl hk q=>have ho:=at_.own j l (by rw[hfp]; simp);exact⟨_,h1,k l vvs F H at_.ext hl hk q ho.1 ho.2⟩
 ·cases h
theorem ZqM{P:Program}{w:World}{K:Zx0}{mg:Str->Option Value}{base:Heap}{k:Nat}{x qual:Str}{st:Stmt}{f:Addr}{fd:FuncData}{N ps:List Str}{m:HM.NF}(Fn:Fun K x qual st f fd)(S:Zw N ps (Ze st))(hm:mg x=some (.ref f))(hb:Binds K fd ps [])
  (body:∀(cdv:Value) (A:Around) (outer:List Env) (s:Shared) (H:Hp) (E:XK),Zag k (A.deeper (envOfC qual (Ze st) s.heap.objs.size f cdv))->XSn (Zga CX0 P w K mg base N qual (Ze st) f cdv A outer s H E).nox (ZaR st) m) :
  Zec P w K mg base (k+1) x (HM.newOf ps.length N.length m):=by
 have hpl:ps.length<=N.length:=by have:=congrArg ZyN S.pre; rw[ZzB]at this; omega
 refine⟨f,fd,ps,λds d h=>?_,Fn.ok S (λvs H Q E h=>?_) (λcdv A outer s H vs Q E hr h=>?_),hm,Fn.kp,hb⟩
 ·unfold HM.newOf at h
  split at h
  ·assumption
  ·cases h
 ·obtain⟨_,_,_,h,_⟩:=h
  exact h
 ·obtain⟨F,ds,kvs,hl,sub,tb,nt,q,hM,kk⟩:=h
  unfold HM.newOf at hM;split at hM
  ·rename_i hds
   exact⟨_,body cdv A outer s H E hr _ _ hM,F,H,F,Zgp (N:=N) sub tb nt q (by omega),λl vvs F' H' x h1 h2 h3 h4 h5=>kk l vvs F' H' x h1 h2 h3 h4 h5⟩
  ·cases hM
theorem ZrV(hc:X.calm=true){pins:List (Addr × Obj)}{s:Shared}{σ:L2.St}{H:Hp}{l:Addr}{ns:List Int}{Q:VK}(I:Inv X pins σ H s)(hq:SqL X.K H l (ns.map V.int))(q:Q (match ns.min? with | some i=>.int i | none=>.non) H) :
  wpAny (model X.prog X.w) X.A (call (.builtin "min") [.ref l] [(ZAk "default",.none)]) (EP X pins σ Q) X.xe s:=by
 obtain⟨its,rv,pl,hz⟩:=I.list hq;have hi:=Zea rv;obtain⟨xs,e⟩:=hi.allInts.items;have hns:ns=xs.toList.map (·.1):=by rw[<-hi.numsOf,<-nums_intItems,<-e]
 have hl:=pl.isList;rw[e]at hl;refine PyProof.Rows.kmk_tree PySem.F.kind_min PySem.F.plain_min PySem.F.entry_min (Zu2 _ _) ?_;refine ZxZ (ZCq (show Builtin.Builtins.bindParams "min" ["key","default"] 0 ⟨[],[(ZAk "default",.none)]⟩=pure [none,some .none] from rfl) ?_);refine ZxZ (Zx5 ?_);refine ZxZ (iter_intList hl λs2 e2 st hfp hlI=>?_);subst e2;refine ZxZ (Zy0 ?_);rw[Zi7];generalize hIT:s.heap.push { cls:=.type "list_iterator",data:=.fields #[.ref l,.int 0 0] }=h1 at st hfp;have z1:h1.objs.size=s.heap.objs.size+1:=by rw[<-hIT]; exact ZAC ..
 have k1:∀b o,s.heap.get? b=some o->h1.get? b=some o:=λb o e=>by rw[<-hIT]; exact Zx7 _ e
 have W:=Walks.list (prog:=X.prog) (w:=X.w) (A:=X.A.in1) (I.ok.hd hc) s.heap.objs.size l hlI (intItems xs);have hSf:h1.objs.size ∉ [s.heap.objs.size,l]:=λz=>ZzM _ (hfp _ z);have old:∀{h':Heap} {oS:Obj},(∀x o,x ∉ [s.heap.objs.size]->x≠h1.objs.size->(h1.push oS).get? x=some o->h'.get? x=some o)->∀b o,s.heap.get? b=some o->h'.get? b=some o:=λhk b o e=>by have hb:=Zyh e;exact hk b o (λz=>by rw[Zym.mp z]at hb; exact ZzM _ hb) (Zyp (by rw[z1]; exact ZAA hb)) (Zx7 _ (k1 b o e))
 refine Zx5 ⟨ZAb Zzs _,Ztv W (λi j=>decide (numAt xs i<numAt xs j)) (CmpOf.ints_lt (numAt xs) λ_ _=>intItems_at) hSf .none (W.frame _ _ _ st λb _ o e=>Zx7 _ e) (Zyi _ rfl) (λh0 h' tk hk=>?_) λh0 v h' tk hP hk=>?_⟩
 ·have e0:ns=[]:=by
   rw[hns];have:xs.size=0:=by simpa [intItems]using h0
   rw[Array.eq_empty_of_size_eq_zero this]; rfl
  subst e0;exact⟨.non,H,I.kept (t':=tk) (old hk),rfl,q⟩
 ·have h0':0<xs.size:=by simpa [intItems]using h0
  have hP':(intItems xs)[argBest (λi j=>decide (numAt xs i<numAt xs j)) (xs.size-1)]?=some v:=by simpa [intItems]using hP
  obtain⟨t,rfl⟩:=intItems_at hP';obtain⟨g1,g2⟩:=argBest_lt (numAt xs) (xs.size-1);have hm:ns.min?=some (numAt xs (argBest (λi j=>decide (numAt xs i<numAt xs j)) (xs.size-1))):=by
   refine ZBl.mpr ⟨?_,λa ha=>?_⟩
   ·rw[hns,numAt_eq]; exact getD_mem (by rw[Zx1,Zyt]; omega)
   ·rw[hns]at ha
    obtain⟨j,hj,rfl⟩:=mem_getD ha;rw[Zx1,Zyt]at hj;rw[<-numAt_eq]; exact g2 j (by omega)
  rw[hm]at q;exact⟨.int _,H,I.kept (t':=tk) (old hk),⟨t,rfl⟩,q⟩
theorem ZpG{f:HM.BF}{kp p2:Pos}{j:Nat}(hm:X.mg "min" = none)(hc:X.calm=true)(ha:XB X a f)(hg:Gl X "min":=by rfl)(hs:Zyc [a] X.env=[(false,eval a X.env)]:=by rfl)
  (he:backTo pos (Zyc [a] X.env)=(false,eval a X.env)::backTo pos (Zyc [] X.env):=by rfl) (hpl:(backTo pos (Zyc [a] X.env)).any (·.1)=false:=by rfl) :
  XE X (.Call (.Name "min" p) [a] [⟨some "default",.Constant .none j p2,kp⟩] pos) (HM.ZfG f):=by
 intro r d h;unfold HM.ZfG at h;split at h
 case h_2=>cases h
 rename_i x hx;split at h
 case h_2=>cases h
 rename_i ds hds;split at h
 case h_2=>cases h
 rename_i ns hns;cases h;intro pins s σ H Q I ⟨F0,H0,F,at_,k⟩;refine Zz5 (Zhk I hg hm Zsd ?_);refine callWith_kw (thn (Zfa ha hx hs pos pins s σ H (λvs H1=>∃v fp F1,vs=[v]/\Ext F H F1 H1/\Zab X.K F1 H1 x v fp) I ⟨F0,H0,F,at_,λv fp F' H' x1 r1=>⟨v,fp,F',rfl,x1,r1⟩⟩) λus s1 ⟨vs,H1,I1,rv,v,fp,F1,e1,x1,r1⟩=>?_) he hpl;subst e1;obtain⟨u,rfl,ru⟩:=vals1 rv;obtain⟨l,ws,rfl,hq,rs⟩:=Zgh x1.sub r1 hds;obtain rfl:u=ZyZ l:=ru;rw[ZcM hns rs]at hq;refine kws_cons (thn (ZrA pins s1 σ H1 (λv' H'=>v'=.non/\H'=H1) I1 ⟨rfl,rfl⟩) λu2 s2 ⟨v',H2,I2,r2,e2,e3⟩=>?_);subst e2 e3;obtain rfl:u2=Zy2:=r2;refine kws_nil ?_;refine ZrV hc I2 hq ?_;refine k _ F1 H2 x1 ?_;cases ns.min? with
 | none=>exact .non
 | some i=>exact .int i
end
end HP
namespace HP
open PySem PySem.Spec PyProof.Rows L2
abbrev FX0:FX where
 tl:=[]
 fv:=λ_ _ _ _=>False
 sw:=λ_ _ h=>h
 drop:=λh=>h
 mono:=λh _=>h
structure Clo(K:Zx0)(F:Hp)(p:Addr)(params:Arguments)(body:Expr)(scope:Scope)(names:List Str)(cs:List PyData):Prop where
 ex:∃(qual:Str) (pm ctv:Value) (c:Addr) (oc:Obj) (clos:List (Str × Addr)),
  F p=some (Zbm p (ZBs "<lambda>" qual params body scope clos pm c ctv))/\F c=some (Zbm c oc)/\Zlx oc qual /\
  (∀x y a,clos.lookup x=some a->clos.lookup y=some a->x=y)/\(∀y∈scope.names,y.2=.free->(clos.lookup y.1).isSome=true) /\
  (∀x a,clos.lookup x=some a->∃o v,F a=some (Zbm a o)/\o.data=.cell v) /\
  names.length=cs.length/\∀(i:Nat) (x:Str) (d:PyData),names[i]?=some x->cs[i]?=some d->∃a o u v,clos.lookup x=some a/\F a=some (Zbm a o)/\o.data=.cell (some u)/\RelV v u/\@Rep FX0 K F d v
section
variable{K:Zx0}{F F':Hp}{p:Addr}{params:Arguments}{body:Expr}{scope:Scope}{names:List Str}{cs:List PyData}
theorem Clo.mono(h:Clo K F p params body scope names cs)(s:Zq F F'):Clo K F' p params body scope names cs:=by
 obtain⟨qual,pm,ctv,c,oc,clos,h1,h2,h3,h4,h5,h6,h7,h8⟩:=h.ex;refine⟨qual,pm,ctv,c,oc,clos,s _ _ h1,s _ _ h2,h3,h4,h5,λx a e=>?_,h7,λi x d e1 e2=>?_⟩
 ·obtain⟨o,u,q1,q2⟩:=h6 x a e
  exact⟨o,u,s _ _ q1,q2⟩
 ·obtain⟨a,o,u,v,q1,q2,q3,q4,q5⟩:=h8 i x d e1 e2
  exact⟨a,o,u,v,q1,s _ _ q2,q3,q4,@Rep.mono FX0 _ _ _ _ _ q5 s⟩
theorem Clo.drop(h:Clo K F p params body scope names cs):Clo K (Zcy F) p params body scope names cs:=by
 obtain⟨qual,pm,ctv,c,oc,clos,h1,h2,h3,h4,h5,h6,h7,h8⟩:=h.ex;refine⟨qual,pm,ctv,c,oc,clos,Zct h1 rfl,Zct h2 rfl,h3,h4,h5,λx a e=>?_,h7,λi x d e1 e2=>?_⟩
 ·obtain⟨o,u,q1,q2⟩:=h6 x a e
  exact⟨o,u,Zct q1 rfl,q2⟩
 ·obtain⟨a,o,u,v,q1,q2,q3,q4,q5⟩:=h8 i x d e1 e2
  exact⟨a,o,u,v,q1,Zct q2 rfl,q3,q4,@Rep.drop FX0 _ _ _ _ q5⟩
theorem Clo.sw{a:Addr}{ob:HO}{vvs:List (List Key × V)}(hF:∀u,F a=some u->Dk vvs u)(hob:Dk vvs ob)(h:Clo K F p params body scope names cs):Clo K (HP.sw a ob F) p params body scope names cs:=by
 have key:∀{b:Addr} {o:Obj},F b=some (Zbm b o)->HP.sw a ob F b=some (Zbm b o):=λ{b o} e=>by
  have hb:b≠a:=λz=>by subst z;have:=@Dk.te FX0 _ _ (hF _ e);cases this
  unfold HP.sw; rw[if_neg hb]; exact e
 obtain⟨qual,pm,ctv,c,oc,clos,h1,h2,h3,h4,h5,h6,h7,h8⟩:=h.ex;refine⟨qual,pm,ctv,c,oc,clos,key h1,key h2,h3,h4,h5,λx a e=>?_,h7,λi x d e1 e2=>?_⟩
 ·obtain⟨o,u,q1,q2⟩:=h6 x a e
  exact⟨o,u,key q1,q2⟩
 ·obtain⟨a,o,u,v,q1,q2,q3,q4,q5⟩:=h8 i x d e1 e2
  exact⟨a,o,u,v,q1,key q2,q3,q4,@Rep.sw FX0 _ _ _ _ _ _ _ hF hob q5⟩
end
theorem Rep.up[FX]{K:Zx0}{F:Hp}{d:PyData}{v:V}(r:@Rep FX0 K F d v):Rep K F d v:=by
 induction r with
 | non=>exact .non
 | bl b=>exact .bl b
 | int i=>exact .int i
 | str x=>exact .str x
 | tup h hl _ ih=>exact .tup h hl ih
 | tupk h=>exact .tupk h
 | lst h hl _ ih=>exact .lst h hl ih
 | dct h he hk _ ih=>exact .dct h he hk ih
 | fn h=>exact h.elim
theorem Rep.cutF[FX]{K:Zx0}{F F':Hp}(hF:∀b o,F b=some o->te o=false->F' b=some o){d:PyData}{v:V}(r:Rep K F d v):∀n,HM.noF n d=true->@Rep FX0 K F' d v:=by
 induction r with
 | non=>intro _ _; exact @Rep.non FX0 _ _
 | bl b=>intro _ _; exact @Rep.bl FX0 _ _ b
 | int i=>intro _ _; exact @Rep.int FX0 _ _ i
 | str x=>intro _ _; exact @Rep.str FX0 _ _ x
 | tupk h=>intro _ _; exact @Rep.tupk FX0 _ _ _ _ h
 | tup h hl _ ih =>
  intro n hn;cases n with
  | zero=>cases hn
  | succ n=>exact @Rep.tup FX0 _ _ _ _ _ (hF _ _ h rfl) hl λi d v h1 h2=>ih i d v h1 h2 n (Zx9.mp hn d (Zyu h1))
 | lst h hl _ ih =>
  intro n hn;cases n with
  | zero=>cases hn
  | succ n =>
   refine @Rep.lst FX0 _ _ _ _ _ ?_ hl λi d v h1 h2=>ih i d v h1 h2 n (Zx9.mp hn d (Zyu h1));rcases h with(h | ⟨o,h⟩) | h
   ·exact .inl (.inl (hF _ _ h rfl))
   ·exact .inl (.inr ⟨o,hF _ _ h rfl⟩)
   ·exact .inr h
 | @dct a es kvs vvs h he hk _ ih =>
  intro n hn;cases n with
  | zero=>cases hn
  | succ n =>
   refine @Rep.dct FX0 _ _ _ _ kvs vvs ?_ he hk λi d v h1 h2=>ih i d v h1 h2 n ?_
   ·rcases h with h | ⟨o,h⟩
    ·exact .inl (hF _ _ h rfl)
    ·exact .inr ⟨o,hF _ _ h rfl⟩
   ·subst he
    rw[Zyr]at h1;obtain⟨q,h3,h4⟩:=Zx2.mp h1;subst h4;have hm:(ZyT (q.1.map HM.ZaE),q.2)∈HM.Zg kvs:=Zyf.mpr ⟨q,Zyu h3,rfl⟩;have:=Zx9.mp hn _ hm;rw[Zyk]at this;exact this.2
 | fn h =>
  intro n hn;cases n with
  | zero=>cases hn
  | succ n=>have:=Zx9.mp hn _ (Zx3 ..);cases this
end HP
namespace HP
open PySem PySem.Spec PyProof.Rows L2
theorem Rep0.cut{K:Zx0}{F F':Hp}(hF:∀b o,F b=some o->te o=false->F' b=some o){d:PyData}{v:V}(r:@Rep FX0 K F d v):@Rep FX0 K F' d v:=by
 induction r with
 | non=>exact @Rep.non FX0 _ _
 | bl b=>exact @Rep.bl FX0 _ _ b
 | int i=>exact @Rep.int FX0 _ _ i
 | str x=>exact @Rep.str FX0 _ _ x
 | tupk h=>exact @Rep.tupk FX0 _ _ _ _ h
 | tup h hl _ ih=>exact @Rep.tup FX0 _ _ _ _ _ (hF _ _ h rfl) hl ih
 | lst h hl _ ih =>
  refine @Rep.lst FX0 _ _ _ _ _ ?_ hl ih;rcases h with(h | ⟨o,h⟩) | h
  ·exact .inl (.inl (hF _ _ h rfl))
  ·exact .inl (.inr ⟨o,hF _ _ h rfl⟩)
  ·exact .inr h
 | @dct a es kvs vvs h he hk _ ih =>
  refine @Rep.dct FX0 _ _ _ _ kvs vvs ?_ he hk ih;rcases h with h | ⟨o,h⟩
  ·exact .inl (hF _ _ h rfl)
  ·exact .inr ⟨o,hF _ _ h rfl⟩
 | fn h=>exact h.elim
def Zbb(C:List Addr)(H:Hp):Hp:=λb=>if b∈C then none else H b
theorem Zhm{C:List Addr}{H:Hp}{b:Addr}(h:b∈C):Zbb C H b=none:=by unfold Zbb; rw[if_pos h]
theorem Zap{C:List Addr}{H:Hp}{b:Addr}(h:b ∉ C):Zbb C H b=H b:=by unfold Zbb; rw[if_neg h]
theorem ZhH{C:List Addr}{H:Hp}{b:Addr}{o:HO}(h:Zbb C H b=some o):b ∉ C/\H b=some o:=by
 unfold Zbb at h;split at h
 ·cases h
 ·exact⟨by assumption,h⟩
def Zg3(C:List Addr)(G H:Hp):Hp:=λb=>if b∈C then G b else H b
theorem ZeV{C:List Addr}{G H:Hp}{b:Addr}(h:b∈C):Zg3 C G H b=G b:=by unfold Zg3; rw[if_pos h]
theorem Zbp{C:List Addr}{G H:Hp}{b:Addr}(h:b ∉ C):Zg3 C G H b=H b:=by unfold Zg3; rw[if_neg h]
section
variable{P:Program}{w:World}{C:List Addr}{G H H':Hp}{h h':Heap}
theorem Zcq{a:Addr}{o:Obj}(x:Z8 P w H h a (Zbm a o)):h.get? a=some o:=x.1
theorem Zi9{a:Addr}{o:Obj}(e:h.get? a=some o):Z8 P w H h a (Zbm a o):=⟨e,⟨o,e⟩,λh1 h2 q k=>k o q⟩
theorem HOk.cut(x:HOk P w H h)(hC:∀c∈C,∀o,H c=some o->te o=true):HOk P w (Zbb C H) h:=λa o e=>by
 obtain⟨_,e⟩:=ZhH e;have out:∀{b:Addr} {u:HO},H b=some u->te u=false->Zbb C H b=some u:=λ{b u} q t=>by rw[Zap λz=>by rw[hC b z u q]at t; cases t]; exact q
 exact(x a o e).stay (λ_ _ _ q=>q) (λb q=>out q rfl) λb xs q=>out q rfl
theorem HOk.put(x:HOk P w H h)(hn:∀c∈C,H c=none)(hC:∀c∈C,∀u,G c=some u->∃o,u=Zbm c o/\h.get? c=some o):HOk P w (Zg3 C G H) h:=λa o e=>by
 have out:∀{b:Addr} {u:HO},H b=some u->Zg3 C G H b=some u:=λ{b u} q=>by rw[Zbp λz=>by rw[hn b z]at q; cases q]; exact q
 by_cases ha:a∈C
 ·rw[ZeV ha]at e
  obtain⟨ob,rfl,hb⟩:=hC a ha o e;exact Zi9 hb
 ·rw[Zbp ha]at e
  exact(x a o e).stay (λ_ _ _ q=>q) (λb q=>out q) λb xs q=>out q
end
structure Zj3(scope:Scope)(x:Str)(names:List Str):Prop where
 kind:scope.kind=.function
 co:scope.isCoroutine=false
 gen:scope.isGenerator=false
 nocell:∀y∈scope.names,y.2≠.cell
 par:scope.names.lookup x=some .local
 free:∀n∈names,scope.names.lookup n=some .free
 nd:(x::names).Nodup
def ZmH(P:Program)(w:World)(K:Zx0)(mg:Str->Option Value)(base:Heap)(N:List Str)(qual:Str)(scope:Scope)(f:Addr)(cd:Value)(clos:List (Str × Addr))(A:Around)(outer:List Env)(s:Shared)(H:Hp):Cx where
 prog:=P
 w:=w
 K:=K
 mg:=mg
 base:=base
 A:=A.deeper (ZAS qual scope s.heap.objs.size f cd clos)
 N:=N
 s₀:=s
 H₀:=H
 env:=ZAS qual scope s.heap.objs.size f cd clos
 outer:=outer
 stack:=ZAS qual scope s.heap.objs.size f cd clos::outer
 ex:=[]
 calm:=true
 fn:=λ_=>false
 pn:=[]
 xe:=λ_ _=>False
section
variable{P:Program}{w:World}{K:Zx0}{mg:Str->Option Value}{base:Heap}{A:Around}{outer:List Env}{s:Shared}{H:Hp}{k:Nat}
theorem ZrC{qual x:Str}{scope:Scope}{names:List Str}{f:Addr}{cd:Value}{clos:List (Str × Addr)}(S:Zj3 scope x names)(hd:A.handled=none)(e0:ZeO P w K mg base A outer s H)
  (inj:∀y z a,clos.lookup y=some a->clos.lookup z=some a->y=z) (has:∀y∈scope.names,y.2=.free->(clos.lookup y.1).isSome=true)
  (hcell:∀y a,clos.lookup y=some a->H a=none/\∃o v,s.heap.get? a=some o/\o.data=.cell v)
  {v:V} {u:Value} (rv:RelV v u) {vs:List V} (hlen:names.length=vs.length) (hcap:∀(i:Nat) (y:Str) (v':V),names[i]?=some y->vs[i]?=some v'->∃a o u',clos.lookup y=some a/\s.heap.get? a=some o/\o.data=.cell (some u')/\RelV v' u')
  {h':Heap} {tk:Nat} (hns:h'.Ns s.heap.objs.size λy=>[(x,u)].reverse.lookup y) (hsb:ZzT s.heap.objs.size (s.heap.push { cls:=.type "frame",data:=.dict #[] }) h') :
  Inv (ZmH P w K mg base (x::names) qual scope f cd clos A outer s H) [] (some v::vs.map some) H { s with heap:=h',toks:=tk }:=by
 have hk:∀b o,s.heap.get? b=some o->h'.get? b=some o:=λb o e=>hsb.extBut b o (Zyp (Zyh e)) (Zx7 _ e);have noA:∀b:Addr,b ∉ (ZmH P w K mg base (x::names) qual scope f cd clos A outer s H).ex:=λb z=>absurd (show b∈([]:List Addr) from z) (by simp);refine⟨⟨e0.mod,S.kind,rfl,rfl,Zyb _,inj,λy hy=>?_,λy c z=>absurd (show false=true from z) (by simp),λ_=>hd,ZCC e0.frames,.inr ⟨rfl,rfl⟩,λb z=>absurd z (noA b),e0.bs,e0.bsz,λb _ _=>noA b,λb z=>absurd z (noA b),e0.funs,e0.frf⟩,
  rfl,e0.bare,Un.kept hk,⟨_,hns,λi y v' h1 h2 h3=>?_⟩,λy c e=>?_,e0.hok.fresh (Zyb _),λy c e=>(hcell y c e).1,λp hp=>absurd (show p∈([]:List (Addr × Obj)) from hp) (by simp),e0.hok.kept hk,?_⟩
 ·have hy:scope.names.lookup y=some .cell\/scope.names.lookup y=some .free:=hy
  rcases hy with hy | hy
  ·exact absurd rfl (S.nocell _ (Zzw hy))
  ·exact ZyL.mp (has _ (Zzw hy) rfl)
 ·cases i with
  | zero=>have e1:x=y:=ZyU h1;have e2:v=v':=ZyU (ZyU h2);subst e1 e2;exact⟨u,rv,.inl ⟨S.par,by simp⟩⟩
  | succ i=>have h1:names[i]?=some y:=h1;have h2:(vs.map some)[i]?=some (some v'):=h2;rw[Zyr]at h2;obtain⟨v2,h4,h5⟩:=Zx2.mp h2;cases h5;obtain⟨a,o,u',q1,q2,q3,q4⟩:=hcap i y v' h1 h4;exact⟨u',q4,.inr ⟨.inr (S.free y (Zyu h1)),a,q1,o,hk _ _ q2,q3⟩⟩
 ·obtain⟨_,o,v',q1,q2⟩:=hcell y c e
  exact⟨v',o,hk _ _ q1,q2⟩
 ·show(some v::vs.map some).length=(x::names).length
  rw[Zyg,Zyg,Zx1,hlen]
end
end HP
namespace HP
open PySem PySem.Spec PyProof.Rows L2
variable[FX]
def cellsOf(clos:List (Str × Addr)):List Addr:=clos.filterMap λq=>clos.lookup q.1
theorem ZlV{clos:List (Str × Addr)}{a:Addr}:a∈cellsOf clos↔∃y,clos.lookup y=some a:=by unfold cellsOf;rw[Zzl];exact⟨λ⟨q,_,h⟩=>⟨q.1,h⟩,λ⟨y,h⟩=>⟨(y,a),Zzw h,h⟩⟩
theorem Tb.cut{P:Program}{w:World}{C:List Addr}{H:Hp}{h:Heap}(t:Tb H)(x:HOk P w H h)(hC:∀c∈C,∃o v,H c=some (Zbm c o)/\o.data=.cell v):Tb (Zbb C H):=λT q hT=>by
 obtain⟨ps,h1,h2,h3⟩:=t T q hT;refine⟨ps,?_,h2,λpos c hc=>?_⟩
 ·rw[Zap λz=>by
   obtain⟨o,v,e,_⟩:=hC T z;rw[h1]at e; cases e]
  exact h1
 ·obtain⟨a,o,e1,e2,e3⟩:=h3 pos c hc
  refine⟨a,o,e1,?_,e3⟩;rw[Zap λz=>by obtain⟨o',v,f1,f2⟩:=hC a z;have g1:=Zcq (x a _ e2);have g2:=Zcq (x a _ f1);rw[g1]at g2;cases g2;obtain⟨vs,tt,d1,_⟩:=e3;rw[d1]at f2; cases f2];exact e2
section
variable{P:Program}{w:World}{K:Zx0}{mg:Str->Option Value}{base:Heap}{k:Nat}
theorem ZuR{params:Arguments}{body:Expr}{scope:Scope}{x:Str}{names:List Str}{g:HM.EF}(S:Zj3 scope x names)
  (hbind:∀(qual:Str) (clos:List (Str × Addr)) (pm cd ctv u:Value),bindArgs (PySem.W.kla_fn "<lambda>" qual params body scope clos pm cd ctv) ⟨[u],[]⟩=pure [(x,u)])
  (hbody:∀(qual:Str) (f:Addr) (cd:Value) (clos:List (Str × Addr)) (A:Around) (outer:List Env) (s:Shared) (H:Hp),Zag k (A.deeper (ZAS qual scope s.heap.objs.size f cd clos))->XE (ZmH P w K mg base (x::names) qual scope f cd clos A outer s H) body g)
  {A:Around} {outer:List Env} {s:Shared} {F H:Hp} {p:Addr} {cs:List PyData} (C:Clo K F p params body scope names cs) (e0:ZeO P w K mg base A outer s H) (sub:Zq F H) (hr:Zag (k+1) A) (tb:Tb H) (nt:NoT F)
  {us:List Value} {vs:List V} {ds:List PyData} {d:PyData} {Q:VK} (rv:Vals vs us) (rs:Zv K F ds vs) (hap:HM.ZkA 1 names.length g cs ds=some d) (kk:∀v F' H',Ext F H F' H'->Rep K F' d v->Q v H') :
  codeAny (model P w) A (.call (.ref p) ⟨us,[]⟩) (CR CX0 outer P w H s Q E0) s:=by
 unfold HM.ZkA at hap;split at hap
 case isFalse=>cases hap
 rename_i hc;obtain⟨hl1,hl2,hnf⟩:=hc;obtain⟨d0,rfl⟩:=List.length_eq_one_iff.mp hl1;obtain⟨v0,vs',rfl,r0,rs'⟩:=rs.cons_inv;obtain rfl:=rs'.nil_inv;obtain⟨u0,rfl,ru0⟩:=vals1 rv;have hnf0:HM.noF 20 d0=true:=by rw[Zzi,Zyk]at hnf; exact hnf.1
 obtain⟨qual,pm,ctv,c,oc,clos,h1,h2,h3,h4,h5,h6,h7,h8⟩:=C.ex;generalize hCs:cellsOf clos=Cs;have hCm:∀a,a∈Cs↔∃y,clos.lookup y=some a:=λa=>by rw[<-hCs]; exact ZlV
 have hCo:∀a∈Cs,∃o v,F a=some (Zbm a o)/\o.data=.cell v/\s.heap.get? a=some o:=λa ha=>by obtain⟨y,e⟩:=(hCm a).mp ha;obtain⟨o,v,q1,q2⟩:=h6 y a e;exact⟨o,v,q1,q2,Zcq (e0.hok a _ (sub _ _ q1))⟩
 have hCt:∀a∈Cs,∀o,H a=some o->te o=true:=λa ha o e=>by obtain⟨ob,v,q1,_,_⟩:=hCo a ha;rw[sub _ _ q1]at e; cases e; rfl
 have hCn:∀a∈Cs,H a≠none:=λa ha z=>by obtain⟨ob,v,q1,_,_⟩:=hCo a ha;rw[sub _ _ q1]at z; cases z
 have none1:∀b,H b=none->Zbb Cs H b=none:=λb e=>by
  by_cases hb:b∈Cs
  ·exact Zhm hb
  ·rw[Zap hb]; exact e
 have e1:ZeO P w K mg base A outer s (Zbb Cs H):=⟨e0.frames,e0.mod,λb o e=>⟨(e0.bs b o e).1,none1 b (e0.bs b o e).2⟩,e0.bsz,e0.funs,λb hb=>none1 b (e0.frf b hb),HOk.cut e0.hok hCt,e0.bare⟩;have KX:K.In s.heap:=e0.mod.kin.keeps λb o e=>(e0.bs b o e).1;have lim:s.heap.NoLimit:=e0.mod.nolimit.keeps λb o e=>(e0.bs b o e).1;have hcd:s.heap.CodeRec (.ref c) qual:=by obtain⟨vs,t,d1,d2⟩:=h3;exact⟨c,oc,vs,t,rfl,Zcq (e0.hok c _ (sub _ _ h2)),d1,d2⟩
 refine PySem.W.kla_callFunE hr.depth (Zcq (e0.hok p _ (sub _ _ h1))) rfl S.co S.gen rfl hcd ?_;rw[hbind];refine Zx5 (ZBr S.nocell (λy hy=>by rw[Zym.mp hy]; exact S.par) (λh' hns hsb=>⟨lim.fresh _ hsb,?_⟩) S.kind);show codeAny _ _ (.expr body (ZAS qual scope s.heap.objs.size p (.ref c) clos)) _ _;have hvs:∃wv:List V,names.length=wv.length/\(∀(i:Nat) (y:Str) (v':V),names[i]?=some y->wv[i]?=some v'->∃a o u',clos.lookup y=some a/\s.heap.get? a=some o/\o.data=.cell (some u')/\RelV v' u')/\Zv K (Zbb Cs F) cs wv:=by
  have step:∀n,n<=cs.length->∃wv:List V,wv.length=n/\∀(i:Nat) (y:Str) (d:PyData) (v':V),names[i]?=some y->cs[i]?=some d->wv[i]?=some v'->(∃a o u',clos.lookup y=some a/\s.heap.get? a=some o/\o.data=.cell (some u')/\RelV v' u')/\Rep K (Zbb Cs F) d v':=by
   intro n
   induction n with
   | zero=>exact λ_=>⟨[],rfl,λi y d v' _ _ h=>by simp at h⟩
   | succ n ih =>
    intro hn;obtain⟨wv,l1,l2⟩:=ih (by omega);have hy:n<names.length:=by omega
    have hd:n<cs.length:=by omega
    obtain⟨a,o,u',v',q1,q2,q3,q4,q5⟩:=h8 n names[n] cs[n] (Zye hy) (Zye hd);refine⟨wv++[v'],by rw[Zyl,l1]; rfl,λi y d v2 g1 g2 g3=>?_⟩
    by_cases hi:i<n
    ·rw[ZyB (by omega)]at g3
     exact l2 i y d v2 g1 g2 g3
    ·have hin:i=n:=by
      have:=(Zyd.mp g3).1;rw[Zyl,l1]at this;have:i<n+1:=this;omega
     subst hin;rw[ZyM (by omega),l1,Nat.sub_self]at g3;rw[Zye hy]at g1;rw[Zye hd]at g2;cases g1; cases g2; cases g3;refine⟨⟨a,o,u',q1,Zcq (e0.hok a _ (sub _ _ q2)),q3,q4⟩,?_⟩;refine(Rep0.cut (λb ob z t=>?_) q5).up;rw[Zap λhb=>by obtain⟨ob',v,w1,_,_⟩:=hCo b hb;rw[w1]at z; cases z; cases t];exact z
  obtain⟨wv,l1,l2⟩:=step cs.length (Zyb _);refine⟨wv,by omega,λi y v' g1 g3=>?_,by omega,λi d v' g2 g3=>?_⟩
  ·have hi:=(Zyd.mp g3).1
   exact(l2 i y cs[i] v' g1 (Zye (by omega)) g3).1
  ·have hi:=(Zyd.mp g3).1
   exact(l2 i names[i] d v' (Zye (by omega)) g2 g3).2
 obtain⟨wv,wl,wc,wr⟩:=hvs;have cutF:∀b o,F b=some o->te o=false->Zbb Cs F b=some o:=λb ob z t=>by rw[Zap λhb=>by obtain⟨ob',v,w1,_,_⟩:=hCo b hb;rw[w1]at z; cases z; cases t];exact z
 have r0':Rep K (Zbb Cs F) d0 v0:=(Rep.cutF cutF r0 20 hnf0).up;have sub1:Zq (Zbb Cs F) (Zbb Cs H):=λb o e=>by obtain⟨hb,e⟩:=ZhH e;rw[Zap hb]; exact sub _ _ e
 have nt1:NoT (Zbb Cs F):=λb o e=>nt b o (ZhH e).2;have tb1:Tb (Zbb Cs H):=tb.cut e0.hok λa ha=>by obtain⟨o,v,q1,q2,_⟩:=hCo a ha;exact⟨o,v,sub _ _ q1,q2⟩
 have I:=ZrC (qual:=qual) (f:=p) (cd:=.ref c) (tk:=s.toks+1) S hr.hd e1 h4 h5 (λy a e=>by obtain⟨o,v,q1,q2,q3⟩:=hCo a ((hCm a).mpr ⟨y,e⟩);exact⟨Zhm ((hCm a).mpr ⟨y,e⟩),o,v,q3,q2⟩) ru0 wl wc hns hsb;have a0:At K (Zbb Cs F) (Zbb Cs H) (Zbb Cs F) (Zbb Cs H) ((d0::cs).map λd=>some (HM.B.pl d)) (some v0::wv.map some):=by
  have:=Zgp (N:=x::names) sub1 tb1 nt1 (Zv.cons r0' wr) (by rw[Zyg,Zyg]; omega);have e3:HM.ZeB (x::names).length (d0::cs)=(d0::cs).map λd=>some (HM.B.pl d):=by unfold HM.ZeB;rw[Zyg,Zyg,show names.length+1-(cs.length+1)=0 by omega];exact ZyJ _
  have e4:L2.start (x::names) (v0::wv)=some v0::wv.map some:=by unfold L2.start;rw[Zyg,Zyg,show names.length+1-(wv.length+1)=0 by omega];exact ZyJ _
  rw[e3,e4]at this;exact this
 refine PySem.W.kla_codeExpr (Zzg (hbody qual p (.ref c) clos A outer s (Zbb Cs H) (hr.deeper _) _ _ hap [] _ _ _ (λv' H'=>∃F',Ext (Zbb Cs F) (Zbb Cs H) F' H'/\Rep K F' d v') I ⟨_,_,_,a0,λv' F' H' x' q'=>⟨F',x',q'⟩⟩) (λu' s' hq=>?_) λe s' hq=>Zy3 hq);obtain⟨v',H',I',ru',F',x',q'⟩:=hq;have un:Un (frs outer) [] (Zbb Cs H) H' s.heap s'.heap:=I'.base;have nfs:∀a∈Cs,a ∉ frs outer:=λa ha hb=>hCn a ha (e0.frf a hb);have kc:∀a∈Cs,∃o,H a=some (Zbm a o)/\F a=some (Zbm a o)/\s'.heap.get? a=some o/\H' a=none:=λa ha=>by obtain⟨o,v,q1,q2,q3⟩:=hCo a ha;exact⟨o,sub _ _ q1,q1,un.keep a o q3 (Zhm ha) (nfs a ha) (by simp),un.free a o q3 (Zhm ha) (by simp)⟩
 have out:∀{b:Addr} {o:HO},H b=some o->te o=false->b ∉ Cs:=λ{b o} e t hb=>by rw[hCt b hb o e]at t; cases t
 have outN:∀{b:Addr},H b=none->b ∉ Cs:=λ{b} e hb=>hCn b hb e;have outT:∀{b:Addr} {ps:Array Value},H b=some (.tbl ps)->b ∉ Cs:=λ{b ps} e hb=>by obtain⟨o,q,_⟩:=kc b hb;rw[e]at q; cases q
 refine⟨v',Zg3 Cs H H',I'.os,I'.bare,⟨λb o e n hb hx=>?_,λb o e n hb hx=>?_,λb o e n hx=>?_,un.there,λb xs e=>?_,λb o u e=>?_,λb ps e=>?_⟩,HOk.put I'.hok (λa ha=>by obtain⟨_,_,_,_,q⟩:=kc a ha; exact q) (λa ha u e=>?_),ru',kk v' (Zg3 Cs F F') (Zg3 Cs H H') ⟨λb o e=>?_,λb o e=>?_,λb o e=>?_,λb o e=>?_,λt=>?_,λn b o e=>?_⟩ (q'.mono λb o e=>?_)⟩
 ·exact un.keep b o e (none1 b n) hb hx
 ·exact un.slot b o e (none1 b n) hb hx
 ·rw[Zbp (outN n)]; exact un.free b o e (none1 b n) hx
 ·have hb:=out e rfl
  rw[Zbp hb]; exact un.tups b xs (by rw[Zap hb]; exact e)
 ·have hb:=out e rfl
  rw[Zbp hb]; exact un.frzs b o u (by rw[Zap hb]; exact e)
 ·have hb:=outT e
  rw[Zbp hb]; exact un.tbls b ps (by rw[Zap hb]; exact e)
 ·obtain⟨o,q1,_,q3,_⟩:=kc a ha
  rw[q1]at e; cases e;exact⟨o,rfl,q3⟩
 ·by_cases hb:b∈Cs
  ·rw[ZeV hb]; exact e
  ·rw[Zbp hb]; exact x'.ff b o (by rw[Zap hb]; exact e)
 ·by_cases hb:b∈Cs
  ·exact .of (by rw[ZeV hb]; exact e)
  ·exact(x'.hh b o (by rw[Zap hb]; exact e)).cong (Zbp hb)
 ·by_cases hb:b∈Cs
  ·rw[ZeV hb]at e ⊢; exact sub _ _ e
  ·rw[Zbp hb]at e ⊢; exact x'.sub _ _ e
 ·by_cases hb:b∈Cs
  ·rw[ZeV hb]at e; exact .inl e
  ·rw[Zbp hb]at e
   rcases x'.new b o e with q | q
   ·exact .inl (ZhH q).2
   ·refine .inr ?_
    unfold Fre at q ⊢;rw[Zap hb]at q;exact q
 ·exact(x'.tab tb1).keep λa o e _=>by rw[Zbp λhb=>by obtain⟨_,_,_,_,q⟩:=kc a hb;rw[e]at q; cases q];exact e
 ·by_cases hb:b∈Cs
  ·rw[ZeV hb]at e; exact n b o e
  ·rw[Zbp hb]at e; exact x'.nts nt1 b o e
 ·rw[Zbp λhb=>by
   obtain⟨_,_,_,_,q⟩:=kc b hb;rw[x'.sub _ _ e]at q; cases q]
  exact e
end
end HP
namespace HP
open PySem PySem.Spec PyProof.Rows L2
variable[FX]
theorem ZqN{a b:Int}{cv:Value}(l:List Value)(h:TriplesOk l):∀(pos:Pos) (c:Value),ZBG pos (l++[rawInt a,rawInt b,cv])=some c->ZBG pos l=some c\/c=cv:=by
 fun_induction TriplesOk l with
 | case1 =>
  intro pos c e;simp only[ZAu,ZBG,rawInt]at e;split at e
  ·cases e; exact .inr rfl
  ·cases e
 | case2 x t y u z rest ih =>
  intro pos c e;simp only[ZCc,ZBG]at e ⊢;split at e
  ·rename_i hq
   rw[if_pos hq];exact .inl e
  ·rename_i hq
   rw[if_neg hq];exact ih h pos c e
 | case3=>exact h.elim
def BMod(base:Heap)(mg:Str->Option Value):Prop:=∃bm o,mg "__builtins__" = some (.ref bm)/\bm≠ZBZ/\bm≠ZyK/\base.get? bm=some o/\o.cls=.type "module"/\o.dict=some ZBZ/\o.data=.plain
structure ZqU(X:Cx)(t:Nat)(params:Arguments)(body:Expr)(scope:Scope)(names:List Str)(is:List Nat):Prop where
 code:∃c P,X.env.code=.ref c/\ZzE X.K c P=true/\(P,X.env.qual ++ "<lambda>")∈FX.tl/\∀q,(P,q)∈FX.tl->q=X.env.qual ++ "<lambda>"
 bm:BMod X.base X.mg
 dflt:defaultsOf params X.env=([],[])
 len:is.length=names.length
 at_:∀(j i:Nat) (x:Str),is[j]?=some i->names[j]?=some x->X.N[i]?=some x/\X.env.scope.names.lookup x=some .cell
 cells:∀y∈scope.names,y.2=.free->X.env.scope.names.lookup y.1=some .cell
 free:∀x∈names,(x,ZAa)∈scope.names
 own:∀x,X.fn x=true
 good:∀F p cs,Clo X.K F p params body scope names cs->FX.fv t cs F p
section
variable{X:Cx}{t:Nat}{params:Arguments}{body:Expr}{scope:Scope}{names:List Str}{is:List Nat}{pos lpos p:Pos}
structure Made(X:Cx)(params:Arguments)(body:Expr)(scope:Scope)(H H':Hp)(q:Addr)(clos:List (Str × Addr)):Prop where
 ex:∃(pm ctv:Value) (c:Addr) (oc:Obj),H' q=some (Zbm q (ZBs "<lambda>" (X.env.qual ++ "<lambda>") params body scope clos pm c ctv))/\H' c=some (Zbm c oc)/\Zlx oc (X.env.qual ++ "<lambda>")
 hh:Zaz H H'
 tb:Tb H'
theorem ZtE(L:ZqU X t params body scope names is){pins:List (Addr × Obj)}{s:Shared}{σ:L2.St}{H:Hp}(I:Inv X pins σ H s)(tb:Tb H){clos:List (Str × Addr)}(hcl:closureFor scope X.env=pure clos) :
  wpAny (model X.prog X.w) X.A (eval (.Lambda params body scope lpos) X.env) (λu s'=>∃q H',u=.ref q/\Inv X pins σ H' s'/\Made X params body scope H H' q clos) X.xe s:=by
 obtain⟨c,P,hc,hh,hm,hu⟩:=L.code;obtain⟨ps,hP,ht,hg⟩:=tb P _ hm;have gP:s.heap.get? P=some (ZAD ps):=I.hok P _ hP;have Ns:=I.mod.glob.keeps I.bk;have CH:PySem.W.CodeHd s.heap c P:=ZCJ I.kIn hh;obtain⟨bm,ob,b1,b2,b3,b4,b5,b6,b7⟩:=L.bm;have gb:=I.bk _ _ b4;have hbP:bm≠P:=λz=>by rw[z,gP]at gb; cases gb; cases b5
 have hgP:ZyK≠P:=λz=>by obtain⟨o,es,ep,e,hd,_⟩:=Ns;rw[z,gP]at e; cases e; cases hd
 have BA:s.heap.BuiltinsAt X.mg P:=⟨bm,ob,b1,b2,b3,hbP,gb,b5,b6,b7⟩;refine PySem.W.kla_eval L.dflt ?_;cases hq:ZBG lpos ps.toList with
 | some cv =>
  obtain⟨a,oc,rfl,h1,h2⟩:=hg lpos cv hq;refine PySem.W.kla_makeFunctionHit hcl I.ok.glob Ns hc CH gP ht hq BA λctv h' tk hk hz=>?_;generalize hob:ZBs "<lambda>" (X.env.qual ++ "<lambda>") params body scope clos ((X.mg "__name__").getD .none) a ctv=fo;have hn:H h'.objs.size=none:=I.hok.fresh hz;have hk2:∀b o,s.heap.get? b=some o->(h'.push fo).get? b=some o:=λb o e=>Zx7 _ (hk b o e);have gq:(h'.push fo).get? h'.objs.size=some fo:=by rw[<-hob]; exact Zyi _ rfl
  refine⟨h'.objs.size,upd H h'.objs.size (Zbm h'.objs.size fo),rfl,?_,⟨_,ctv,a,oc,by rw[ZE,<-hob],?_,h2⟩,.of (Zkb hn),tb.same (Zkb hn)⟩
  ·subst hob
   exact I.laid (t':=tk) hk2 hz (Zi9 gq)
  ·rw[ZB (Zau h1 hn)]; exact h1
 | none =>
  refine PySem.W.kla_makeFunction hcl I.ok.glob Ns hc CH gP ht hq hgP BA λc' ctv h' tk hx hge hlt hrec htab=>?_;generalize hob:ZBs "<lambda>" (X.env.qual ++ "<lambda>") params body scope clos ((X.mg "__name__").getD .none) c' ctv=fo;generalize hps:ps++#[rawInt lpos.line,rawInt lpos.col,ZyZ c']=ps2 at htab;obtain⟨c2,oc,vs,tq,e2,goc,d1,d2⟩:=hrec;cases e2;have hcn:H c'=none:=I.hok.fresh hge;have hqn:H h'.objs.size=none:=I.hok.fresh (ZyO hge (ZzS hlt));have hcq:c'≠h'.objs.size:=Zyp hlt;have hcP:c'≠P:=λz=>by rw[z,hP]at hcn; cases hcn
  have hqP:h'.objs.size≠P:=λz=>by rw[z,hP]at hqn; cases hqn
  have gq:(h'.push fo).get? h'.objs.size=some fo:=by rw[<-hob]; exact Zyi _ rfl
  have gc:(h'.push fo).get? c'=some oc:=Zx7 _ goc;have gP2:(h'.push fo).get? P=some (ZAD ps2):=Zx7 _ htab;have hk2:∀b o,b≠P->s.heap.get? b=some o->(h'.push fo).get? b=some o:=λb o hb e=>Zx7 _ (hx b o hb e);generalize hH':upd (upd (upd H P (.tbl ps2)) c' (Zbm c' oc)) h'.objs.size (Zbm h'.objs.size fo)=H';have aq:H' h'.objs.size=some (Zbm h'.objs.size fo):=by rw[<-hH',ZE]
  have ac:H' c'=some (Zbm c' oc):=by rw[<-hH',ZB hcq,ZE]
  have aP:H' P=some (.tbl ps2):=by rw[<-hH',ZB (Zy1 hqP),ZB (Zy1 hcP),ZE]
  have ao:∀b,b≠h'.objs.size->b≠c'->b≠P->H' b=H b:=λb n1 n2 n3=>by rw[<-hH',ZB n1,ZB n2,ZB n3]
  have at1:∀b o,H b=some o->b≠P->H' b=some o:=λb o e n=>by rw[ao b (Zau e hqn) (Zau e hcn) n]; exact e
  have nP:∀b o,H b=some o->(∀ps,o≠.tbl ps)->b≠P:=λb o e n z=>by rw[z,hP]at e; cases e; exact n _ rfl
  have old:∀b o,s.heap.get? b=some o->b≠h'.objs.size/\b≠c':=λb o e=>by have hb:=Zyh e;exact⟨Zyp (Zyv hb (ZyO hge (ZzS hlt))),Zyp (Zyv hb hge)⟩
  have hokN:HOk X.prog X.w H' (h'.push fo):=λb o e=>by
   by_cases n1:b=h'.objs.size
   ·subst n1; rw[aq]at e; cases e; exact Zi9 gq
   ·by_cases n2:b=c'
    ·subst n2; rw[ac]at e; cases e; exact Zi9 gc
    ·by_cases n3:b=P
     ·subst n3; rw[aP]at e; cases e; exact gP2
     ·rw[ao b n1 n2 n3]at e
      refine(I.hok b o e).stay (λd u hd z=>hk2 d u (λy=>?_) z) (λd z=>at1 d _ z (nP d _ z λ_ y=>by cases y)) λd xs z=>at1 d _ z (nP d _ z λ_ y=>by cases y);rcases hd with y2 | y2
      ·exact n3 (y2▸y)
      ·exact nP d _ y2 (λ_ q=>by cases q) y
  have un:Un X.fs [] H H' s.heap (h'.push fo):=by
   refine⟨λb o e n hb hx=>?_,λb o e n hb hx=>?_,λb o e n hx=>?_,λb o e hx=>?_,λb xs e=>at1 b _ e (nP b _ e λ_ y=>by cases y),λb o u e=>at1 b _ e (nP b _ e λ_ y=>by cases y),λb pp e=>?_⟩
   ·exact hk2 b o (λz=>by rw[z,hP]at n; cases n) e
   ·exact⟨o.slots,hk2 b o (λz=>by rw[z,hP]at n; cases n) e⟩
   ·obtain⟨n1,n2⟩:=old b o e
    rw[ao b n1 n2 (λz=>by rw[z,hP]at n; cases n)]; exact n
   ·by_cases n3:b=P
    ·exact⟨_,by rw[n3]; exact gP2⟩
    ·exact⟨o,hk2 b o n3 e⟩
   ·by_cases n3:b=P
    ·subst n3
     rw[hP]at e; cases e;exact⟨_,by rw[aP,<-hps]⟩
    ·exact⟨#[],by rw[at1 b _ e n3]; simp⟩
  refine⟨h'.objs.size,H',rfl,?_,⟨_,ctv,c',oc,by rw[aq,<-hob],ac,vs,tq,d1,d2⟩,λb o e=>?_,λT q hT=>?_⟩
  ·exact I.un (t':=tk) un hokN
  ·by_cases n3:b=P
   ·subst n3
    rw[hP]at e; cases e;exact⟨_,aP⟩
   ·exact .of (at1 b o e n3)
  ·by_cases n3:T=P
   ·subst n3
    obtain rfl:=hu q hT;refine⟨ps2,aP,?_,λpos' cc hcc=>?_⟩
    ·rw[<-hps,Array.toList_append]
     exact TriplesOk_snoc _ _ _ _ ht
    ·rw[<-hps,Array.toList_append]at hcc
     rcases ZqN _ ht _ _ hcc with e | e
     ·obtain⟨a,o,q1,q2,q3⟩:=hg pos' cc e
      exact⟨a,o,q1,at1 a _ q2 (nP a _ q2 λ_ y=>by cases y),q3⟩
     ·exact⟨c',oc,e,ac,vs,tq,d1,d2⟩
   ·obtain⟨ps',w1,w2,w3⟩:=tb T q hT
    refine⟨ps',at1 T _ w1 n3,w2,λpos' cc hcc=>?_⟩;obtain⟨a,o,q1,q2,q3⟩:=w3 pos' cc hcc;exact⟨a,o,q1,at1 a _ q2 (nP a _ q2 λ_ y=>by cases y),q3⟩
theorem ZnA{r:HM.Env}:∀{is:List Nat} {cs:List PyData},HM.ZkJ is r=some cs->cs.length=is.length/\∀(j i:Nat),is[j]?=some i->∃d,cs[j]?=some d/\r[i]?=some (some (.pl d))
 | [],cs,h=>by cases h; exact⟨rfl,λj i e=>by simp at e⟩
 | i::is,cs,h=>by
  unfold HM.ZkJ at h;split at h
  ·rename_i d hd
   obtain⟨cs',h1,h2⟩:=Zx2.mp h;subst h2;obtain⟨l,k⟩:=ZnA h1;refine⟨by rw[Zyg,Zyg,l],λj i' e=>?_⟩;cases j with
   | zero=>cases e; exact⟨d,rfl,hd⟩
   | succ j=>exact k j i' e
  ·cases h
def ZeZ(F H:Hp):Hp:=λb=>match H b with
 | some (.ext φ)=>some (.ext φ)
 | _=>F b
theorem Zh1{F H:Hp}{a:Addr}{o:Obj}(h:H a=some (Zbm a o)):ZeZ F H a=some (Zbm a o):=by unfold ZeZ Zbm at *;rw[h]
theorem Zj0{F H:Hp}{b:Addr}{o:HO}(h:ZeZ F H b=some o):(H b=some o/\te o=true)\/F b=some o:=by
 unfold ZeZ at h;split at h
 ·rename_i φ e
  cases h;exact .inl ⟨e,rfl⟩
 ·exact .inr h
theorem ZuD{F H:Hp}(s:Zq F H){b:Addr}{o:HO}(h:F b=some o):ZeZ F H b=some o:=by have h2:=s b o h;unfold ZeZ;rw[h2];cases o<;>first | rfl | exact h
theorem Zqd{k:Nat}{x:Str}{M:List PyData->Option PyData}{e:Expr}{fa:HM.EF}(C:Callee X.prog X.w X.K X.mg X.base k x M)(hr:Zag k X.A)(L:ZqU X t params body scope names is)(ha:XE X e fa)(hg:Gl X x:=by rfl)(hdb:(x==("__debug__":Str))=false:=by decide)
  (he:Zyc [e,.Lambda params body scope lpos] X.env=(false,eval e X.env)::Zyc [.Lambda params body scope lpos] X.env:=by rfl) (he2:Zyc [.Lambda params body scope lpos] X.env=[(false,eval (.Lambda params body scope lpos) X.env)]:=by rfl)
  (hpl:(backTo pos (Zyc [.Lambda params body scope lpos] X.env)).any (·.1)=false:=by rfl):XE X (.Call (.Name x p) [e,.Lambda params body scope lpos] [] pos) (HM.Zh2 M t is fa):=by
 intro r d hd;unfold HM.Zh2 at hd;split at hd
 case h_2=>cases hd
 rename_i d1 hd1;split at hd
 case h_2=>cases hd
 rename_i cs hcs;split at hd
 case isFalse=>cases hd
 rename_i hnc;split at hd
 case h_2=>cases hd
 rename_i d' hM;split at hd
 case isFalse=>cases hd
 rename_i hnd;cases hd;obtain⟨fa',fd,ps,hl,FN,hm,hk,hb⟩:=C.ex;intro pins s σ H Q I ⟨F0,H0,F,at_,kk⟩;obtain⟨clos,hcl,hc1,hc2⟩:=Zfq (scope:=scope) (env:=X.env) λy hy hf=>I.ok.has _ (.inl (L.cells y hy hf));refine Zz5 (Zlz I hg hm ?_ hdb);have lamPE:PE X (.Lambda params body scope lpos) λσ' H' Q'=>Tb H'/\∀q H2,Made X params body scope H' H2 q clos->Q' (.ref q) H2:=λpins' s' σ' H' Q' I' ⟨tb',k'⟩=>thn (ZtE L I' tb' hcl) λu s2 ⟨q,H2,e1,I2,m⟩=>by subst e1; exact⟨.ref q,H2,I2,rfl,k' q H2 m⟩
 refine ZCM (h₀:=X.base) I.ok.mod.kin hk (thn (Zak (ha r d1 hd1) (Zak lamPE ZbK he2) he pos pins s σ H (λvs H2=>∃v1 F1 H1 q,vs=[v1,.ref q]/\Ext F H F1 H1/\Rep X.K F1 d1 v1/\Made X params body scope H1 H2 q clos) I
  ⟨F0,H0,F,at_,λv F1 H1 x1 r1=>⟨at_.tbx x1,λq H2 m=>⟨v,F1,H1,q,rfl,x1,r1,m⟩⟩⟩) λus s2 ⟨vs,H2,I2,rv,v1,F1,H1,q,ev,x1,r1,m⟩=>⟨I2.kIn,?_⟩) he hpl
 subst ev;have at1:=at_.grow x1;have tb1:=at_.tbx x1;have nt1:=at_.ntx x1;generalize hCs:cellsOf clos=Cs;have hCm:∀a,a∈Cs↔∃y,clos.lookup y=some a:=λa=>by rw[<-hCs]; exact ZlV
 have hCc:∀a∈Cs,∃y o v,X.env.cells.lookup y=some a/\s2.heap.get? a=some o/\o.data=.cell v/\H2 a=none:=λa ha=>by obtain⟨y,e⟩:=(hCm a).mp ha;have e1:=hc1 y a e;obtain⟨v,o,h1,h2⟩:=I2.cell y a e1;exact⟨y,o,v,e1,h1,h2,I2.freeC y a e1⟩
 generalize hG:(λa:Addr=>(s2.heap.get? a).map (Zbm a))=G;have hGo:∀{a:Addr} {o:Obj},s2.heap.get? a=some o->G a=some (Zbm a o):=λ{a o} e=>by rw[<-hG]; show Zze _ _=_; rw[e]; rfl
 generalize hH3:Zg3 Cs G H2=H3;have h3in:∀{a:Addr},a∈Cs->∃o v,H3 a=some (Zbm a o)/\s2.heap.get? a=some o/\o.data=.cell v:=λ{a} ha=>by obtain⟨y,o,v,_,g1,g2,_⟩:=hCc a ha;exact⟨o,v,by rw[<-hH3,ZeV ha]; exact hGo g1,g1,g2⟩
 have h3out:∀{a:Addr},a ∉ Cs->H3 a=H2 a:=λ{a} ha=>by rw[<-hH3,Zbp ha]
 have s23:Zq H2 H3:=λb o z=>by rw[h3out λhb=>by obtain⟨_,_,_,_,_,_,g⟩:=hCc b hb;rw[g]at z; cases z];exact z
 have cge:∀a∈Cs,X.s₀.heap.objs.size<=a:=λa ha=>by obtain⟨y,_,_,e1,_⟩:=hCc a ha;exact I.ok.cab y a (L.own y) e1
 have hok3:HOk X.prog X.w H3 s2.heap:=by rw[<-hH3];refine HOk.put I2.hok (λa ha=>by obtain⟨_,_,_,_,_,_,g⟩:=hCc a ha; exact g) λa ha u e=>?_;obtain⟨y,o,v,_,g1,g2,_⟩:=hCc a ha;rw[hGo g1]at e; cases e;exact⟨o,rfl,g1⟩
 have E2:=I2.env0;have cfr:∀b∈frs X.stack,b ∉ Cs:=λb hb hc=>by
  obtain⟨y,o,v,e1,g1,g2,_⟩:=hCc b hc;rcases Zyo.mp (I2.stkSub b hb)with z | z
  ·exact I2.cne y b e1 z
  ·obtain⟨_,o',ho',_⟩:=I.ok.funs.mem z
   exact absurd (Zyv (Zyh ho') (cge b hc)) (ZzM _)
 have E3:ZeO X.prog X.w X.K X.mg X.base X.A X.stack s2 H3:=⟨E2.frames,E2.mod,λb o z=>⟨(E2.bs b o z).1,by rw[h3out λhb=>absurd (Zyv (Zyh z) (ZyO I.ok.bsz (cge b hb))) (ZzM _)];exact(E2.bs b o z).2⟩,E2.bsz,E2.funs,λb hb=>by rw[h3out (cfr b hb)]; exact E2.frf b hb,hok3,E2.bare⟩;have s12:Zq F1 H2:=λb o z=>m.hh.ntb (x1.sub b o z) (nt1 b o z);have s13:Zq F1 H3:=s12.trans s23;have ff:Zq F1 (ZeZ F1 H3):=λb o z=>ZuD s13 z;have s33:Zq (ZeZ F1 H3) H3:=λb o z=>by
  rcases Zj0 z with⟨w,_⟩ | w
  ·exact w
  ·exact s13 b o w
 have nt3:NoT (ZeZ F1 H3):=λb o z=>by
  rcases Zj0 z with⟨w1,w2⟩ | w
  ·unfold ZeZ at z
   split at z
   ·cases z; rfl
   ·exact nt1 b o z
  ·exact nt1 b o w
 have tb3:Tb H3:=m.tb.same s23;obtain⟨pm,ctv,c,oc,m1,m2,m3⟩:=m.ex;obtain⟨cl1,cl2⟩:=ZnA hcs;have clo:Clo X.K (ZeZ F1 H3) q params body scope names cs:=by
  refine⟨_,pm,ctv,c,oc,clos,Zh1 (s23 _ _ m1),Zh1 (s23 _ _ m2),m3,λy z a g1 g2=>I.ok.inj y z a (hc1 y a g1) (hc1 z a g2),hc2,λy a g=>?_,by rw[cl1,L.len],λj y dj g1 g2=>?_⟩
  ·obtain⟨o,v,w1,w2,w3⟩:=h3in ((hCm a).mpr ⟨y,g⟩)
   exact⟨o,v,Zh1 w1,w3⟩
  ·have hj:j<is.length:=by rw[L.len]; exact(Zyd.mp g1).1
   obtain⟨dj',g3,g4⟩:=cl2 j is[j] (Zye hj);rw[g2]at g3;cases g3;obtain⟨hN,hkind⟩:=L.at_ j is[j] y (Zye hj) g1;obtain⟨v,w1,w2⟩:=at1.plain g4;obtain⟨mm,_,hloc⟩:=I2.loc;obtain⟨u,ru,lk⟩:=hloc is[j] y v hN w1 (.inr (.inl hkind));have hfr:=hc2 _ (L.free y (Zyu g1)) rfl;obtain⟨a,hal⟩:=ZyL.mp hfr;rcases lk with⟨k1,_⟩ | ⟨_,a',k1,o,k2,k3⟩
   ·rw[show X.env.kindOf y=some .cell from hkind]at k1; cases k1
   ·rw[hc1 y a hal]at k1
    cases k1;obtain⟨o',v',z1,z2,z3⟩:=h3in ((hCm a).mpr ⟨y,hal⟩);rw[k2]at z2;cases z2;refine⟨a,o,u,v,hal,Zh1 z1,k3,ru,Rep.cutF (λb ob z _=>ff b ob z) w2 20 ?_⟩;exact Zx9.mp hnc dj (Zyu g2)
 have fv:=L.good _ _ _ clo;have hlen:=hl _ _ hM;refine wpAny_call (Zz4 (FN.run X.A X.stack s2 H3 ⟨us,[]⟩ us [v1,.ref q] (λv H4=>∃F4,Ext (ZeZ F1 H3) H3 F4 H4/\Rep X.K F4 d v) E0 hr E3 (by
  have:=hb s2 us I2.kIn (by rw[ZyJ,<-rv.length]; exact hlen)
  rwa [ZyJ]at this) rv ⟨ZeZ F1 H3,_,d,hlen,s33,tb3,nt3,.cons (r1.mono ff) (.one (.fn fv)),hM,λv F4 H4 x4 q4=>⟨F4,x4,q4⟩⟩) λrs s4 hq=>?_)
 cases rs with
 | error e=>exact Zy3 hq
 | ok fl =>
  cases fl with
  | next=>exact Zy3 hq
  | brk=>exact Zy3 hq
  | cont=>exact Zy3 hq
  | ret u =>
   obtain⟨v,H4,os,bare,un,hok4,ru,F4,x4,q4⟩:=hq;have c4:∀{a:Addr},a∈Cs->∃o v,H4 a=some (Zbm a o)/\s2.heap.get? a=some o/\s4.heap.get? a=some o/\o.data=.cell v:=λ{a} ha=>by obtain⟨o,v,w1,w2,w3⟩:=h3in ha;have w4:H4 a=some (Zbm a o):=x4.hh.ntb w1 rfl;exact⟨o,v,w4,w2,Zcq (hok4 a _ w4),w3⟩
   have out4:∀{b:Addr} {o:HO},H2 b=some o->b ∉ Cs:=λ{b o} z hb=>by obtain⟨_,_,_,_,_,_,g⟩:=hCc b hb;rw[g]at z; cases z
   generalize hF5:(λb:Addr=>match F4 b with | some o=>if te o=true then F1 b else some o | none=>none)=F5;have f5:∀{b:Addr} {o:HO},F5 b=some o->(F4 b=some o/\te o=false)\/F1 b=some o:=λ{b o} z=>by
    rw[<-hF5]at z;dsimp only at z;split at z
    ·rename_i o' w
     split at z
     ·exact .inr z
     ·rename_i n
      cases z;exact .inl ⟨w,by simpa using n⟩
    ·cases z
   have f5a:∀{b:Addr} {o:HO},F4 b=some o->te o=false->F5 b=some o:=λ{b o} z n=>by rw[<-hF5]; dsimp only; rw[z]; dsimp only; rw[if_neg (by rw[n]; simp)]
   have f5b:∀{b:Addr} {o:HO},F1 b=some o->F5 b=some o:=λ{b o} z=>by
    have w:=x4.ff b o (ff b o z)
    by_cases n:te o=true
    ·rw[<-hF5]; dsimp only; rw[w]; dsimp only; rw[if_pos n]; exact z
    ·exact f5a w (by simpa using n)
   have sub5:Zq F5 (Zbb Cs H4):=λb o z=>by
    rcases f5 z with⟨w,n⟩ | w
    ·rw[Zap λhb=>by
      obtain⟨_,_,g,_⟩:=c4 hb;rw[x4.sub b o w]at g; cases g; cases n]
     exact x4.sub b o w
    ·rw[Zap (out4 (s12 b o w))]
     exact x4.sub b o (x4.ff b o (ff b o w))
   refine I2.after ⟨v,Zbb Cs H4,os,bare,⟨λb o e n hb hx=>?_,λb o e n hb hx=>?_,λb o e n hx=>?_,un.there,λb xs e=>?_,λb o w e=>?_,λb pp e=>?_⟩,HOk.cut hok4 (λa ha o e=>?_),ru,kk v F5 (Zbb Cs H4) (x1.trans ⟨λb o z=>f5b z,λb o z=>?_,sub5,λb o z=>?_,λtb=>?_,λ_ b o z=>?_⟩) ((Rep.cutF (λb o z n=>f5a z n) q4 20 hnd).up)⟩
   ·by_cases hc:b∈Cs
    ·obtain⟨o',_,_,w2,w3,_⟩:=c4 hc
     rw[e]at w2; cases w2; exact w3
    ·exact un.keep b o e (by rw[h3out hc]; exact n) hb hx
   ·exact un.slot b o e (by rw[h3out (cfr b hb)]; exact n) hb hx
   ·by_cases hc:b∈Cs
    ·exact Zhm hc
    ·rw[Zap hc]; exact un.free b o e (by rw[h3out hc]; exact n) hx
   ·rw[Zap (out4 e)]; exact un.tups b xs (s23 _ _ e)
   ·rw[Zap (out4 e)]; exact un.frzs b o w (s23 _ _ e)
   ·rw[Zap (out4 e)]; exact un.tbls b pp (s23 _ _ e)
   ·obtain⟨o',_,g,_⟩:=c4 ha
    rw[g]at e; cases e; rfl
   ·-- tracked things stay
    have z2:=m.hh b o z;have key:∀{u:HO},H2 b=some u->Zde (Zbb Cs H4) b u:=λ{u} w=>(x4.hh b u (s23 b u w)).cong (Zap (out4 w));cases o<;>first | exact key z2 | (obtain⟨pp,w⟩:=z2; exact(show ∃ps',_ from key w))
   ·rcases f5 z with⟨w,n⟩ | w
    ·rcases x4.new b o w with y | y
     ·rcases Zj0 y with⟨_,y2⟩ | y2
      ·rw[n]at y2; cases y2
      ·exact .inl y2
     ·refine .inr ?_
      have hcb:b ∉ Cs:=λhb=>by
       obtain⟨o',_,g,_⟩:=h3in hb;rcases y with y | ⟨xs,_,y⟩
       ·rw[g]at y; cases y
       ·rw[g]at y; cases y
      rcases y with y | ⟨xs,y1,y2⟩
      ·rw[h3out hcb]at y
       exact .inl (m.hh.free y)
      ·rw[h3out hcb]at y2
       cases w1:H1 b with
       | none=>exact .inl w1
       | some u =>
        have:=m.hh.back w1 y2 λ_ q=>by cases q
        subst this;exact .inr ⟨xs,y1,w1⟩
    ·exact .inl w
   ·refine(x4.tab tb3).cut hok4 λa ha=>?_
    obtain⟨o,v',g1,_,_,g4⟩:=c4 ha;exact⟨o,v',g1,g4⟩
   ·rcases f5 z with⟨w,_⟩ | w
    ·exact x4.nts nt3 b o w
    ·exact nt1 b o w
end
end HP
namespace HP
open PySem PySem.Spec PyProof.Rows L2
structure Zqw(K:Zx0)(x qual:Str)(st:Stmt)(f:Addr)(fd:FuncData)(c:Addr):Prop where
 ex:∃(oc:Value) (od:Option Addr) (kV doc pm:Value) (an:Option Addr) (ct:Value) (osl:Array (Option Value)),
  fd=Zzj x qual (Zci st) (ZaR st) (Ze st) .none kV doc pm an (.ref c) ct/\K.lookup f=some ⟨oc,od,.func fd,osl⟩/\Zz1 K (.ref c) qual=true
 kp:Zzp K (.ref f)=true
theorem ZuG{K:Zx0}{x qual:Str}{st:Stmt}{f c:Addr}{oc:Value}{od an:Option Addr}{osl:Array (Option Value)}{kV doc pm ct:Value}(l:K.lookup f=some ⟨oc,od,.func (Zzj x qual (Zci st) (ZaR st) (Ze st) .none kV doc pm an (.ref c) ct),osl⟩)
  (h:Zz1 K (.ref c) qual=true) (k:Zzp K (.ref f)=true):Zqw K x qual st f (Zzj x qual (Zci st) (ZaR st) (Ze st) .none kV doc pm an (.ref c) ct) c:=⟨⟨oc,od,kV,doc,pm,an,ct,osl,rfl,l,h⟩,k⟩
section
variable[FX]
theorem ZqV{P:Program}{w:World}{K:Zx0}{mg:Str->Option Value}{base:Heap}{k:Nat}{x qual:Str}{st:Stmt}{f c:Addr}{fd:FuncData}{N ps:List Str}{g:HM.SF}(Fn:Zqw K x qual st f fd c)(S:Zw N ps (Ze st))(hm:mg x=some (.ref f))(hb:Binds K fd ps [])
  (body:∀(A:Around) (outer:List Env) (s:Shared) (H:Hp) (E:XK),Zag k (A.deeper (envOfC qual (Ze st) s.heap.objs.size f (.ref c)))->XSs (Zga CX0 P w K mg base N qual (Ze st) f (.ref c) A outer s H E).nox (ZaR st) g) :
  Callee P w K mg base (k+1) x (HM.fnOf ps.length N.length g):=by
 have hpl:ps.length<=N.length:=by have:=congrArg ZyN S.pre; rw[ZzB]at this; omega
 refine⟨f,fd,ps,λds d h=>?_,?_,hm,Fn.kp,hb⟩
 ·unfold HM.fnOf at h
  split at h
  ·assumption
  ·cases h
 ·obtain⟨oc,od,kV,doc,pm,an,ct,osl,rfl,lk,hcd⟩:=Fn.ex
  refine Zt8 lk hcd S (λvs H Q E h=>by obtain⟨_,_,_,h,_⟩:=h; exact h) λA outer s H vs Q E hr h=>?_;obtain⟨F,ds,d,hl,sub,tb,nt,q,hM,kk⟩:=h;unfold HM.fnOf at hM;split at hM
  ·rename_i hds
   have a0:=Zgp (N:=N) sub tb nt q (by omega);split at hM
   ·rename_i r hr'
    cases hM;exact⟨_,(body A outer s H E hr _ _ hr').nox,F,H,F,a0,λσ F' H' a'=>kk .non F' H' a'.ext .non⟩
   ·rename_i d' hr'
    cases hM;exact⟨_,(body A outer s H E hr _ _ hr').nox,F,H,F,a0,λv F' H' x q=>kk v F' H' x q⟩
   ·cases hM
  ·cases hM
def ZqX(N:List Str)(sc scope:Scope)(names:List Str)(is:List Nat):Bool :=
 decide (is.length=names.length)&&(is.zip names).all (λq=>decide (N[q.1]?=some q.2)&&decide (sc.names.lookup q.2=some .cell))&&scope.names.all (λy=>decide (y.2≠.free)||decide (sc.names.lookup y.1=some .cell))&&names.all λx=>decide ((x,ZAa)∈scope.names)
theorem ZsO{X:Cx}{t:Nat}{params:Arguments}{body:Expr}{scope sc:Scope}{names N:List Str}{is:List Nat}{c T:Addr}{q:Str}(ck:ZqX N sc scope names is=true)(h1:ZzE X.K c T=true)(h2:(T,q)∈FX.tl)(h3:∀q',(T,q')∈FX.tl->q'=q)(bm:BMod X.base X.mg)
  (good:∀F p cs,Clo X.K F p params body scope names cs->FX.fv t cs F p) (hN:X.N=N:=by rfl) (hs:X.env.scope=sc:=by rfl) (hc:X.env.code=.ref c:=by rfl) (hq:X.env.qual ++ "<lambda>" = q:=by rfl) (hd:defaultsOf params X.env=([],[]):=by rfl) (ho:∀x,X.fn x=true:=by exact λ_=>rfl) :
  ZqU X t params body scope names is:=by
 unfold ZqX at ck;rw[Zyk,Zyk,Zyk]at ck;obtain⟨⟨⟨k1,k2⟩,k3⟩,k4⟩:=ck;refine⟨⟨c,T,hc,h1,by rw[hq]; exact h2,λq' z=>by rw[hq]; exact h3 q' z⟩,bm,hd,of_decide_eq_true k1,λj i x e1 e2=>?_,λy hy hf=>?_,λx hx=>?_,ho,good⟩
 ·have:(i,x)∈is.zip names:=Zyu (i:=j) (by rw[List.getElem?_zip_eq_some]; exact⟨e1,e2⟩)
  have:=Zx9.mp k2 _ this;rw[Zyk]at this;rw[hN,hs];exact⟨of_decide_eq_true this.1,of_decide_eq_true this.2⟩
 ·have:=Zx9.mp k3 y hy
  rw[ZzJ]at this;rw[hs];rcases this with z | z
  ·exact absurd hf (of_decide_eq_true z)
  ·exact of_decide_eq_true z
 ·exact of_decide_eq_true (Zx9.mp k4 x hx)
theorem Zuy{P:Program}{w:World}{K:Zx0}{mg:Str->Option Value}{base:Heap}{x qual:Str}{st:Stmt}{f a:Addr}{fd:FuncData}(Fn:Fun K x qual st f fd)(hm:mg x=some (.ref f))(ha:mg x=some (.ref a)){A:Around}{outer:List Env}{s:Shared}{H:Hp}(e0:ZeO P w K mg base A outer s H):ZCO a s.heap:=by rw[hm]at ha;cases ha;obtain⟨oc,od,kV,doc,pm,an,cdv,ct,osl,rfl,lk,hcd⟩:=Fn.ex;have KX:K.In s.heap:=e0.mod.kin.keeps λb o e=>(e0.bs b o e).1;exact⟨_,_,_,_,KX _ _ lk⟩
theorem ZsY{P:Program}{w:World}{K:Zx0}{mg:Str->Option Value}{base:Heap}{k:Nat}{x:Str}{M:List PyData->Option PyData}{a:Addr}(C:Callee P w K mg base k x M)(ha:mg x=some (.ref a)){A:Around}{outer:List Env}{s:Shared}{F H:Hp}(e0:ZeO P w K mg base A outer s H)(sub:Zq F H)
  {us:List Value} {vs:List V} {ds:List PyData} {d:PyData} {Q:VK} (hr:Zag k A) (tb:Tb H) (nt:NoT F) (rv:Vals vs us) (rs:Zv K F ds vs) (hM:M ds=some d) (kk:∀v F' H',Ext F H F' H'->Rep K F' d v->Q v H') :
  codeAny (model P w) A (.call (.ref a) ⟨us,[]⟩) (CR CX0 outer P w H s Q E0) s:=by
 obtain⟨f,fd,ps,hl,FN,hm,hk,hb⟩:=C.ex;rw[hm]at ha;cases ha;have KX:K.In s.heap:=e0.mod.kin.keeps λb o e=>(e0.bs b o e).1;have hlen:vs.length=ps.length:=by rw[<-rs.1]; exact hl _ _ hM
 refine FN.run A outer s H ⟨us,[]⟩ us vs Q E0 hr e0 ?_ rv ⟨F,ds,d,hlen,sub,tb,nt,rs,hM,kk⟩;have:=hb s us KX (by rw[ZyJ,<-rv.length]; exact hlen)
 rwa [ZyJ]at this
end
def ZmL(tabs:List Addr)(H:Hp):Prop:=(∀b,H b=none\/(∃o xs,H b=some (.frz o (.lst xs)))\/H b=some (.tbl #[]))/\∀T∈tabs,H T=some (.tbl #[])
theorem Zrv{P:Program}{w:World}{K:Zx0}{mg mb:Str->Option Value}{k:Nat}{fa a:Addr}{fd:FuncData}{x:Str}{sp:Sp}{s₁:Shared}{vs:List Value}{ns:List Int}{tabs:List (Addr × Addr)}
  (hT:∀q∈tabs,ZzE K q.1 q.2=true/\K.lookup q.2=none/\s₁.heap.get? q.2=some (ZAD #[]))
  (KX:K.In s₁.heap) (hns:s₁.heap.Ns ZyK mg) (hb:s₁.heap.Ns ZBZ mb) (hbb:∀x:Str,x ≠ "__name__"->mb x=ZyX x) (hlim:s₁.heap.NoLimit) (hg:s₁.gens=#[])
  (ha:s₁.heap.get? a=some { cls:=.type "list",data:=.seq vs.toArray }) (hi:IntsAre vs ns) (hl:ns.length<=sizeLine) (hr:Zag k callerA)
  (hbm:PyProof.Rows.BMain s₁.heap mg) (F:∀base:Heap,K.In base->base.Ns ZyK mg->BMod base mg->Zds P w K mg base CX0 k fa fd [x] sp) (hbind:∀(s:Shared) (u:Value),BindsTo s fd ⟨[u],[]⟩ [(x,u)])
  (hsp:∀H:Hp,ZmL (tabs.map (·.2)) H->SqL K H a (ns.map V.int)->sp [.ref a] H (λv _=>v=.bl true) λ_ _ _=>False) :
  codeAny (model P w) callerA (.call (.ref fa) ⟨[.ref a],[]⟩) (λr s'=>r=.ok (.ret (.bool true))/\OldK s₁.heap s'.heap/\s'.os=s₁.os/\AllBare s'.gens) s₁:=by
 have rv:=Zl2 hi;have lenV:=hi.length;have tne:∀q∈tabs,q.2≠a:=λq hq z=>by have:=(hT q hq).2.2;rw[z,ha]at this; cases this
 have core:∀oS:Option HO,(oS=none\/∃o xs,oS=some (.frz o (.lst xs)))->(∀H:Hp,H a=oS->SqL K H a (ns.map V.int))->(∀H:Hp,∀u,oS=some u->Z8 P w H s₁.heap a u)->(oS≠none->K.lookup a=none) ->
   codeAny (model P w) callerA (.call (.ref fa) ⟨[.ref a],[]⟩) (λr s'=>r=.ok (.ret (.bool true))/\OldK s₁.heap s'.heap/\s'.os=s₁.os/\AllBare s'.gens) s₁:=by
  intro oS hO hS hok0 hK;generalize hH:(λb:Addr=>if b=a then oS else if b∈tabs.map (·.2)then some (HO.tbl #[])else none)=H;have Ha:H a=oS:=by rw[<-hH]; exact if_pos rfl
  have Ht:∀T∈tabs.map (·.2),H T=some (.tbl #[]):=λT hT'=>by obtain⟨q,hq,e⟩:=Zyf.mp hT';rw[<-hH];show(if T=a then oS else if T∈tabs.map (·.2)then some (HO.tbl #[])else none)=_;rw[if_neg (by rw[<-e]; exact tne q hq),if_pos hT']
  have Hc:∀b u,H b=some u->(b=a/\oS=some u)\/(b∈tabs.map (·.2)/\u=.tbl #[]):=λb u e=>by
   rw[<-hH]at e;dsimp only at e;split at e
   ·rename_i h; exact .inl ⟨h,e⟩
   ·split at e
    ·rename_i h; cases e; exact .inr ⟨h,rfl⟩
    ·cases e
  have tget:∀T∈tabs.map (·.2),s₁.heap.get? T=some (ZAD #[])/\K.lookup T=none/\∃c,ZzE K c T=true:=λT hT'=>by obtain⟨q,hq,e⟩:=Zyf.mp hT';subst e;exact⟨(hT q hq).2.2,(hT q hq).2.1,q.1,(hT q hq).1⟩
  have hok:HOk P w H s₁.heap:=λb u e=>by
   rcases Hc b u e with⟨rfl,e'⟩ | ⟨h,rfl⟩
   ·exact hok0 H u e'
   ·exact(tget b h).1
  have base_of:∀{b:Addr} {o:Obj},s₁.heap.get? b=some o->H b=none->(ZgX s₁.heap H).get? b=some o:=λe n=>ZsJ e n;have noA:∀{b:Addr} {o:Obj} {es:Array DictEntry} {ep:Nat},s₁.heap.get? b=some o->o.data=.dict es ep->H b=none:=λ{b o es ep} e d=>by
   cases q:H b with
   | none=>rfl
   | some u =>
    rcases Hc b u q with⟨rfl,_⟩ | ⟨h,_⟩
    ·rw[ha]at e; cases e
     have d':Data.seq vs.toArray _=Data.dict es ep:=d;cases d'
    ·rw[(tget b h).1]at e; cases e; cases d
  have nsK:∀{b:Addr} {m:Str->Option Value},s₁.heap.Ns b m->(ZgX s₁.heap H).Ns b m:=λ{b m} ⟨o,es,ep,e,d,r⟩=>⟨o,es,ep,base_of e (noA e d),d,r⟩;have hKb:K.In (ZgX s₁.heap H):=λb o e=>base_of (KX b o e) (by
   cases q:H b with
   | none=>rfl
   | some u =>
    rcases Hc b u q with⟨rfl,e'⟩ | ⟨h,_⟩
    ·rw[hK (by rw[e']; simp)]at e; cases e
    ·rw[(tget b h).2.1]at e; cases e)
  have hM:Mod K mg (ZgX s₁.heap H):=⟨hKb,nsK hns,⟨mb,nsK hb,hbb⟩,let ⟨mc,h1,h2⟩:=hlim; ⟨mc,nsK h1,h2⟩⟩;have e0:ZeO P w K mg (ZgX s₁.heap H) callerA [] s₁ H:=⟨rfl,hM,λb o e=>ZuS e,ZBq (Zsw _ _),trivial,λb hb=>absurd (show b∈([]:List Addr) from hb) (by simp),hok,.of_eq hg⟩;have hOT:ZmL (tabs.map (·.2)) H:=⟨λb=>by
   cases q:H b with
   | none=>exact .inl rfl
   | some u =>
    rcases Hc b u q with⟨_,e'⟩ | ⟨_,rfl⟩
    ·rcases hO with z | ⟨o,xs,z⟩
     ·rw[z]at e'; cases e'
     ·rw[z]at e'; cases e'; exact .inr (.inl ⟨o,xs,rfl⟩)
    ·exact .inr (.inr rfl),Ht⟩
  have hBM:BMod (ZgX s₁.heap H) mg:=by
   obtain⟨bm,ob,b1,b2,b3,b4,b5,b6⟩:=hbm;refine⟨bm,ob,b1,b2,λz=>?_,base_of b3 ?_,b4,b5,b6⟩
   ·obtain⟨o,es,ep,e,d,_⟩:=hns
    rw[z,e]at b3; cases b3; rw[b6]at d; cases d
   ·cases q:H bm with
    | none=>rfl
    | some u =>
     rcases Hc bm u q with⟨z,_⟩ | ⟨h,_⟩
     ·rw[z,ha]at b3; cases b3; exact absurd (show(ZAT "list":Value)=.type "module" from b4) (by decide)
     ·rw[(tget bm h).1]at b3; cases b3; cases b4
  refine Zz4 ((F _ hKb (nsK hns) hBM).run callerA [] s₁ H ⟨[.ref a],[]⟩ [.ref a] [.ref a] _ _ hr e0 (hbind s₁ (.ref a)) (.cons rfl .nil) (hsp H hOT (hS H Ha))) λr s' h=>?_;cases r with
  | error e=>exact Zy3 h
  | ok fl =>
   cases fl with
   | next=>exact Zy3 h
   | brk=>exact Zy3 h
   | cont=>exact Zy3 h
   | ret u =>
    obtain⟨v,H',os,bare,un,hok',r',q⟩:=h;have q':v=.bl true:=q;subst q';obtain rfl:u=Value.bool true:=r';refine⟨rfl,⟨λb o e=>?_,λb o e=>un.there b o e (by simp)⟩,os,bare⟩;cases q:H b with
    | none=>exact .inl (un.keep b o e q (by intro z; exact absurd (show b∈([]:List Addr) from z) (by simp)) (by simp))
    | some u =>
     rcases Hc b u q with⟨rfl,e'⟩ | ⟨h,rfl⟩
     ·rcases hO with z | ⟨ob,xs,z⟩
      ·rw[z]at e'; cases e'
      ·rw[z]at e'; cases e'
       have z2:=un.frzs _ ob _ q;obtain⟨e1,_⟩:=hok _ _ q;obtain⟨e2,_⟩:=hok' _ _ z2;rw[e]at e1; cases e1;exact .inl e2
     ·obtain⟨g1,_,c,g3⟩:=tget b h
      rw[g1]at e; cases e;obtain⟨more,z2⟩:=un.tbls b _ q;have z3:s'.heap.get? b=some { cls:=.none,data:=.fields (#[]++more) }:=hok' b _ z2;refine .inr (.inl ⟨((ZCJ KX g3).tab g1).isCodeTable,rfl,#[],more,rfl,z3⟩)
 cases hk:K.lookup a with
 | some o=>have e:=KX a o hk;rw[ha]at e;cases e;exact core none (.inl rfl) (λH _=>.inr ⟨_,vs.toArray,_,hk,rfl,rfl,rfl,by rw[Zyj,lenV]; exact hl,by simpa using rv⟩) (λH u z=>by cases z) λz=>absurd rfl z
 | none=>refine core (some (.frz { cls:=.type "list",data:=.seq vs.toArray } (.lst (ns.map V.int)))) (.inr ⟨_,_,rfl⟩) (λH e=>.inl (.inr ⟨_,e⟩)) (λH u z=>?_) λ_=>hk;cases z;exact⟨ha,by rw[Zx1]; exact hl,vs,_,rv,ha⟩
theorem ZsT{l:ZCn}{n k:Nat}{q:Program}{loose:List Str}{XP:(Str->Option Value)->Heap->Prop}{YP:World->Heap->Prop}{d:DefRec}{K:Params->Zx0}{sp:World->Sp}{x:Str}{tabs:List (Addr × Addr)}
  (hn:l.most=some n) (hn2:n<=sizeLine) (hdf:d.params.defaults=[]) (hr:Zag k callerA)
  (hY:∀(w:World) (h:Heap),YP w h->(K w.params).In h) (hYT:∀(w:World) (h:Heap),YP w h->∀q∈tabs,h.get? q.2=some (ZAD #[]))
  (hT:∀(w:World),∀q∈tabs,ZzE (K w.params) q.1 q.2=true/\(K w.params).lookup q.2=none)
  (F:∀(w:World) (mg:Str->Option Value) (fa:Addr) (h:Heap),(K w.params).In h->h.Ns ZyK mg->mg d.name=some (.ref fa) ->
   ∃fd:FuncData,(∀(s:Shared) (u:Value),BindsTo s fd ⟨[u],[]⟩ [(x,u)]) /\
    ∀base:Heap,(K w.params).In base->base.Ns ZyK mg->BMod base mg->Zds l.prog w (K w.params) mg base CX0 k fa fd [x] (sp w))
  (hsp:∀(w:World) (H:Hp) (a:Addr) (ns:List Int),ns.length<=n->ZmL (tabs.map (·.2)) H->SqL (K w.params) H a (ns.map V.int)->sp w [.ref a] H (λv _=>v=.bl true) λ_ _ _=>False) :
  PySem.W.WalkO q loose XP YP l.row.toRowW d [] (λf vs=>PySem.call f vs):=by
 refine Att.ZpE hn hdf λw s₀ s₁ mg mb fa o pm cd doc a vs ns G Y ho hd hcd hmg hobj hints hlen hg=>?_;have KX:=hY w _ Y;obtain⟨fd,hb,hF⟩:=F w mg fa _ KX G.T.g hmg;exact Zrv (λq hq=>⟨(hT w q hq).1,(hT w q hq).2,hYT w _ Y q hq⟩) KX G.T.g G.T.b G.T.builtins G.T.nolimit hg hobj hints (ZyO hlen hn2) hr G.T.bmain hF hb λH hO hS=>hsp w H a ns hlen hO hS
end HP
namespace HP
open PySem PySem.Spec PyProof.Rows L2
def ZwZ:Stmt->Option (Arguments × Expr × Scope)
 | .Return (some (.Call _ [_,.Lambda a b s _] _ _)) _=>some (a,b,s)
 | .Assign _ (.Call _ [_,.Lambda a b s _] _ _) _=>some (a,b,s)
 | _=>none
def Zk3(st:Stmt):Arguments × Expr × Scope:=((ZaR st).findSome? ZwZ).getD default
abbrev Zwb(st:Stmt):Arguments:=(Zk3 st).1
abbrev Ztd(st:Stmt):Expr:=(Zk3 st).2.1
abbrev Zlu(st:Stmt):Scope:=(Zk3 st).2.2
theorem ZvX{P:Program}{w:World}{K:Zx0}{mg:Str->Option Value}{base:Heap}{A:Around}{outer:List Env}{s:Shared}{F H:Hp}{p:Addr}{params:Arguments}{body:Expr}{scope:Scope}{names:List Str}{cs:List PyData}
  (C:Clo K F p params body scope names cs) (e0:ZeO P w K mg base A outer s H) (sub:Zq F H):ZCO p s.heap:=by
 obtain⟨qual,pm,ctv,c,oc,clos,h1,_⟩:=C.ex;exact⟨_,_,_,_,Zcq (e0.hok p _ (sub _ _ h1))⟩
section
variable[FX]
theorem ZvM{K:Zx0}{M:List PyData->Option PyData}{H:Hp}{a:Addr}{ns:List Int}{tabs:List Addr}(hO:ZmL tabs H)(ht:∀T q,(T,q)∈FX.tl->T∈tabs)(hS:SqL K H a (ns.map V.int))(hM:M [.list (HM.ofInts ns)]=some (.bool true)) :
  spD K 1 M [.ref a] H (λv _=>v=.bl true) λ_ _ _=>False:=by
 refine⟨Zcy H,[.list (HM.ofInts ns)],.bool true,rfl,ZiS,λT q hT=>⟨#[],hO.2 T (ht T q hT),trivial,λpos c hc=>by cases hc⟩,.drop,.one (Rep.drop (.lst hS (Zfd (K:=K) (F:=H) ns).1 (Zfd ns).2)),hM,λv F1 H1 _ r=>r.bool_inv⟩
end
end HP
namespace HM
open PySem
theorem ZbB{α:Type}{c:TF}{e:EF}{r:Env}(g:α->D)(p:α->Bool)(f:α->D):∀(xs:List α),(∀x∈xs,c (some (.pl (g x))::r)=some (p x))->(∀x∈xs,p x=true->e (some (.pl (g x))::r)=some (f x))->Zay c e r (xs.map g)=some ((xs.filter p).map f)
 | [],_,_=>rfl
 | x::xs,h1,h2=>by
  have ih:=ZbB g p f xs (λy hy=>h1 y (Zx4 _ hy)) (λy hy=>h2 y (Zx4 _ hy));have hc:=h1 x (Zx3 ..);rw[Zx6];unfold Zay;rw[hc];cases hp:p x with
  | true=>have he:=h2 x (Zx3 ..) hp;dsimp only;rw[he];dsimp only;rw[ih,ZCe hp];rfl
  | false=>dsimp only;rw[ih,ZCf (by simp[hp])]
theorem ZbC{α:Type}{e:EF}{r:Env}(g:α->D)(f:α->D)(xs:List α)(h:∀x∈xs,e (some (.pl (g x))::r)=some (f x)):Zay Zaj e r (xs.map g)=some (xs.map f):=by rw[ZbB g (λ_=>true) f xs (λ_ _=>rfl) λx hx _=>h x hx,ZAo.mpr λ_ _=>rfl]
theorem Zjp{α:Type}{i:Nat}{body:SF}(g:α->D)(P:List α->Env->Prop)(xs:List α)(r:Env)(h0:P [] r)
  (hs:∀pre x post r,xs=pre++x::post->P pre r->∃r',body (r.set i (some (.pl (g x))))=some (.nx r')/\P (pre++[x]) r'):∃r',Z2 i body (xs.map g) r=some (.nx r')/\P xs r':=by
 have key:∀(post pre:List α) (r:Env),xs=pre++post->P pre r->∃r',Z2 i body (post.map g) r=some (.nx r')/\P xs r':=by
  intro post
  induction post with
  | nil=>intro pre r e h; rw[ZyJ]at e; subst e; exact⟨r,rfl,h⟩
  | cons x post ih=>intro pre r e h;obtain⟨r1,h1,h2⟩:=hs pre x post r e h;obtain⟨r2,h3,h4⟩:=ih (pre++[x]) r1 (by rw[e,Zzh]; rfl) h2;refine⟨r2,?_,h4⟩;rw[Zx6];unfold Z2;rw[h1];exact h3
 exact key xs [] r rfl h0
def ZvO{α S:Type}(q:S->α->Bool)(step:S->α->S):S->List α->Bool
 | _,[]=>true
 | s,x::xs=>q s x&&ZvO q step (step s x) xs
abbrev dI(i:Int):D:=ZyG i
abbrev dN(k:Nat):D:=ZyG (k:Int)
theorem ZfB(ns:List Int):ofInts ns=ns.map dI:=rfl
theorem Zaa(n:Nat):ZbS 0 n=(Zx8 n).map dN:=by unfold ZbS;refine Zzx λk _=>?_;show ZyG (0+(k:Int))=ZyG (k:Int);rw[Int.zero_add]
theorem Zcu(ns:List Int):ZaI (ns.map dI)=some ns:=by
 induction ns with
 | nil=>rfl
 | cons n ns ih=>show(ZaI (ns.map dI)).map (n::·)=_; rw[ih]; rfl
theorem Zfz(bs:List Bool):Ze8 (bs.map λb=>Zzt b)=some bs:=by
 induction bs with
 | nil=>rfl
 | cons b bs ih=>show(Ze8 (bs.map λb=>Zzt b)).map (b::·)=_; rw[ih]; rfl
abbrev tupI(ns:List Int):D:=ZyT (ns.map dI)
theorem Zc7{ds:List D}{j:Nat}{d:D}(h:ds[j]?=some d):atD ds (j:Int)=some d:=by have hj:j<ds.length:=(Zyd.mp h).1;unfold atD ixN;rw[if_pos (by omega),if_pos (by omega)];simpa using h
theorem Zjk{ds:List D}{i:Int}{d:D}(h0:0<=i)(h:ds[i.toNat]?=some d):atD ds i=some d:=by
 have e:i=((i.toNat:Nat):Int):=by omega
 rw[e]; exact Zc7 (by simpa using h)
@[simp] theorem ZxT(d:D)(r:List D):atD (d::r) 0=some d:=Zc7 (j:=0) rfl
@[simp] theorem ZxS(a d:D)(r:List D):atD (a::d::r) 1=some d:=Zc7 (j:=1) rfl
@[simp] theorem ZxU(a b d:D)(r:List D):atD (a::b::d::r) 2=some d:=Zc7 (j:=2) rfl
@[simp] theorem ZxW(a b c d:D)(r:List D):atD (a::b::c::d::r) 3=some d:=Zc7 (j:=3) rfl
@[simp] theorem ZxV(a b c e d:D)(r:List D):atD (a::b::c::e::d::r) 4=some d:=Zc7 (j:=4) rfl
theorem ZxE(i j:Int)(h:(ZY i||ZY j)=true):Zdc (.int i) (.int j)=some (.int (i*j)):=by show(if ZY i||ZY j then some (ZyG (i*j))else none)=_;rw[if_pos h]
@[simp] theorem Zxv:ZY 7=true:=rfl
@[simp] theorem Zxg:ZY 11=true:=rfl
@[simp] theorem Zw5:ZY 13=true:=rfl
@[simp] theorem Zxh:ZY 17=true:=rfl
@[simp] theorem Zxj:ZY 19=true:=rfl
@[simp] theorem Zxa:ZY 23=true:=rfl
@[simp] theorem Zw8:ZY 29=true:=rfl
@[simp] theorem Zw7:ZY 31=true:=rfl
@[simp] theorem Zw9:ZY 37=true:=rfl
@[simp] theorem Zxe:ZY 41=true:=rfl
@[simp] theorem Zxc:ZY 43=true:=rfl
@[simp] theorem Zxd:ZY 47=true:=rfl
@[simp] theorem Zxb:ZY 53=true:=rfl
@[simp] theorem Zw4:ZY 59=true:=rfl
@[simp] theorem Zw6:ZY 61=true:=rfl
@[simp] theorem Zw3:ZY 67=true:=rfl
@[simp] theorem Zxf:ZY 71=true:=rfl
@[simp] theorem Zxi:ZY 73=true:=rfl
@[simp] theorem ZvP:ZY 48271=true:=rfl
@[simp] theorem Zxx:ZY 2=true:=rfl
@[simp] theorem ZxD:ZY 3=true:=rfl
@[simp] theorem ZxB:ZY 5=true:=rfl
theorem ZiB{i:Int}(h1:-1000000000<i)(h2:i<1000000000):ZY i=true:=by
 unfold ZY;have:i.natAbs<18446744073709551616:=by omega
 exact ZAX.mpr this
theorem Zc4{n:Nat}(h:n<1000000):okR (n:Int)=true:=ZAX.mpr (by omega)
@[simp] theorem ZwV(i:Int):Zad (.int i)=true:=rfl
@[simp] theorem Zwz(i:Bool):Zad (.bool i)=true:=rfl
@[simp] theorem ZwA:Zad .none=true:=rfl
@[simp] theorem ZxQ(i j:Int):Zy4 (.int i) (.int j)=(i==j):=rfl
structure Wk where
 many:Nat
 deeds:List (List (List Int))
 looks:List (List Int)
 beg:List Int
 goal:List Int
def ZP(dd:List (List Int)):D:=.tuple (dd.map tupI)
def Wk.d(w:Wk):D:=.tuple [.int w.many,.tuple (w.deeds.map ZP),.tuple (w.looks.map tupI),tupI w.beg,tupI w.goal]
def Cr(n:Nat)(c:List Int):Prop:=c.Pairwise (· < ·)/\∀x∈c,0<=x/\x<(n:Int)
structure Wk.Ok(w:Wk):Prop where
 m1:2<=w.many
 m2:w.many<=5
 d1:1<=w.deeds.length
 d2:w.deeds.length<=3
 dl:∀dd∈w.deeds,dd.length=w.many
 dc:∀dd∈w.deeds,∀c∈dd,Cr w.many c
 l2:w.looks.length<=3
 ll:∀l∈w.looks,l.length=w.many
 lc:∀l∈w.looks,∀x∈l,0<=x/\x<=9
 b1:w.beg≠[]
 bc:Cr w.many w.beg
 g1:w.goal≠[]
 gc:Cr w.many w.goal
theorem Cr.len{n:Nat}:∀{c:List Int},Cr n c->c.length<=n:=by
 have key:∀(c:List Int) (l:Int),c.Pairwise (· < ·)->(∀x∈c,l<=x/\x<(n:Int))->(c.length:Int)<=max 0 ((n:Int)-l):=by
  intro c
  induction c with
  | nil=>intro l _ _; simp; omega
  | cons x c ih=>intro l hp hb;have h1:=hb x (Zx3 ..);have h2:=ih (x+1) (ZyQ.mp hp).2 λy hy=>⟨by have:=(ZyQ.mp hp).1 y hy; omega,(hb y (Zx4 _ hy)).2⟩;rw[Zyg];omega
 intro c h;have:=key c 0 h.1 h.2;omega
theorem sortI_perm(ns:List Int):(sortI ns).Perm ns:=ZAL ns _
theorem Ztc(ns:List Int):(sortI ns).Pairwise (·<=·):=by have h:=ZAs (le:=λa b:Int=>decide (a<=b)) (λa b c h1 h2=>by simp at *; omega) (λa b=>by simp; omega) ns;exact h.imp λh=>by simpa using h
theorem ZjN:∀{ns:List Int},ns.Pairwise (·<=·)->ns.Nodup->ns.Pairwise (· < ·)
 | [],_,_=>.nil
 | n::ns,h,hn=>by obtain⟨h1,h2⟩:=ZyQ.mp h;obtain⟨n1,n2⟩:=ZyV.mp hn;refine ZyQ.mpr ⟨λx hx=>?_,ZjN h2 n2⟩;have:=h1 x hx;have:n≠x:=λe=>n1 (e▸hx);omega
theorem Zh4{n:Nat}{ns:List Int}(hn:ns.Nodup)(hb:∀x∈ns,0<=x/\x<(n:Int)):Cr n (sortI ns) :=
 ⟨ZjN (Ztc ns) ((sortI_perm ns).nodup_iff.mpr hn),λx hx=>hb x ((sortI_perm ns).mem_iff.mp hx)⟩
theorem ZhM(ns:List Int)(h:ns.length<64):ZdF (ns.map dI)=some ((sortI ns).map dI):=by unfold ZdF;rw[if_pos (by rw[Zx1]; exact h),Zcu];rfl
theorem Ze9:∀(ns acc:List Int) (x:Int),x∈dedup acc ns↔x∈acc\/x∈ns
 | [],acc,x=>by simp[dedup]
 | n::ns,acc,x=>by
  unfold dedup;split
  ·rename_i h
   have h':n∈acc:=by simpa using h
   rw[Ze9 ns acc x]
   constructor
   ·rintro (h | h)
    ·exact .inl h
    ·exact .inr (Zx4 _ h)
   ·rintro (h | h)
    ·exact .inl h
    ·rcases Zyo.mp h with e | e
     ·exact .inl (e▸h')
     ·exact .inr e
  ·rw[Ze9 ns _ x,Zyy,Zym,Zyo]
   constructor
   ·rintro ((h | h) | h)
    ·exact .inl h
    ·exact .inr (.inl h)
    ·exact .inr (.inr h)
   ·rintro (h | h | h)
    ·exact .inl (.inl h)
    ·exact .inl (.inr h)
    ·exact .inr h
theorem Ze4:∀(ns acc:List Int),acc.Nodup->(dedup acc ns).Nodup
 | [],acc,h=>h
 | n::ns,acc,h=>by
  unfold dedup;split
  ·exact Ze4 ns acc h
  ·rename_i hc
   have hc':n ∉ acc:=by simpa using hc
   refine Ze4 ns _ ?_;rw[ZAe];exact⟨h,by simp,λa ha b hb=>by simp at hb; subst hb; exact λe=>hc' (e▸ha)⟩
end HM
namespace HG
open PySem HM
def Zif:SF :=
 (Zr (sIf (tOr (tV (Zft (Zc 0) .bool)) (ZeS (tV (Zft (Zc 0) .int)))) (ZC (eC (.bool false))) ZaD)
  (ZC (Zkv gLe gLe (Zc 1) (Zc 0) (Zc 2))))
def Za1:List D->Option D:=fnOf 3 3 Zif
def ZlC:SF :=
 (ZC (Zgi (Zft (Zc 0) .tuple) (Zkv gLe gLe (Zc 1) (Za8 (Zo 0)) (Zc 2))))
def ZaX:List D->Option D:=fnOf 3 3 ZlC
def Zaw:SF :=
 (Zr (sIf (ZeS (tV (Zl Za1 (Zd (Zc 3) (Zd (Zc 2) (Zd (op2 Zld (Zc 1) (eC (.int 1))) Zn)))))) (ZC (eC (.bool false))) ZaD)
  (Z9 2 (op2 Zbo (Zc 3) (eC (.int 1)))))
def Zef:SF :=
 (Zr (sIf (ZeS (tV (Zft (Zc 0) .tuple))) (ZC (eC (.bool false))) ZaD)
  (Zr (Z9 2 (eC (.int 0)))
  (Zr (Zbd 3 (Zah (bOf (Zc 0))) Zaw)
  (ZC (eC (.bool true))))))
def Z6:List D->Option D:=fnOf 2 4 Zef
def Zhn:SF :=
 (ZC (Zgi (Zl ZaX (Zd (Zc 0) (Zd (Zc 1) (Zd (Zc 1) Zn)))) (ZiK (ZM (Zah (bOf (Zc 0))) Zaj (Zl Z6 (Zd (Zc 0) (Zd (Zc 2) Zn)))))))
def Zcj:List D->Option D:=fnOf 2 2 Zhn
def Zho:SF :=
 (ZC (Zgi (Zl ZaX (Zd (Zc 0) (Zd (Zc 1) (Zd (Zc 1) Zn)))) (ZiK (ZM (Zah (bOf (Zc 0))) Zaj (Zl Za1 (Zd (Zc 0) (Zd (eC (.int 0)) (Zd (eC (.int 9)) Zn))))))))
def Zck:List D->Option D:=fnOf 2 2 Zho
def Zig:SF :=
 (ZC (Zgi (Zl ZaX (Zd (Zc 0) (Zd (eC (.int 1)) (Zd (eC (.int 5)) Zn)))) (ZiK (ZM (Zah (bOf (Zc 0))) Zaj (Zl Zcj (Zd (Zc 0) (Zd (Zc 2) Zn)))))))
def ZcA:List D->Option D:=fnOf 2 2 Zig
def Zih:SF :=
 (ZC (Zgi (Zl ZaX (Zd (Zc 0) (Zd (eC (.int 0)) (Zd (eC (.int 4)) Zn)))) (ZiK (ZM (Zah (bOf (Zc 0))) Zaj (Zl Zck (Zd (Zc 0) (Zd (Zc 2) Zn)))))))
def ZcB:List D->Option D:=fnOf 2 2 Zih
def ZjA:SF :=
 (ZC (Zgi (Zl Z6 (Zd (Zc 0) (Zd (Zc 1) Zn))) (op2 gGt (Za8 (Zo 0)) (eC (.int 0)))))
def ZcV:List D->Option D:=fnOf 2 2 ZjA
def Zii:SF :=
 (Zr (sIf (tOr (ZeS (tV (Zl ZaX (Zd (Zc 0) (Zd (eC (.int 5)) (Zd (eC (.int 5)) Zn)))))) (ZeS (tV (Zl Za1 (Zd (eIx (Zo 0) (eC (.int 0))) (Zd (eC (.int 1)) (Zd (eC (.int 8)) Zn))))))) (ZC (eC (.bool false))) ZaD)
  (Zr (Z9 1 (eIx (Zo 0) (eC (.int 0))))
  (Zr (sIf (tOr (ZeS (tV (Zl ZcA (Zd (eIx (Zo 0) (eC (.int 1))) (Zd (Zc 1) Zn))))) (ZeS (tV (Zl ZcB (Zd (eIx (Zo 0) (eC (.int 2))) (Zd (Zc 1) Zn)))))) (ZC (eC (.bool false))) ZaD)
  (ZC (Zgi (Zl ZcV (Zd (eIx (Zo 0) (eC (.int 3))) (Zd (Zc 1) Zn))) (Zl Z6 (Zd (eIx (Zo 0) (eC (.int 4))) (Zd (Zc 1) Zn))))))))
def ZcC:List D->Option D:=fnOf 1 2 Zii
def ZjB:SF :=
 (ZC (eIx (Zo 0) (eC (.int 1))))
def Zbf:List D->Option D:=fnOf 1 1 ZjB
def ZjC:SF :=
 (ZC (eIx (Zo 0) (eC (.int 2))))
def ZbX:List D->Option D:=fnOf 1 1 ZjC
def Zkl:SF :=
 (Zr (sIf (ZeS (tV (Zl ZcC (Zd (Zc 0) Zn)))) Zns ZaD)
  (ZC (Zc 0)))
def ZbE:List D->Option D:=fnOf 1 1 Zkl
def ZfN:SF :=
 (Zr (sIf (ZeS (tV (Zl Z6 (Zd (Zc 1) (Zd (Za8 (bOf (Zl ZbX (Zd (Zc 0) Zn)))) Zn))))) Zns ZaD)
  (ZC (Zc 1)))
def Zae:List D->Option D:=fnOf 2 2 ZfN
def Zkm:SF :=
 (ZC (ZaC (ZM (Zah (bOf (Zc 1))) Zaj (eIx (bOf (eIx (bOf (Zl ZbX (Zd (Zc 1) Zn))) (Zc 0))) (Zc 3)))))
def Zdv:List D->Option D:=fnOf 3 3 Zkm
def Zg8:SF :=
 (Zr (Z9 3 (eIx (bOf (Zl Zbf (Zd (Zc 0) Zn))) (Zc 2)))
  (ZC (ZiK (ZM (Zah (bOf (Zc 1))) Zaj (op2 gGt (Za8 (bOf (eIx (Zo 4) (Zc 0)))) (eC (.int 0)))))))
def Zb3:List D->Option D:=fnOf 3 4 Zg8
def Zh7:SF :=
 (ZC (eOf (ZM (Zcs (Za8 (bOf (Zl Zbf (Zd (Zc 0) Zn))))) (tV (Zl Zb3 (Zd (Zc 1) (Zd (Zc 2) (Zd (Zc 0) Zn))))) (Zc 0))))
def Zcf:List D->Option D:=fnOf 2 2 Zh7
def Zeg:SF :=
 (ZgU 4 (Zc 6) (eC (.bool true)))
def Zeh:SF :=
 (Zbd 6 (Zah (bOf (eIx (Zo 3) (Zc 5)))) Zeg)
def ZlD:SF :=
 (Zr (Z9 3 (eIx (bOf (Zl Zbf (Zd (Zc 0) Zn))) (Zc 2)))
  (Zr (ZQ 4 fDk)
  (Zr (Zbd 5 (Zah (bOf (Zc 1))) Zeh)
  (ZC (ZaC (Zc9 (Zo 4)))))))
def Zdg:List D->Option D:=fnOf 3 7 ZlD
def Zei:SF :=
 (Zol 3 (Zl Zdv (Zd (Zc 0) (Zd (Zc 1) (Zd (Zc 4) Zn)))) (Zc 4))
def ZlE:SF :=
 (Zr (ZQ 3 ZsW)
  (Zr (Zbd 4 (Zah (bOf (Zc 2))) Zei)
  (ZC (eOf (ZM (Zah (bOf (eOf (Zc9 (Zo 3))))) Zaj (ZeR (Zd (Zc 0) (Zd (ZaC (Zox 4 (Zc 0))) Zn))))))))
def ZaK:List D->Option D:=fnOf 3 5 ZlE
def ZjD:SF :=
 (Zr (sIf (tV (op2 gLt (Zc 1) (Za8 (Zo 0)))) (ZC (eIx (Zo 0) (Zc 1))) ZaD)
  (ZC (eC (.int 0))))
def Zaf:List D->Option D:=fnOf 2 2 ZjD
def Zkn:SF :=
 (ZC (op2 ZtO (op2 ZtO (op2 Zdc (Zc 0) (eC (.int 48271))) (Zc 1)) (Zc 2)))
def ZK:List D->Option D:=fnOf 3 3 Zkn
def ZfO:SF :=
 (Zr (ZQ 3 (ZM (Zcs (Zc 1)) (tV (op2 gLt (Zl ZK (Zd (op2 Zbo (op2 Zbo (Zc 1) (op2 Zdc (op2 Zdc (eC (.int 31)) (Zc 0)) (Zc 0))) (op2 Zdc (eC (.int 7)) (Zc 0))) (Zd (eC (.int 9973)) (Zd (eC (.int 5)) Zn)))) (eC (.int 2)))) (Zc 0)))
  (Zr (sIf (tV (op2 gLt (Za8 (Zo 3)) (Zc 2))) (ZQ 3 (ZeC (Zd (Zl ZK (Zd (Zc 0) (Zd (eC (.int 9967)) (Zd (Zc 1) Zn)))) Zn))) ZaD)
  (ZC (ZaC (Zo 3)))))
def ZbI:List D->Option D:=fnOf 3 4 ZfO
def Zb6:SF :=
 (Zr (Z9 4 (op2 Zbo (op2 Zbo (Zc 0) (op2 Zdc (op2 Zdc (eC (.int 43)) (Zc 3)) (Zc 3))) (op2 Zdc (eC (.int 11)) (Zc 3))))
  (Zr (Z9 5 (Zl ZK (Zd (Zc 4) (Zd (eC (.int 9949)) (Zd (eC (.int 10)) Zn)))))
  (Zr (ZQ 6 (Zok (Zl ZK (Zd (Zc 4) (Zd (eC (.int 9941)) (Zd (Zc 1) Zn)))) (eC (.bool true))))
  (Zr (sIf (tV (op2 gLt (Zc 5) (eC (.int 3)))) (ZgU 6 (Zl ZK (Zd (Zc 4) (Zd (eC (.int 9931)) (Zd (Zc 1) Zn)))) (eC (.bool true))) ZaD)
  (Zr (Zed 2 (ZaC (Zc9 (Zo 6))))
  (sIf (tV (op2 gEq (Zc 5) (eC (.int 9)))) (ZqF 2 (eC (.int (-1))) (ZeR Zn)) ZaD))))))
def ZjE:SF :=
 (Zr (ZQ 2 (ZeC Zn))
  (Zr (Zbd 3 (Zcs (Zc 1)) Zb6)
  (ZC (ZaC (Zo 2)))))
def ZcW:List D->Option D:=fnOf 2 7 ZjE
def Zdh:SF :=
 (Zr (Z9 5 (op2 Zwk (op2 Zld (Zc 4) (eC (.int 1))) (eC (.int 0))))
  (Zr (Z9 6 (op2 Zwe (op2 Zbo (Zc 4) (eC (.int 1))) (op2 Zld (Zc 1) (eC (.int 1)))))
  (Zr (Z9 7 (op2 gEq (Zl ZK (Zd (op2 Zbo (Zc 0) (op2 Zdc (eC (.int 17)) (Zc 4))) (Zd (eC (.int 9929)) (Zd (eC (.int 6)) Zn)))) (eC (.int 1))))
  (Zr (Zed 2 (ZaC (ZfF (Zlb (ZeC (Zd (Zc 5) Zn)) (Ztb (ZeC (Zd (Zc 4) Zn)) (Zn1 (Zc 7)))))))
  (Zed 3 (ZeR (Zd (Zc 6) Zn)))))))
def ZjF:SF :=
 (Zr (ZQ 2 (ZeC Zn))
  (Zr (ZQ 3 (ZeC Zn))
  (Zr (Zbd 4 (Zcs (Zc 1)) Zdh)
  (ZC (ZeR (Zd (ZaC (Zo 2)) (Zd (ZaC (Zo 3)) Zn)))))))
def ZcX:List D->Option D:=fnOf 2 8 ZjF
def ZcR:SF :=
 (Zr (Z9 7 (op2 Zbo (Zl Zaf (Zd (Zc 0) (Zd (op2 Zbo (op2 Zbo (Zc 1) (eC (.int 4))) (Zc 5)) Zn))) (op2 Zdc (eC (.int 71)) (Zc 5))))
  (Zr (Z9 8 (op2 Zbo (eC (.int 2)) (Zl ZK (Zd (Zc 7) (Zd (eC (.int 9883)) (Zd (eC (.int 2)) Zn))))))
  (Zed 6 (ZaC (ZM (Zcs (Zc 3)) Zaj (Zl ZK (Zd (op2 Zbo (Zc 8) (op2 Zdc (op2 Zdc (eC (.int 13)) (Zc 0)) (Zc 0))) (Zd (eC (.int 9871)) (Zd (Zc 9) Zn)))))))))
def ZdQ:SF :=
 (Zed 4 (Zl ZcW (Zd (op2 Zbo (Zl Zaf (Zd (Zc 0) (Zd (op2 Zbo (op2 Zbo (Zc 1) (eC (.int 1))) (Zc 5)) Zn))) (op2 Zdc (eC (.int 61)) (Zc 5))) (Zd (Zc 3) Zn))))
def Zdi:SF :=
 (Zr (Z9 2 (Zl Zaf (Zd (Zc 0) (Zd (Zc 1) Zn))))
  (Zr (Z9 3 (op2 Zbo (eC (.int 2)) (Zl ZK (Zd (Zc 2) (Zd (eC (.int 9923)) (Zd (eC (.int 4)) Zn))))))
  (Zr (sIf (tV (op2 gGt (Za8 (Zo 0)) (eC (.int 63)))) (Z9 3 (op2 Zbo (eC (.int 2)) (Zl ZK (Zd (Zc 2) (Zd (eC (.int 9923)) (Zd (eC (.int 6)) Zn)))))) ZaD)
  (Zr (ZQ 4 (ZeC Zn))
  (Zr (Zbd 5 (Zcs (op2 Zbo (eC (.int 1)) (Zl ZK (Zd (Zc 2) (Zd (eC (.int 9907)) (Zd (eC (.int 3)) Zn)))))) ZdQ)
  (Zr (sIf (tV (op2 gEq (Zl ZK (Zd (Zc 2) (Zd (eC (.int 9901)) (Zd (eC (.int 3)) Zn)))) (eC (.int 1)))) (ZQ 4 (Zlb (Zhl (bOf (Zl ZcX (Zd (Zl Zaf (Zd (Zc 0) (Zd (op2 Zbo (Zc 1) (eC (.int 1))) Zn))) (Zd (Zc 3) Zn))))) (ZtC (Zo 4) none (some (eC (.int 1)))))) ZaD)
  (Zr (ZQ 6 (ZeC Zn))
  (Zr (Zbd 5 (Zcs (Zl ZK (Zd (Zc 2) (Zd (eC (.int 9887)) (Zd (eC (.int 4)) Zn))))) ZcR)
  (Zr (Z9 9 (Zl ZbI (Zd (Zl Zaf (Zd (Zc 0) (Zd (op2 Zbo (Zc 1) (eC (.int 7))) Zn))) (Zd (Zc 3) (Zd (eC (.int 1)) Zn)))))
  (Zr (sIf (tV (op2 gEq (Zl ZK (Zd (Zc 2) (Zd (eC (.int 9859)) (Zd (eC (.int 3)) Zn)))) (eC (.int 1)))) (Z9 9 (Zke (Zcs (Zc 3)))) ZaD)
  (Zr (Z9 10 (Zl ZbI (Zd (Zl Zaf (Zd (Zc 0) (Zd (op2 Zbo (Zc 1) (eC (.int 8))) Zn))) (Zd (Zc 3) (Zd (eC (.int 1)) Zn)))))
  (ZC (ZeR (Zd (Zc 3) (Zd (ZaC (Zo 4)) (Zd (ZaC (Zo 6)) (Zd (Zc 9) (Zd (Zc 10) Zn))))))))))))))))))
def Za2:List D->Option D:=fnOf 2 11 Zdi
def Zij:SF :=
 (ZC (ZaC (ZM (Zcs (Za8 (bOf (eIx (Zo 0) (eC (.int 2)))))) (tV (op2 gGt (Zl ZK (Zd (op2 Zbo (Zc 2) (op2 Zdc (eC (.int 19)) (Zc 0))) (Zd (eC (.int 9857)) (Zd (eC (.int 4)) Zn)))) (eC (.int 0)))) (Zc 0))))
def ZcD:List D->Option D:=fnOf 2 2 Zij
def Za3:SF :=
 (Zr (sIf (tV (op2 gEq (eIx (bOf (eIx (bOf (eIx (Zo 0) (eC (.int 1)))) (Zc 2))) (Zc 4)) (ZeR Zn))) (ZC (eC .none)) ZaD)
  (ZQ 3 (Zlb (Zo 3) (Zhl (bOf (eIx (bOf (eIx (bOf (eIx (Zo 0) (eC (.int 1)))) (Zc 2))) (Zc 4)))))))
def Zhp:SF :=
 (Zr (ZQ 3 (ZeC Zn))
  (Zr (Zbd 4 (Zah (bOf (Zc 1))) Za3)
  (ZC (ZaC (ZfF (Zo 3))))))
def ZbT:List D->Option D:=fnOf 3 5 Zhp
def Zcg:SF :=
 (Zr (Z9 5 (ZaC (ZM (Zah (bOf (Zc 1))) Zaj (eIx (bOf (eIx (bOf (eIx (Zo 1) (eC (.int 2)))) (Zc 0))) (Zc 5)))))
  (Zr (sIf (tV (Zkx (Zc 5) (Zo 3))) (Zlv 3 (Zc 5)) ZaD)
  (ZoN 3 (Zc 5) (Zc 4))))
def Zik:SF :=
 (Zr (ZQ 3 ZsW)
  (Zr (Zbd 4 (Zah (bOf (Zc 2))) Zcg)
  (ZC (eOf (ZM (Zah (bOf (eOf (Zc9 (Zo 3))))) Zaj (ZeR (Zd (Zc 0) (Zd (ZaC (Zox 4 (Zc 0))) Zn))))))))
def Zan:List D->Option D:=fnOf 3 6 Zik
end HG
namespace HG
open PySem HM
def Zy(ns:List Int)(k:Nat):Int:=if k<ns.length then ns.getD k 0 else 0
theorem Zd6(ns:List Int)(k:Nat):Zaf [.list (ns.map dI),.int k]=some (.int (Zy ns k)):=by
 simp[Zaf,ZjD,Zy]
 by_cases h:k<ns.length
 ·have h':(k:Int)<(ns.length:Int):=by omega
  have e:atD (ns.map dI) (k:Int)=some (.int ns[k]):=Zc7 (by simp[h]);simp[h,h',e]
 ·have h':¬(k:Int)<(ns.length:Int):=by omega
  simp[h,h']
def ZX(c p m:Int):Int:=c*48271 % p % m
theorem Zcr(c p m:Int)(hp:0<p)(hm:0<m):ZK [.int c,.int p,.int m]=some (.int (ZX c p m)):=by simp[ZK,Zkn,hp,hm,ZX]
theorem ZaP(c p m:Int)(hm:0<m):0<=ZX c p m/\ZX c p m<m:=⟨Int.emod_nonneg _ (by omega),Int.emod_lt_of_pos _ hm⟩
def crP(c:Int)(k:Nat):Bool:=decide (ZX (c+31*(k:Int)*(k:Int)+7*(k:Int)) 9973 5<2)
def crF(c:Int)(n:Nat):List Int:=((Zx8 n).filter (crP c)).map λ(k:Nat)=>(k:Int)
def crV(c:Int)(n:Nat):List Int:=if(crF c n).length<1 then[ZX c 9967 n]else crF c n
theorem ZhL(n:Nat)(p:Nat->Bool):Cr n (((Zx8 n).filter p).map λ(k:Nat)=>(k:Int)):=by
 refine⟨?_,λx hx=>?_⟩
 ·rw[ZBX]
  refine List.Pairwise.imp (λ{a b} h=>?_) (List.Pairwise.filter p ZCs);omega
 ·obtain⟨k,hk,rfl⟩:=Zyf.mp hx
  have:=Zyq.mp (Zyx.mp hk).1;omega
theorem ZrX(c:Int)(n:Nat)(hn:0<n):Cr n (crV c n)/\crV c n≠[]:=by
 unfold crV;split
 ·refine⟨⟨by simp,λx hx=>?_⟩,by simp⟩
  have e:x=ZX c 9967 n:=by simpa using hx
  rw[e];have:=ZaP c 9967 n (by omega);omega
 ·rename_i h
  exact⟨ZhL n _,λe=>h (by rw[e]; simp)⟩
theorem Zn6(c:Int)(n:Nat)(hn:0<n)(hb:n<1000):ZbI [.int c,.int n,.int 1]=some (tupI (crV c n)):=by
 have hn':(0:Int)<(n:Int):=by omega
 have key:Zay (tV (op2 gLt (Zl ZK (Zd (op2 Zbo (op2 Zbo (Zc 1) (op2 Zdc (op2 Zdc (eC (.int 31)) (Zc 0)) (Zc 0))) (op2 Zdc (eC (.int 7)) (Zc 0))) (Zd (eC (.int 9973)) (Zd (eC (.int 5)) Zn)))) (eC (.int 2)))) (Zc 0)
   [some (.pl (.int c)),some (.pl (.int n)),some (.pl (.int 1)),none] (ZbS 0 n)=some ((crF c n).map dI):=by
  rw[Zaa];rw[ZbB dN (crP c) dN]
  ·unfold crF
   rw[Zyn];rfl
  ·intro k hk
   have hk':=Zyq.mp hk;have s2:ZY (31*(k:Int))=true:=ZiB (by omega) (by omega);simp[Zcr,crP,s2]
  ·intro k hk _
   simp
 have h1:okR (n:Int)=true:=Zc4 (by omega);have h2:(ZbS 0 n).length<1000000:=by rw[Zaa]; simp; omega
 by_cases hl:(crF c n).length<1
 ·have hl':((crF c n).length:Int)<1:=by omega
  have hm:=Zcr c 9967 n (by decide) hn';simp[ZbI,ZfO,h1,h2,key];simp[hl',crV,hl,hm]
 ·have hl':¬((crF c n).length:Int)<1:=by omega
  simp[ZbI,ZfO,h1,h2,key];simp[hl',crV,hl]
def ZsX(c:Int)(n k:Nat):List Int :=
 let s:=c+43*(k:Int)*(k:Int)+11*(k:Int)
 if ZX s 9949 10<3/\ZX s 9941 n≠ZX s 9931 n then[ZX s 9941 n,ZX s 9931 n]else[ZX s 9941 n]
def Zfo(c:Int)(n k:Nat):List Int:=if ZX (c+43*(k:Int)*(k:Int)+11*(k:Int)) 9949 10=9 then[]else sortI (ZsX c n k)
theorem ZuM(c:Int)(n k:Nat)(hn:0<n):Cr n (Zfo c n k):=by
 unfold Zfo;split
 ·exact⟨.nil,λx hx=>by simp at hx⟩
 ·unfold ZsX
  dsimp only;have b1:=ZaP (c+43*(k:Int)*(k:Int)+11*(k:Int)) 9941 n (by omega);have b2:=ZaP (c+43*(k:Int)*(k:Int)+11*(k:Int)) 9931 n (by omega);split
  ·rename_i h
   refine Zh4 (by simp[h.2]) λx hx=>?_;simp at hx;rcases hx with e | e<;>(subst e; assumption)
  ·refine Zh4 (by simp) λx hx=>?_
   simp at hx;subst hx; assumption
theorem ZsV(n:Nat):ixN (n+1) (-1)=some n:=by unfold ixN;rw[if_neg (by decide),if_pos (by omega)];congr 1;omega
theorem Zry(c:Int)(n k:Nat)(rows:List D)(o4 o5 o6:Option B)(hn:0<n)(hk:k<1000)(hl:rows.length<1000) :
  ∃r5 r6 r7,Zb6 [some (.pl (.int c)),some (.pl (.int n)),some (.ol rows),some (.pl (dN k)),o4,o5,o6]=some (.nx [some (.pl (.int c)),some (.pl (.int n)),some (.ol (rows++[tupI (Zfo c n k)])),some (.pl (dN k)),r5,r6,r7]):=by
 have hn':(0:Int)<(n:Int):=by omega
 have s2:ZY (43*(k:Int))=true:=ZiB (by omega) (by omega);have hl':rows.length<1000000:=by omega
 have m1:=Zcr (c+43*(k:Int)*(k:Int)+11*(k:Int)) 9949 10 (by decide) (by decide);have m2:=Zcr (c+43*(k:Int)*(k:Int)+11*(k:Int)) 9941 n (by decide) hn';have m3:=Zcr (c+43*(k:Int)*(k:Int)+11*(k:Int)) 9931 n (by decide) hn';unfold Zfo ZsX;dsimp only;generalize ZX (c+43*(k:Int)*(k:Int)+11*(k:Int)) 9949 10=wy at *;generalize ZX (c+43*(k:Int)*(k:Int)+11*(k:Int)) 9941 n=a at *;generalize ZX (c+43*(k:Int)*(k:Int)+11*(k:Int)) 9931 n=b at *;have t1:ZdF [ZyG a]=some ((sortI [a]).map dI):=ZhM [a] (by simp);have t2:ZdF [ZyG a,ZyG b]=some ((sortI [a,b]).map dI):=ZhM [a,b] (by simp)
 by_cases w3:wy<3
 ·have w9:(wy==9)=false:=by simp; omega
  have w9':¬wy=9:=by omega
  by_cases ab:a=b
  ·subst ab
   simp[Zb6,s2,m1,m2,m3,w3,w9,w9',putD,ZaE,hl',t1]
  ·simp[Zb6,s2,m1,m2,m3,w3,w9,w9',putD,ab,ZaE,hl',t2]
 ·by_cases w9:wy=9
  ·subst w9
   simp[Zb6,s2,m1,m2,putD,ZaE,hl',t1,ZsV]
  ·have w9':(wy==9)=false:=by simp[w9]
   simp[Zb6,s2,m1,m2,w3,w9',w9,putD,ZaE,hl',t1]
theorem ZuW(c:Int)(n:Nat)(hn:0<n)(hb:n<1000):ZcW [.int c,.int n]=some (ZP ((Zx8 n).map λk=>Zfo c n k)):=by
 have h1:okR (n:Int)=true:=Zc4 (by omega);have h2:(ZbS 0 n).length<1000000:=by rw[Zaa]; simp; omega
 obtain⟨r',e1,o3,o4,o5,o6,p1⟩:=Zjp (i:=3) (body:=Zb6) dN (λ(s:List Nat) r=>∃o3 o4 o5 o6,r=[some (.pl (.int c)),some (.pl (.int n)),some (.ol (s.map λk=>tupI (Zfo c n k))),o3,o4,o5,o6]) (Zx8 n)
  [some (.pl (.int c)),some (.pl (.int n)),some (.ol []),none,none,none,none] ⟨none,none,none,none,rfl⟩ (by
   rintro s k post r hxs ⟨o3,o4,o5,o6,rfl⟩
   have hk':k<n:=Zyq.mp (by rw[hxs]; simp);have hs:s.length<n:=by have:=congrArg ZyN hxs; simp at this; omega
   obtain⟨r5,r6,r7,e⟩:=Zry c n k (s.map λk=>tupI (Zfo c n k)) o4 o5 o6 hn (by omega) (by simp; omega);exact⟨_,e,some (.pl (dN k)),r5,r6,r7,by simp⟩)
 subst p1;have hl:n<1000000:=by omega
 simp[ZcW,ZjE,h1,Zaa,hl,e1,ZP]
end HG
namespace HG
open PySem HM
def ahV(k:Nat):Int:=if(0:Int) > (k:Int)-1 then 0 else(k:Int)-1
def beV(n k:Nat):Int:=if(n:Int)-1<(k:Int)+1 then(n:Int)-1 else(k:Int)+1
def wlV(c:Int)(k:Nat):List Int:=sortI (dedup [] (ahV k::(if ZX (c+17*(k:Int)) 9929 6=1 then[(k:Int)]else[])))
theorem Zwa(c:Int)(n k:Nat)(hk:k<n):Cr n (wlV c k):=by
 unfold wlV;have ha:0<=ahV k/\ahV k<n:=by unfold ahV; split<;>omega
 refine Zh4 (Ze4 _ _ (by simp)) λx hx=>?_;rw[Ze9]at hx;rcases hx with h | h
 ·simp at h
 ·rcases Zyo.mp h with e | e
  ·subst e; exact ha
  ·split at e
   ·simp at e; subst e; omega
   ·simp at e
theorem Zvp(n k:Nat)(hk:k<n):Cr n [beV n k]:=by
 have ha:0<=beV n k/\beV n k<n:=by unfold beV; split<;>omega
 exact⟨by simp,λx hx=>by simp at hx; subst hx; exact ha⟩
theorem ZrS(c:Int)(n k:Nat)(ls rs:List D)(o4 o5 o6 o7:Option B)(hk:k<8)(h1:ls.length<1000)(h2:rs.length<1000) :
  ∃r4 r5 r6,Zdh [some (.pl (.int c)),some (.pl (.int n)),some (.ol ls),some (.ol rs),some (.pl (dN k)),o5,o6,o7]=some (.nx [some (.pl (.int c)),some (.pl (.int n)),some (.ol (ls++[tupI (wlV c k)])),some (.ol (rs++[tupI [beV n k]])),some (.pl (dN k)),r4,r5,r6]):=by
 have h1':ls.length<1000000:=by omega
 have h2':rs.length<1000000:=by omega
 have m1:=Zcr (c+17*(k:Int)) 9929 6 (by decide) (by decide);have hk8:k=0\/k=1\/k=2\/k=3\/k=4\/k=5\/k=6\/k=7:=by omega
 have l1:Zq0 [if(k:Int)-1<0 then 0 else(k:Int)-1,(k:Int)]=true:=by rcases hk8 with rfl | rfl | rfl | rfl | rfl | rfl | rfl | rfl<;>rfl
 have l2:Zq0 [if(k:Int)-1<0 then 0 else(k:Int)-1]=true:=by rcases hk8 with rfl | rfl | rfl | rfl | rfl | rfl | rfl | rfl<;>rfl
 unfold wlV;generalize ZX (c+17*(k:Int)) 9929 6=a at *
 by_cases e:a=1
 ·subst e
  simp[Zdh,m1,h1',h2',ahV,beV,ZaI,ZfB,l1]
 ·have e':(a==1)=false:=by simp[e]
  simp[Zdh,m1,h1',h2',ahV,beV,e,e',ZaI,ZfB,l2]
theorem ZuF(c:Int)(n:Nat)(hb:n<=8):ZcX [.int c,.int n]=some (.tuple [ZP ((Zx8 n).map λk=>wlV c k),ZP ((Zx8 n).map λk=>[beV n k])]):=by
 have h1:okR (n:Int)=true:=Zc4 (by omega);obtain⟨r',e1,o4,o5,o6,o7,p1⟩:=Zjp (i:=4) (body:=Zdh) dN (λ(s:List Nat) r=>∃o4 o5 o6 o7,r=[some (.pl (.int c)),some (.pl (.int n)),some (.ol (s.map λk=>tupI (wlV c k))),some (.ol (s.map λk=>tupI [beV n k])),o4,o5,o6,o7]) (Zx8 n)
  [some (.pl (.int c)),some (.pl (.int n)),some (.ol []),some (.ol []),none,none,none,none] ⟨none,none,none,none,rfl⟩ (by
   rintro s k post r hxs ⟨o4,o5,o6,o7,rfl⟩
   have hk':k<n:=Zyq.mp (by rw[hxs]; simp);have hs:s.length<n:=by have:=congrArg ZyN hxs; simp at this; omega
   obtain⟨r5,r6,r7,e⟩:=ZrS c n k (s.map λk=>tupI (wlV c k)) (s.map λk=>tupI [beV n k]) o4 o5 o6 o7 (by omega) (by simp; omega) (by simp; omega);exact⟨_,e,some (.pl (dN k)),r5,r6,r7,by simp⟩)
 subst p1;have hl:n<1000000:=by omega
 simp[ZcX,ZjF,h1,Zaa,hl,e1,ZP]
section
variable(ns:List Int)(at_:Nat)
def ZR:Nat:=(2+ZX (Zy ns at_) 9923 4).toNat
def ZbR:List (List (List Int)):=(Zx8 (1+ZX (Zy ns at_) 9907 3).toNat).map λk=>(Zx8 (ZR ns at_)).map λs=>Zfo (Zy ns (at_+1+k)+61*(k:Int)) (ZR ns at_) s
def Zgo:List (List (List Int)) :=
 if ZX (Zy ns at_) 9901 3=1 then[(Zx8 (ZR ns at_)).map λk=>wlV (Zy ns (at_+1)) k,(Zx8 (ZR ns at_)).map λk=>[beV (ZR ns at_) k]]++(ZbR ns at_).take 1 else ZbR ns at_
def ZgC(k:Nat):List Int:=(Zx8 (ZR ns at_)).map λ(s:Nat)=>ZX (Zy ns (at_+4+k)+71*(k:Int)+13*(s:Int)*(s:Int)) 9871 (2+ZX (Zy ns (at_+4+k)+71*(k:Int)) 9883 2)
def Zgq:List (List Int):=(Zx8 (ZX (Zy ns at_) 9887 4).toNat).map (ZgC ns at_)
def ZoI:List Int:=if ZX (Zy ns at_) 9859 3=1 then(Zx8 (ZR ns at_)).map λ(k:Nat)=>(k:Int)else crV (Zy ns (at_+7)) (ZR ns at_)
def Zt1:List Int:=crV (Zy ns (at_+8)) (ZR ns at_)
def wkV:Wk:=⟨ZR ns at_,Zgo ns at_,Zgq ns at_,ZoI ns at_,Zt1 ns at_⟩
theorem Zi5:2<=ZR ns at_/\ZR ns at_<=5:=by have:=ZaP (Zy ns at_) 9923 4 (by decide);unfold ZR; omega
theorem Zux:((ZR ns at_:Nat):Int)=2+ZX (Zy ns at_) 9923 4:=by have:=ZaP (Zy ns at_) 9923 4 (by decide);unfold ZR; omega
theorem ZvH:(wkV ns at_).Ok:=by
 have hm:=Zi5 ns at_;have hd3:=ZaP (Zy ns at_) 9907 3 (by decide);have dk:∀dd∈ZbR ns at_,dd.length=ZR ns at_/\∀c∈dd,Cr (ZR ns at_) c:=by intro dd h;unfold ZbR at h;obtain⟨k,_,rfl⟩:=Zyf.mp h;refine⟨by simp,λc hc=>?_⟩;obtain⟨s,_,rfl⟩:=Zyf.mp hc;exact ZuM _ _ _ (by omega)
 have dv:∀dd∈Zgo ns at_,dd.length=ZR ns at_/\∀c∈dd,Cr (ZR ns at_) c:=by
  intro dd h;unfold Zgo at h;split at h
  ·rcases Zyy.mp h with h | h
   ·simp at h
    rcases h with rfl | rfl
    ·refine⟨by simp,λc hc=>?_⟩
     obtain⟨s,hs,rfl⟩:=Zyf.mp hc;exact Zwa _ _ _ (Zyq.mp hs)
    ·refine⟨by simp,λc hc=>?_⟩
     obtain⟨s,hs,rfl⟩:=Zyf.mp hc;exact Zvp _ _ (Zyq.mp hs)
   ·exact dk dd (List.mem_of_mem_take h)
  ·exact dk dd h
 have lk:(ZbR ns at_).length=(1+ZX (Zy ns at_) 9907 3).toNat:=by unfold ZbR; simp
 have lv:1<=(Zgo ns at_).length/\(Zgo ns at_).length<=3:=by
  unfold Zgo;split
  ·simp; omega
  ·omega
 have hl4:=ZaP (Zy ns at_) 9887 4 (by decide);have lo:∀l∈Zgq ns at_,l.length=ZR ns at_/\∀x∈l,0<=x/\x<=9:=by intro l h;unfold Zgq at h;obtain⟨k,_,rfl⟩:=Zyf.mp h;unfold ZgC;refine⟨by simp,λx hx=>?_⟩;obtain⟨s,_,rfl⟩:=Zyf.mp hx;have h2:=ZaP (Zy ns (at_+4+k)+71*(k:Int)) 9883 2 (by decide);have h3:=ZaP (Zy ns (at_+4+k)+71*(k:Int)+13*(s:Int)*(s:Int)) 9871 (2+ZX (Zy ns (at_+4+k)+71*(k:Int)) 9883 2) (by omega);omega
 have ll:(Zgq ns at_).length<=3:=by unfold Zgq; simp; omega
 have cb:=ZrX (Zy ns (at_+7)) (ZR ns at_) (by omega);have cg:=ZrX (Zy ns (at_+8)) (ZR ns at_) (by omega);have hb:ZoI ns at_≠[]/\Cr (ZR ns at_) (ZoI ns at_):=by
  unfold ZoI;split
  ·refine⟨λe=>?_,?_⟩
   ·have:=congrArg ZyN e
    simp at this;omega
   ·have:=ZhL (ZR ns at_) λ_=>true
    rwa [ZAo.mpr λ_ _=>rfl]at this
  ·exact⟨cb.2,cb.1⟩
 exact⟨hm.1,hm.2,lv.1,lv.2,λdd h=>(dv dd h).1,λdd h=>(dv dd h).2,ll,λl h=>(lo l h).1,λl h=>(lo l h).2,hb.1,hb.2,cg.2,cg.1⟩
theorem ZxF(k:Int)(h:0<=k):Zaf [.list (ns.map dI),.int k]=some (.int (Zy ns k.toNat)):=by
 have:=Zd6 ns k.toNat
 rwa [ZBx h]at this
theorem Zq3(k n:Nat)(c:Option B)(ds:List D)(o6 o7 o8 o9 o10:Option B)(hk:k<1000)(h1:ds.length<1000)(hn:0<n)(hb:n<1000) :
  ZdQ [some (.pl (.list (ns.map dI))),some (.pl (.int at_)),c,some (.pl (.int n)),some (.ol ds),some (.pl (dN k)),o6,o7,o8,o9,o10] =
   some (.nx [some (.pl (.list (ns.map dI))),some (.pl (.int at_)),c,some (.pl (.int n)),some (.ol (ds++[ZP ((Zx8 n).map λs=>Zfo (Zy ns (at_+1+k)+61*(k:Int)) n s)])),some (.pl (dN k)),o6,o7,o8,o9,o10]):=by
 have h1':ds.length<1000000:=by omega
 have hc:=Zd6 ns (at_+1+k);have e:((at_+1+k:Nat):Int)=(at_:Int)+1+(k:Int):=by omega
 rw[e]at hc;have hd:=ZuW (Zy ns (at_+1+k)+61*(k:Int)) n hn hb;simp[ZdQ,hc,hd,h1']
theorem ZqQ(k n:Nat)(c o4:Option B)(ls:List D)(o7 o8 o9 o10:Option B)(hk:k<1000)(h1:ls.length<1000)(hn:n=ZR ns at_) :
  ∃r7 r8,ZcR [some (.pl (.list (ns.map dI))),some (.pl (.int at_)),c,some (.pl (.int n)),o4,some (.pl (dN k)),some (.ol ls),o7,o8,o9,o10] =
   some (.nx [some (.pl (.list (ns.map dI))),some (.pl (.int at_)),c,some (.pl (.int n)),o4,some (.pl (dN k)),some (.ol (ls++[tupI (ZgC ns at_ k)])),r7,r8,o9,o10]):=by
 have hb:=Zi5 ns at_;have h1':ls.length<1000000:=by omega
 have hc:=Zd6 ns (at_+4+k);have e:((at_+4+k:Nat):Int)=(at_:Int)+4+(k:Int):=by omega
 rw[e]at hc;have m1:=Zcr (Zy ns (at_+4+k)+71*(k:Int)) 9883 2 (by decide) (by decide);have b1:=ZaP (Zy ns (at_+4+k)+71*(k:Int)) 9883 2 (by decide);have hok:okR (n:Int)=true:=Zc4 (by omega);have hl:n<1000000:=by omega
 unfold ZgC;rw[<-hn];generalize ZX (Zy ns (at_+4+k)+71*(k:Int)) 9883 2=mo at *;generalize Zy ns (at_+4+k)=cc at *;simp[ZcR,hc,m1,hok,h1',Zaa,hl];rw[ZbC dN λ(s:Nat)=>dI (ZX (cc+71*(k:Int)+13*(s:Int)*(s:Int)) 9871 (2+mo))]
 ·refine⟨some (.pl (.int (cc+71*(k:Int)))),some (.pl (.int (2+mo))),?_⟩
  simp
 ·intro s hs
  have hs':=Zyq.mp hs;have s2:ZY (13*(s:Int))=true:=ZiB (by omega) (by omega);have m2:=Zcr (cc+71*(k:Int)+13*(s:Int)*(s:Int)) 9871 (2+mo) (by decide) (by omega);simp[s2,m2]
theorem ZtJ(h:ns.length<=63):Za2 [.list (ns.map dI),.int at_]=some (wkV ns at_).d:=by
 have hb:=Zi5 ns at_;have hmc:=Zux ns at_;have c0:=Zd6 ns at_;have c1:=Zd6 ns (at_+1);have c7:=Zd6 ns (at_+7);have c8:=Zd6 ns (at_+8);have e1:((at_+1:Nat):Int)=(at_:Int)+1:=by omega
 have e7:((at_+7:Nat):Int)=(at_:Int)+7:=by omega
 have e8:((at_+8:Nat):Int)=(at_:Int)+8:=by omega
 rw[e1]at c1;rw[e7]at c7;rw[e8]at c8;have m4:=Zcr (Zy ns at_) 9923 4 (by decide) (by decide);have m3:=Zcr (Zy ns at_) 9907 3 (by decide) (by decide);have b3:=ZaP (Zy ns at_) 9907 3 (by decide);have mw:=Zcr (Zy ns at_) 9901 3 (by decide) (by decide);have ml:=Zcr (Zy ns at_) 9887 4 (by decide) (by decide);have bl:=ZaP (Zy ns at_) 9887 4 (by decide);have mb:=Zcr (Zy ns at_) 9859 3 (by decide) (by decide);have wk:=ZuF (Zy ns (at_+1)) (ZR ns at_) (by omega);have k7:=Zn6 (Zy ns (at_+7)) (ZR ns at_) (by omega) (by omega);have k8:=Zn6 (Zy ns (at_+8)) (ZR ns at_) (by omega) (by omega);have hlen:¬(63:Int)<(ns.length:Int):=by omega
 have ok3:okR (1+ZX (Zy ns at_) 9907 3)=true:=ZAX.mpr (by omega);have okl:okR (ZX (Zy ns at_) 9887 4)=true:=ZAX.mpr (by omega);have okm:okR ((ZR ns at_:Nat):Int)=true:=Zc4 (by omega);obtain⟨r1,f1,o5,q1⟩:=Zjp (i:=5) (body:=ZdQ) dN (λ(s:List Nat) r=>∃o5,r=[some (.pl (.list (ns.map dI))),some (.pl (.int at_)),some (.pl (.int (Zy ns at_))),some (.pl (.int (ZR ns at_))),
   some (.ol (s.map λk=>ZP ((Zx8 (ZR ns at_)).map λs=>Zfo (Zy ns (at_+1+k)+61*(k:Int)) (ZR ns at_) s))),o5,none,none,none,none,none]) (Zx8 (1+ZX (Zy ns at_) 9907 3).toNat)
  [some (.pl (.list (ns.map dI))),some (.pl (.int at_)),some (.pl (.int (Zy ns at_))),some (.pl (.int (ZR ns at_))),some (.ol []),none,none,none,none,none,none] ⟨none,rfl⟩ (by
   rintro s k post r hxs ⟨o5,rfl⟩
   have hk':=Zyq.mp (show k∈Zx8 (1+ZX (Zy ns at_) 9907 3).toNat by rw[hxs]; simp);have hs:s.length<4:=by have:=congrArg ZyN hxs; simp at this; omega
   have e:=Zq3 ns at_ k (ZR ns at_) (some (.pl (.int (Zy ns at_)))) (s.map λk=>ZP ((Zx8 (ZR ns at_)).map λs=>Zfo (Zy ns (at_+1+k)+61*(k:Int)) (ZR ns at_) s)) none none none none none (by omega) (by simp; omega) (by omega) (by omega);exact⟨_,e,some (.pl (dN k)),by simp⟩)
 subst q1;have lks:∀(o4 o5:Option B),∃r2,Z2 5 ZcR ((Zx8 (ZX (Zy ns at_) 9887 4).toNat).map dN) [some (.pl (.list (ns.map dI))),some (.pl (.int at_)),some (.pl (.int (Zy ns at_))),some (.pl (.int (ZR ns at_))),o4,o5,some (.ol []),none,none,none,none]=some (.nx r2) /\
   ∃o5 o7 o8,r2=[some (.pl (.list (ns.map dI))),some (.pl (.int at_)),some (.pl (.int (Zy ns at_))),some (.pl (.int (ZR ns at_))),o4,o5,some (.ol ((Zx8 (ZX (Zy ns at_) 9887 4).toNat).map λk=>tupI (ZgC ns at_ k))),o7,o8,none,none]:=by
  intro o4 o5;refine Zjp (i:=5) (body:=ZcR) dN (λ(s:List Nat) r=>∃o5 o7 o8,r=[some (.pl (.list (ns.map dI))),some (.pl (.int at_)),some (.pl (.int (Zy ns at_))),some (.pl (.int (ZR ns at_))),
   o4,o5,some (.ol (s.map λk=>tupI (ZgC ns at_ k))),o7,o8,none,none]) (Zx8 (ZX (Zy ns at_) 9887 4).toNat) _ ⟨o5,none,none,rfl⟩ ?_
  rintro s k post r hxs ⟨o5,o7,o8,rfl⟩
  have hk':=Zyq.mp (show k∈Zx8 (ZX (Zy ns at_) 9887 4).toNat by rw[hxs]; simp);have hs:s.length<4:=by have:=congrArg ZyN hxs; simp at this; omega
  obtain⟨r7,r8,e⟩:=ZqQ ns at_ k (ZR ns at_) (some (.pl (.int (Zy ns at_)))) o4 (s.map λk=>tupI (ZgC ns at_ k)) o7 o8 none none (by omega) (by simp; omega) rfl;exact⟨_,e,some (.pl (dN k)),r7,r8,by simp⟩
 have n3:(1+ZX (Zy ns at_) 9907 3).toNat<1000000:=by omega
 have nl:(ZX (Zy ns at_) 9887 4).toNat<1000000:=by omega
 have nm:ZR ns at_<1000000:=by omega
 have hdk:((Zx8 (1+ZX (Zy ns at_) 9907 3).toNat).map λk=>ZP ((Zx8 (ZR ns at_)).map λs=>Zfo (Zy ns (at_+1+k)+61*(k:Int)) (ZR ns at_) s))=(ZbR ns at_).map ZP:=by unfold ZbR; simp
 have hlk:((Zx8 (ZX (Zy ns at_) 9887 4).toNat).map λk=>tupI (ZgC ns at_ k))=(Zgq ns at_).map tupI:=by unfold Zgq; simp
 rw[hdk]at f1;simp only[hlk]at lks;have dkl:(ZbR ns at_).length<10:=by unfold ZbR; simp; omega
 unfold wkV Wk.d Zgo ZoI Zt1;simp only
 by_cases w1:ZX (Zy ns at_) 9901 3=1
 ·have w1':(ZX (Zy ns at_) 9901 3==1)=true:=by simp[w1]
  have cut:cutD ((ZbR ns at_).map ZP) none (some 1)=((ZbR ns at_).take 1).map ZP:=by unfold cutD sIx;simp
  obtain⟨r2,f2,p5,p7,p8,q2⟩:=lks (some (.ol (ZP ((Zx8 (ZR ns at_)).map λk=>wlV (Zy ns (at_+1)) k)::ZP ((Zx8 (ZR ns at_)).map λk=>[beV (ZR ns at_) k])::List.take 1 ((ZbR ns at_).map ZP)))) o5;subst q2;have c2:min 1 (ZbR ns at_).length+1+1<1000000:=by omega
  have c3:(2:Nat)+min 1 (ZbR ns at_).length<1000000:=by omega
  by_cases w2:ZX (Zy ns at_) 9859 3=1
  ·have w2':(ZX (Zy ns at_) 9859 3==1)=true:=by simp[w2]
   simp[Za2,Zdi,c0,m4,<-hmc,hlen,m3,ok3,Zaa,n3,f1,mw,w1',c1,wk,cut,w1,ml,okl,nl,f2,c7,k7,mb,w2',okm,nm,c8,k8,w2,c2,c3]
  ·have w2':(ZX (Zy ns at_) 9859 3==1)=false:=by simp[w2]
   simp[Za2,Zdi,c0,m4,<-hmc,hlen,m3,ok3,Zaa,n3,f1,mw,w1',c1,wk,cut,w1,ml,okl,nl,f2,c7,k7,mb,w2',okm,nm,c8,k8,w2,c2,c3]
 ·have w1':(ZX (Zy ns at_) 9901 3==1)=false:=by simp[w1]
  obtain⟨r2,f2,p5,p7,p8,q2⟩:=lks (some (.ol ((ZbR ns at_).map ZP))) o5;subst q2
  by_cases w2:ZX (Zy ns at_) 9859 3=1
  ·have w2':(ZX (Zy ns at_) 9859 3==1)=true:=by simp[w2]
   simp[Za2,Zdi,c0,m4,<-hmc,hlen,m3,ok3,Zaa,n3,f1,mw,w1',w1,ml,okl,nl,f2,c7,k7,mb,w2',okm,nm,c8,k8,w2]
  ·have w2':(ZX (Zy ns at_) 9859 3==1)=false:=by simp[w2]
   simp[Za2,Zdi,c0,m4,<-hmc,hlen,m3,ok3,Zaa,n3,f1,mw,w1',w1,ml,okl,nl,f2,c7,k7,mb,w2',okm,nm,c8,k8,w2]
end
end HG
namespace HG
open PySem HM
theorem ZoA{e:EF}{r:HM.Env}{f:D->D}(xs:List D)(h:∀x∈xs,e (some (.pl x)::r)=some (f x)):Zay Zaj e r xs=some (xs.map f):=by
 have:=ZbC (e:=e) (r:=r) id f xs h
 rwa [List.map_id]at this
theorem Zor(xs:List D)(p:D->Bool):Ze8 (xs.map λx=>Zzt (p x))=some (xs.map p):=by
 have:=Zfz (xs.map p)
 rwa [Zyn]at this
def ZgV(d:D)(lo hi:Int):Bool:=match d with
 | .int i=>decide (lo<=i)&&decide (i<=hi)
 | _=>false
def ndD:D->Prop
 | .dict _=>False
 | _=>True
theorem Zf5(d:D)(lo hi:Int)(nd:ndD d:=by trivial):Za1 [d,.int lo,.int hi]=some (.bool (ZgV d lo hi)):=by
 cases d<;>first | exact nd.elim | simp[Za1,Zif,ZgV]
 rename_i i
 by_cases h:lo<=i<;>simp[h]
def ZdL(d:D)(lo hi:Int):Bool:=match d with
 | .tuple ds=>decide (lo<=(ds.length:Int))&&decide ((ds.length:Int)<=hi)
 | _=>false
theorem Zfg(d:D)(lo hi:Int)(nd:ndD d:=by trivial):ZaX [d,.int lo,.int hi]=some (.bool (ZdL d lo hi)):=by
 cases d<;>first | exact nd.elim | simp[ZaX,ZlC,ZdL]
 rename_i ds
 by_cases h:lo<=(ds.length:Int)<;>simp[h]
def Zcp(many:Int):Int->List D->Bool
 | _,[]=>true
 | l,.int i::r=>(decide (l<=i)&&decide (i<=many-1))&&Zcp many (i+1) r
 | _,_::_=>false
def Zji(d:D)(many:Int):Bool:=match d with
 | .tuple ds=>Zcp many 0 ds
 | _=>false
theorem ZpO(d:D)(many:Int):∀(ds:List D) (l:Int) (o:Option B),(∀x∈ds,ndD x) ->
  (Zcp many l ds=true->∃l' o',Z2 3 Zaw ds [some (.pl d),some (.pl (.int many)),some (.pl (.int l)),o]=some (.nx [some (.pl d),some (.pl (.int many)),some (.pl (.int l')),o'])) /\
  (Zcp many l ds=false->Z2 3 Zaw ds [some (.pl d),some (.pl (.int many)),some (.pl (.int l)),o]=some (.rt (.bool false)))
 | [],l,o,_=>⟨λ_=>⟨l,o,rfl⟩,λh=>by simp[Zcp]at h⟩
 | x::ds,l,o,nd=>by
  have key:=Zf5 x l (many-1) (nd x (Zx3 ..));cases hx:ZgV x l (many-1)with
  | false =>
   have e:Zaw [some (.pl d),some (.pl (.int many)),some (.pl (.int l)),some (.pl x)]=some (.rt (.bool false)):=by rw[hx]at key;simp[Zaw,key]
   have e2:Zcp many l (x::ds)=false:=by cases x<;>simp[Zcp];rename_i i;simp[ZgV]at hx;intro h1 h2;exact absurd (hx h1) (by omega)
   refine⟨λh=>?_,λ_=>?_⟩
   ·rw[e2]at h; cases h
   ·unfold Z2
    show(match Zaw [some (.pl d),some (.pl (.int many)),some (.pl (.int l)),some (.pl x)]with | some (.nx r')=>_ | some (.ct r')=>_ | some (.bk r')=>_ | some (.rt d)=>_ | none=>_)=_;rw[e]
  | true =>
   cases x with
   | int i =>
    have e:Zaw [some (.pl d),some (.pl (.int many)),some (.pl (.int l)),some (.pl (.int i))]=some (.nx [some (.pl d),some (.pl (.int many)),some (.pl (.int (i+1))),some (.pl (.int i))]):=by rw[hx]at key;simp[Zaw,key]
    have e2:Zcp many l (.int i::ds)=Zcp many (i+1) ds:=by have:(decide (l<=i)&&decide (i<=many-1))=true:=hx;simp only[Zcp,this,ZCG]
    obtain⟨a1,a2⟩:=ZpO d many ds (i+1) (some (.pl (.int i))) λx hx=>nd x (Zx4 _ hx);rw[e2];have e3:Z2 3 Zaw (.int i::ds) [some (.pl d),some (.pl (.int many)),some (.pl (.int l)),o]=Z2 3 Zaw ds [some (.pl d),some (.pl (.int many)),some (.pl (.int (i+1))),some (.pl (.int i))]:=by show(match Zaw [some (.pl d),some (.pl (.int many)),some (.pl (.int l)),some (.pl (.int i))]with | some (.nx r')=>_ | some (.ct r')=>_ | some (.bk r')=>_ | some (.rt d)=>_ | none=>_)=_;rw[e]
    rw[e3];exact⟨a1,a2⟩
   | _=>simp[ZgV]at hx
theorem ZiT(d:D)(many:Int)(hl:∀ds,d=.tuple ds->ds.length<1000000/\∀x∈ds,ndD x)(nd:ndD d:=by trivial):Z6 [d,.int many]=some (.bool (Zji d many)):=by
 cases d with
 | tuple ds =>
  obtain⟨hl,hn⟩:=hl ds rfl;obtain⟨a1,a2⟩:=ZpO (.tuple ds) many ds 0 none hn;cases h:Zcp many 0 ds with
  | true=>obtain⟨l',o',e⟩:=a1 h;simp[Z6,Zef,Zji,h,hl,e]
  | false=>have e:=a2 h;simp[Z6,Zef,Zji,h,hl,e]
 | dict _=>exact nd.elim
 | _=>simp[Z6,Zef,Zji]
def small:D->Prop
 | .tuple ds=>ds.length<1000000/\∀x∈ds,ndD x
 | .dict _=>False
 | _=>True
theorem ZkK{c:List Int}(h:(c.map dI).length<1000000):small (tupI c):=⟨h,λx hx=>by obtain⟨i,_,rfl⟩:=Zyf.mp hx; trivial⟩
theorem Znr{d:D}(h:small d):ndD d:=by cases d<;>first | exact h.elim | trivial
theorem ZrB{d:D}(h:small d):∀ds,d=.tuple ds->ds.length<1000000/\∀x∈ds,ndD x:=by rintro ds rfl; exact h
def ZiU(d:D)(many:Int):Bool:=ZdL d many many&&(match d with | .tuple ds=>ds.all λc=>Zji c many | _=>false)
def ZkN(d:D):Prop:=match d with | .tuple ds=>ds.length<1000000/\∀x∈ds,small x | .dict _=>False | _=>True
theorem Zts{d:D}(h:ZkN d):ndD d:=by cases d<;>first | exact h.elim | trivial
theorem ZqI(d:D)(many:Int)(hs:ZkN d):Zcj [d,.int many]=some (.bool (ZiU d many)):=by
 have h1:=Zfg d many many (Zts hs);cases hr:ZdL d many many with
 | false=>rw[hr]at h1; simp[Zcj,Zhn,h1,ZiU,hr]
 | true =>
  rw[hr]at h1;cases d with
  | tuple ds =>
   have hs':ds.length<1000000/\∀x∈ds,small x:=hs;simp[Zcj,Zhn,h1,ZiU,hr,hs'.1];rw[ZoA (f:=λc=>.bool (Zji c many))]
   ·simp[Zor]
   ·intro x hx
    simp[ZiT x many (ZrB (hs'.2 x hx)) (Znr (hs'.2 x hx))]
  | _=>simp[ZdL]at hr
def Zi0(d:D)(many:Int):Bool:=ZdL d many many&&(match d with | .tuple ds=>ds.all λc=>ZgV c 0 9 | _=>false)
theorem ZqP(d:D)(many:Int)(hs:small d):Zck [d,.int many]=some (.bool (Zi0 d many)):=by
 have h1:=Zfg d many many (Znr hs);cases hr:ZdL d many many with
 | false=>rw[hr]at h1; simp[Zck,Zho,h1,Zi0,hr]
 | true =>
  rw[hr]at h1;cases d with
  | tuple ds =>
   have hs':ds.length<1000000:=hs.1;simp[Zck,Zho,h1,Zi0,hr,hs'];rw[ZoA (f:=λc=>.bool (ZgV c 0 9))]
   ·simp[Zor]
   ·intro x hx
    simp[Zf5 x 0 9 (hs.2 x hx)]
  | _=>simp[ZdL]at hr
structure Wk.V(w:Wk):Prop where
 m1:1<=w.many
 m2:w.many<=8
 d1:1<=w.deeds.length
 d2:w.deeds.length<=5
 dl:∀dd∈w.deeds,dd.length=w.many
 dc:∀dd∈w.deeds,∀c∈dd,Cr w.many c
 l2:w.looks.length<=4
 ll:∀l∈w.looks,l.length=w.many
 lc:∀l∈w.looks,∀x∈l,0<=x/\x<=9
 b1:w.beg≠[]
 bc:Cr w.many w.beg
 gc:Cr w.many w.goal
theorem Wk.Ok.v{w:Wk}(h:w.Ok):Wk.V w:=by obtain⟨m1,m2,d1,d2,dl,dc,l2,ll,lc,b1,bc,g1,gc⟩:=h;exact⟨by omega,by omega,d1,by omega,dl,dc,by omega,ll,lc,b1,bc,gc⟩
theorem Zlw(n:Nat):∀(c:List Int) (l:Int),c.Pairwise (· < ·)->(∀x∈c,l<=x/\x<(n:Int))->Zcp n l (c.map dI)=true
 | [],_,_,_=>rfl
 | x::c,l,hp,hb=>by have h1:=hb x (Zx3 ..);have ih:=Zlw n c (x+1) (ZyQ.mp hp).2 λy hy=>⟨by have:=(ZyQ.mp hp).1 y hy; omega,(hb y (Zx4 _ hy)).2⟩;show((decide (l<=x)&&decide (x<=(n:Int)-1))&&Zcp n (x+1) (c.map dI))=true;rw[ih,decide_eq_true h1.1,decide_eq_true (show x<=(n:Int)-1 by omega)];rfl
theorem ZiY{n:Nat}{c:List Int}(h:Cr n c)(hn:n<1000):Z6 [tupI c,.int n]=some (.bool true):=by have hl:=h.len;rw[ZiT (tupI c) n (by intro ds e; cases e; exact⟨by simp; omega,λx hx=>by obtain⟨i,_,rfl⟩:=Zyf.mp hx; trivial⟩)];show some (Zzt (Zcp n 0 (c.map dI)))=_;rw[Zlw n c 0 h.1 h.2]
theorem Zpv{n:Nat}{c:List Int}(h:Cr n c)(h0:c≠[])(hn:n<1000):ZcV [tupI c,.int n]=some (.bool true):=by
 have h1:=ZiY h hn;have h2:(0:Int)<(c.length:Int):=by have:=ZBy.mpr h0;omega
 simp[ZcV,ZjA,h1];exact ZBy.mpr h0
theorem ZuY{w:Wk}(h:Wk.V w){dd:List (List Int)}(hd:dd∈w.deeds):Zcj [ZP dd,.int w.many]=some (.bool true):=by
 have hl:=h.dl dd hd;have m2:=h.m2;rw[ZqI (ZP dd) _ (show(dd.map tupI).length<1000000/\∀x∈dd.map tupI,small x by refine⟨by simp; omega,λx hx=>?_⟩;obtain⟨c,hc,rfl⟩:=Zyf.mp hx;have:=(h.dc dd hd c hc).len;refine ZkK ?_;simp; omega)];have e:ZiU (ZP dd) w.many=true:=by unfold ZiU ZP ZdL;simp[hl];intro c hc;exact Zlw w.many c 0 (h.dc dd hd c hc).1 (h.dc dd hd c hc).2
 rw[e]
theorem Zul{w:Wk}(h:Wk.V w){l:List Int}(hd:l∈w.looks):Zck [tupI l,.int w.many]=some (.bool true):=by
 have hl:=h.ll l hd;have m2:=h.m2;rw[ZqP (tupI l) _ (ZkK (show(l.map dI).length<1000000 by simp; omega))];have e:Zi0 (tupI l) w.many=true:=by unfold Zi0 ZdL;simp[hl];intro x hx;have:=h.lc l hd x hx;simp[ZgV];omega
 rw[e]
theorem allTrue(α:Type)(xs:List α):Ze8 (xs.map λ_=>Zzt true)=some (xs.map λ_=>true):=by
 have:=Zfz (xs.map λ_=>true)
 rwa [Zyn]at this
theorem ZoK{w:Wk}(h:Wk.V w):ZcA [.tuple (w.deeds.map ZP),.int w.many]=some (.bool true):=by
 have h1:=Zfg (.tuple (w.deeds.map ZP)) 1 5;have d1:=h.d1;have d2:=h.d2;have e:ZdL (.tuple (w.deeds.map ZP)) 1 5=true:=by simp[ZdL]; omega
 rw[e]at h1;have hl:w.deeds.length<1000000:=by omega
 simp[ZcA,Zig,h1,hl];rw[ZbC ZP (λ_=>.bool true)]
 ·simp[allTrue]
 ·intro x hx
  simp[ZuY h hx]
theorem Zn9{w:Wk}(h:Wk.V w):ZcB [.tuple (w.looks.map tupI),.int w.many]=some (.bool true):=by
 have h1:=Zfg (.tuple (w.looks.map tupI)) 0 4;have d2:=h.l2;have e:ZdL (.tuple (w.looks.map tupI)) 0 4=true:=by simp[ZdL]; omega
 rw[e]at h1;have hl:w.looks.length<1000000:=by omega
 simp[ZcB,Zih,h1,hl];rw[ZbC tupI (λ_=>.bool true)]
 ·simp[allTrue]
 ·intro x hx
  simp[Zul h hx]
theorem Zov{w:Wk}(h:Wk.V w):ZcC [w.d]=some (.bool true):=by
 have h1:=Zfg w.d 5 5;have e:ZdL w.d 5 5=true:=by simp[ZdL,Wk.d]
 rw[e]at h1;have h2:=Zf5 (.int w.many) 1 8;have m1:=h.m1;have m2:=h.m2;have e2:ZgV (.int w.many) 1 8=true:=by simp[ZgV]; omega
 rw[e2]at h2;have h3:=ZoK h;have h4:=Zn9 h;have h5:=Zpv h.bc h.b1 (by omega);have h6:=ZiY h.gc (by omega);unfold Wk.d at h1 ⊢;simp[ZcC,Zii,h1,h2,h3,h4,h5,h6]
theorem ZkR{w:Wk}(h:Wk.V w):ZbE [w.d]=some w.d:=by simp[ZbE,Zkl,Zov h]
theorem ZgW(w:Wk):Zbf [w.d]=some (.tuple (w.deeds.map ZP)):=by simp[Zbf,ZjB,Wk.d]
theorem ZjJ(w:Wk):ZbX [w.d]=some (.tuple (w.looks.map tupI)):=by simp[ZbX,ZjC,Wk.d]
theorem Zgc{w:Wk}(h:Wk.V w){ls:List Int}(hl:Cr w.looks.length ls):Zae [w.d,tupI ls]=some (tupI ls):=by have l2:=h.l2;have h1:=ZiY hl (by omega);simp[Zae,ZfN,ZjJ,h1]
end HG
namespace HG
open PySem HM
def ZbM(w:Wk)(d s:Int):List Int:=(w.deeds[d.toNat]?.getD [])[s.toNat]?.getD []
def ZkE(w:Wk)(l s:Int):Int:=(w.looks[l.toNat]?.getD [])[s.toNat]?.getD 0
def Zao(w:Wk)(c:List Int)(d:Int):Bool:=c.all λs=>decide (0<(ZbM w d s).length)
def Zba(w:Wk)(c:List Int)(d:Int):List Int:=c.flatMap λs=>ZbM w d s
def ZJ(w:Wk)(c:List Int)(d:Int):List Int:=sortI (dedup [] (Zba w c d))
def Zz(w:Wk)(ls:List Int)(s:Int):List Int:=ls.map λl=>ZkE w l s
theorem ZlB{w:Wk}{d:Int}(h0:0<=d)(h1:d<w.deeds.length):atD (w.deeds.map ZP) d=some (ZP (w.deeds[d.toNat]?.getD [])):=by
 refine Zjk h0 ?_;have h:d.toNat<w.deeds.length:=by omega
 simp[h,Zzv]
theorem Zoq{w:Wk}(hv:Wk.V w){d s:Int}(h0:0<=d)(h1:d<w.deeds.length)(h2:0<=s)(h3:s<w.many):atD ((w.deeds[d.toNat]?.getD []).map tupI) s=some (tupI (ZbM w d s)):=by
 refine Zjk h2 ?_;have h:d.toNat<w.deeds.length:=by omega
 have hl:(w.deeds[d.toNat]?.getD []).length=w.many:=by
  have:w.deeds[d.toNat]?.getD []=w.deeds[d.toNat]:=by simp[h,Zzv]
  rw[this];exact hv.dl _ (ZzO h)
 have h':s.toNat<(w.deeds[d.toNat]?.getD []).length:=by omega
 unfold ZbM;rw[Zyr,Zye h'];simp[Zzv,h']
theorem Zoo{w:Wk}(hv:Wk.V w){d s:Int}(h0:0<=d)(h1:d<w.deeds.length)(h2:0<=s)(h3:s<w.many):Cr w.many (ZbM w d s):=by
 have h:d.toNat<w.deeds.length:=by omega
 have e:w.deeds[d.toNat]?.getD []=w.deeds[d.toNat]:=by simp[h,Zzv]
 have hl:=hv.dl _ (ZzO h);unfold ZbM;rw[e];have h':s.toNat<(w.deeds[d.toNat]).length:=by omega
 have e2:(w.deeds[d.toNat])[s.toNat]?.getD []=(w.deeds[d.toNat])[s.toNat]:=by simp[h',Zzv]
 rw[e2];exact hv.dc _ (ZzO h) _ (ZzO h')
theorem ZpL{w:Wk}{l:Int}(h0:0<=l)(h1:l<w.looks.length):atD (w.looks.map tupI) l=some (tupI (w.looks[l.toNat]?.getD [])):=by
 refine Zjk h0 ?_;have h:l.toNat<w.looks.length:=by omega
 simp[h,Zzv]
theorem ZpP{w:Wk}(hv:Wk.V w){l s:Int}(h0:0<=l)(h1:l<w.looks.length)(h2:0<=s)(h3:s<w.many):atD ((w.looks[l.toNat]?.getD []).map dI) s=some (.int (ZkE w l s)):=by
 refine Zjk h2 ?_;have h:l.toNat<w.looks.length:=by omega
 have hl:(w.looks[l.toNat]?.getD []).length=w.many:=by
  have:w.looks[l.toNat]?.getD []=w.looks[l.toNat]:=by simp[h,Zzv]
  rw[this];exact hv.ll _ (ZzO h)
 have h':s.toNat<(w.looks[l.toNat]?.getD []).length:=by omega
 unfold ZkE;rw[Zyr,Zye h'];simp[Zzv,h']
theorem ZqT{w:Wk}(hv:Wk.V w){ls:List Int}(hl:Cr w.looks.length ls){s:Int}(h2:0<=s)(h3:s<w.many):Zdv [w.d,tupI ls,.int s]=some (tupI (Zz w ls s)):=by
 have l2:=hv.l2;have hlen:=hl.len;have hb:ls.length<1000000:=by omega
 simp[Zdv,Zkm,hb];rw[ZbC dI (λl=>dI (ZkE w l s))]
 ·simp[Zz]
 ·intro l hl'
  have hb:=hl.2 l hl';simp[ZjJ,ZpL hb.1 hb.2,ZpP hv hb.1 hb.2 h2 h3]
theorem Zlf{w:Wk}(hv:Wk.V w){c:List Int}(hc:Cr w.many c){d:Int}(h0:0<=d)(h1:d<w.deeds.length):Zb3 [w.d,tupI c,.int d]=some (.bool (Zao w c d)):=by
 have m2:=hv.m2;have hlen:=hc.len;have hb:c.length<1000000:=by omega
 simp[Zb3,Zg8,ZgW,ZlB h0 h1,hb];rw[ZbC dI (λs=>.bool (decide (0<(ZbM w d s).length)))]
 ·have e:=Zfz (c.map λs=>decide (0<(ZbM w d s).length))
  rw[Zyn]at e;have e':((λb=>Zzt b)∘λs=>decide (0<(ZbM w d s).length))=λs=>Zzt (decide (0<(ZbM w d s).length)):=rfl;rw[e']at e;simp[e,Zao]
 ·intro s hs
  have hb:=hc.2 s hs;simp[ZP,Zoq hv h0 h1 hb.1 hb.2]
def doV(w:Wk)(c:List Int):List Int:=((Zx8 w.deeds.length).filter λ(d:Nat)=>Zao w c (d:Int)).map λ(k:Nat)=>(k:Int)
theorem ZmB{w:Wk}(hv:Wk.V w){c:List Int}(hc:Cr w.many c):Zcf [w.d,tupI c]=some (.list ((doV w c).map dI)):=by
 have d2:=hv.d2;have hok:okR (w.deeds.length:Int)=true:=Zc4 (by omega);have hb:w.deeds.length<1000000:=by omega
 simp[Zcf,Zh7,ZgW,hok,Zaa,hb];rw[ZbB dN (λk:Nat=>Zao w c k) dN]
 ·simp[doV]
 ·intro k hk
  have hk':=Zyq.mp hk;simp[Zlf hv hc (show(0:Int)<=(k:Int) by omega) (by omega)]
 ·intro k hk _
  simp
def Zcw(acc:List Int)(x:Int):List Int:=if acc.contains x then acc else acc++[x]
theorem ZfC:∀(l acc:List Int),dedup acc l=l.foldl Zcw acc
 | [],acc=>rfl
 | x::l,acc=>by
  unfold dedup;rw[Zy8];unfold Zcw;split
  ·rw[ZfC l acc]; rfl
  ·rw[ZfC l (acc++[x])]; rfl
def tru(acc:List Int):List (Ky × D):=acc.map λi=>(ZzP i,Zzt true)
theorem Zuv(acc:List Int)(x:Int):putD (tru acc) (ZzP x) (Zzt true)=tru (Zcw acc x):=by
 unfold putD Zcw tru
 by_cases h:x∈acc
 ·have e1:((acc.map λi=>((ZzP i:Ky),Zzt true)).any λp=>decide (p.1=ZzP x))=true:=by
   simp; exact h
  have e2:acc.contains x=true:=by simpa using h
  rw[if_pos e1,if_pos e2,Zyn];refine Zzx λi _=>?_;simp
 ·have e1:¬((acc.map λi=>((ZzP i:Ky),Zzt true)).any λp=>decide (p.1=ZzP x))=true:=by
   simp; exact h
  have e2:¬acc.contains x=true:=by simpa using h
  rw[if_neg e1,if_neg e2];simp
theorem Zl1(acc:List Int)(x:Int):(Zcw acc x).length<=acc.length+1:=by unfold Zcw; split<;>simp
theorem ZnB:∀(l acc:List Int),(l.foldl Zcw acc).length<=acc.length+l.length
 | [],acc=>by simp
 | x::l,acc=>by rw[Zy8];have:=ZnB l (Zcw acc x);have:=Zl1 acc x;simp; omega
theorem Zsi(e0 e1 e2 e3 e5:Option B):∀(l acc:List Int) (o:Option B),acc.length+l.length<1000000 ->
  ∃o',Z2 6 Zeg (l.map dI) [e0,e1,e2,e3,some (.ok (tru acc)),e5,o]=some (.nx [e0,e1,e2,e3,some (.ok (tru (l.foldl Zcw acc))),e5,o'])
 | [],acc,o,_=>⟨o,rfl⟩
 | x::l,acc,o,h=>by
  rw[Zyg]at h;have hb:acc.length<1000000:=by omega
  have e:Zeg [e0,e1,e2,e3,some (.ok (tru acc)),e5,some (.pl (dI x))]=some (.nx [e0,e1,e2,e3,some (.ok (tru (Zcw acc x))),e5,some (.pl (dI x))]):=by
   have hl:(tru acc).length<1000000:=by unfold tru; simp; exact hb
   simp[Zeg,hl,Zuv]
  have hd:=Zl1 acc x;obtain⟨o',e'⟩:=Zsi e0 e1 e2 e3 e5 l (Zcw acc x) (some (.pl (dI x))) (by omega);refine⟨o',?_⟩;rw[Zx6,Zy8,<-e'];unfold Z2;show(match Zeg [e0,e1,e2,e3,some (.ok (tru acc)),e5,some (.pl (dI x))]with | some (.nx r')=>_ | some (.ct r')=>_ | some (.bk r')=>_ | some (.rt d)=>_ | none=>_)=_;rw[e];cases l<;>rfl
theorem Zrx{w:Wk}(hv:Wk.V w){d:Int}(h0:0<=d)(h1:d<w.deeds.length)(e1 e2:Option B):∀(c acc:List Int) (o5 o6:Option B),(∀s∈c,0<=s/\s<(w.many:Int))->acc.length+c.length*10<100000 ->
  ∃o5' o6',Z2 5 Zeh (c.map dI) [some (.pl w.d),e1,e2,some (.pl (ZP (w.deeds[d.toNat]?.getD []))),some (.ok (tru acc)),o5,o6]=some (.nx [some (.pl w.d),e1,e2,some (.pl (ZP (w.deeds[d.toNat]?.getD []))),some (.ok (tru ((Zba w c d).foldl Zcw acc))),o5',o6'])
 | [],acc,o5,o6,_,_=>⟨o5,o6,rfl⟩
 | s::c,acc,o5,o6,hs,hl=>by
  rw[Zyg]at hl;have hb:=hs s (Zx3 ..);have hr:=(Zoo hv h0 h1 hb.1 hb.2).len;have m2:=hv.m2;have hrl:(ZbM w d s).length<1000000:=by omega
  obtain⟨o',e⟩:=Zsi (some (.pl w.d)) e1 e2 (some (.pl (ZP (w.deeds[d.toNat]?.getD [])))) (some (.pl (dI s))) (ZbM w d s) acc o6 (by omega);have e':Zeh [some (.pl w.d),e1,e2,some (.pl (ZP (w.deeds[d.toNat]?.getD []))),some (.ok (tru acc)),some (.pl (dI s)),o6]=some (.nx [some (.pl w.d),e1,e2,some (.pl (ZP (w.deeds[d.toNat]?.getD []))),some (.ok (tru ((ZbM w d s).foldl Zcw acc))),some (.pl (dI s)),o']):=by unfold ZP at e ⊢;simp[Zeh,Zoq hv h0 h1 hb.1 hb.2,hrl,e]
  have hf:=ZnB (ZbM w d s) acc;obtain⟨p5,p6,ih⟩:=Zrx hv h0 h1 e1 e2 c ((ZbM w d s).foldl Zcw acc) (some (.pl (dI s))) o' (λx hx=>hs x (Zx4 _ hx)) (by omega);refine⟨p5,p6,?_⟩;have ef:Zba w (s::c) d=ZbM w d s++Zba w c d:=rfl;rw[ef,List.foldl_append,<-ih,Zx6];show(match Zeh [some (.pl w.d),e1,e2,some (.pl (ZP (w.deeds[d.toNat]?.getD []))),some (.ok (tru acc)),some (.pl (dI s)),o6]with | some (.nx r')=>_ | some (.ct r')=>_ | some (.bk r')=>_ | some (.rt d)=>_ | none=>_)=_;rw[e']
theorem Zsr{w:Wk}(hv:Wk.V w){c:List Int}(hc:Cr w.many c){d:Int}(h0:0<=d)(h1:d<w.deeds.length):∀x∈Zba w c d,0<=x/\x<(w.many:Int):=by intro x hx;obtain⟨s,hs,h⟩:=ZAj.mp hx;exact(Zoo hv h0 h1 (hc.2 s hs).1 (hc.2 s hs).2).2 x h
theorem Zeb{w:Wk}(hv:Wk.V w){c:List Int}(hc:Cr w.many c){d:Int}(h0:0<=d)(h1:d<w.deeds.length):Cr w.many (ZJ w c d):=by refine Zh4 (Ze4 _ _ (by simp)) λx hx=>Zsr hv hc h0 h1 x ?_;rw[Ze9]at hx;simpa using hx
theorem ZrK{w:Wk}(hv:Wk.V w){c:List Int}(hc:Cr w.many c){d:Int}(h0:0<=d)(h1:d<w.deeds.length):Zdg [w.d,tupI c,.int d]=some (tupI (ZJ w c d)):=by
 have m2:=hv.m2;have hlen:=hc.len;have hb:c.length<1000000:=by omega
 obtain⟨o5,o6,e⟩:=Zrx hv h0 h1 (some (.pl (tupI c))) (some (.pl (.int d))) c [] none none hc.2 (by simp; omega);have hl:(dedup [] (Zba w c d)).length<64:=by have h:=(Zeb hv hc h0 h1).len;have:=(sortI_perm (dedup [] (Zba w c d))).length_eq;unfold ZJ at h;omega
 have hs:=ZhM _ hl;rw[ZfC]at hs;have ek:(tru ((Zba w c d).foldl Zcw [])).map (λp=>ZaE p.1)=((Zba w c d).foldl Zcw []).map dI:=by unfold tru;rw[Zyn];rfl
 simp[Zdg,ZlD,ZgW,ZlB h0 h1,hb];rw[show some (B.ok [])=some (B.ok (tru [])) from rfl,e];simp[ek,hs,ZJ,ZfC]
end HG
namespace HG
open PySem HM
abbrev Gs:=List (List Int × List Int)
abbrev Zac(k:List Int):List Ky:=k.map ZzP
def ZaF(g:Gs):List (List Ky × List D):=g.map λp=>(Zac p.1,p.2.map dI)
theorem Zgj{a b:List Int}(h:Zac a=Zac b):a=b:=by
 induction a generalizing b with
 | nil=>cases b with
  | nil=>rfl
  | cons _ _=>simp at h
 | cons x a ih=>cases b with
  | nil=>simp at h
  | cons y b=>simp at h;rw[h.1,ih (by simpa using h.2)]
theorem Zln(a b:List Int):(Zac a=Zac b)↔a=b:=⟨Zgj,λh=>by rw[h]⟩
theorem ZqY(k:List Int):Zli (k.map dI)=some (Zac k):=by
 induction k with
 | nil=>rfl
 | cons x k ih=>show(Zli (k.map dI)).map (ZzP x::·)=_;rw[ih];rfl
theorem ZaB(k:List Int):ZaV (tupI k)=some (Zac k):=ZqY k
theorem Zgk(g:Gs)(k:List Int):Zm (ZaF g) (Zac k)=(Zm g k).map λp=>p.map dI:=by
 unfold Zm ZaF;rw[List.find?_map];have e:((λp:List Ky × List D=>decide (p.1=Zac k))∘λp:List Int × List Int=>(Zac p.1,p.2.map dI))=λp=>decide (p.1=k):=by
  funext p
  simp only[ZBe];exact decide_eq_decide.mpr (Zln p.1 k)
 rw[e];cases g.find? λp=>decide (p.1=k)<;>rfl
theorem Zp3(g:Gs)(k:List Int):ZbL (ZaF g) (Zac k)=ZaF (ZbL g k):=by
 unfold ZbL;rw[Zgk];cases Zm g k with
 | none=>simp[ZaF]
 | some p=>rfl
theorem Zjj(k:List Int)(s:Int):∀(g:Gs),Zdt (ZaF g) (Zac k) (dI s)=ZaF (Zdt g k s)
 | []=>rfl
 | (x,p)::g=>by
  show Zdt ((Zac x,p.map dI)::ZaF g) (Zac k) (dI s)=ZaF (Zdt ((x,p)::g) k s);unfold Zdt
  by_cases h:x=k
  ·rw[if_pos (by rw[h]),if_pos h]
   simp[ZaF]
  ·rw[if_neg (λe=>h (Zgj e)),if_neg h,Zjj k s g]
   rfl
def ZdJ(g:Gs)(k:List Int)(s:Int):Gs:=Zdt (ZbL g k) k s
theorem ZeY(k:List Int):Zm ([]:Gs) k=none:=rfl
theorem ZbZ(x:List Int)(p:List Int)(g:Gs)(k:List Int):Zm ((x,p)::g) k=if x=k then some p else Zm g k:=by
 unfold Zm;rw[ZyW]
 by_cases h:x=k<;>simp[h]
theorem Zot(k:List Int)(s:Int)(k':List Int):∀(g:Gs),Zm (Zdt g k s) k'=if k=k' then(Zm g k).map (·++[s])else Zm g k'
 | []=>by simp[Zdt,ZeY]
 | (x,p)::g=>by
  unfold Zdt
  by_cases h:x=k
  ·subst h
   rw[if_pos rfl,ZbZ,ZbZ,ZbZ,if_pos rfl];split<;>rfl
  ·rw[if_neg h,ZbZ,Zot k s k' g,ZbZ,ZbZ,if_neg h]
   by_cases h2:x=k'
   ·subst h2
    rw[if_pos rfl,if_pos rfl,if_neg (Zy1 h)]
   ·rw[if_neg h2,if_neg h2]
theorem Zkz(x:List Int)(p:List Int)(k:List Int):∀(g:Gs),Zm (g++[(x,p)]) k=match Zm g k with | some q=>some q | none=>if x=k then some p else none
 | []=>by simp[ZeY,ZbZ]
 | (y,q)::g=>by rw[ZCc,ZbZ,ZbZ,Zkz x p k g];split<;>rfl
theorem ZhC(g:Gs)(k k':List Int):Zm (ZbL g k) k'=if k=k' then some ((Zm g k).getD [])else Zm g k':=by
 unfold ZbL;cases h:Zm g k with
 | some p =>
  by_cases e:k=k'
  ·subst e; rw[if_pos rfl]; exact h
  ·rw[if_neg e]
 | none =>
  show Zm (g++[(k,[])]) k'=_;rw[Zkz]
  by_cases e:k=k'
  ·subst e; rw[if_pos rfl,if_pos rfl,h]; rfl
  ·rw[if_neg e,if_neg e]
   cases Zm g k'<;>rfl
theorem Zth(g:Gs)(k k':List Int)(s:Int):Zm (ZdJ g k s) k'=if k=k' then some ((Zm g k).getD []++[s])else Zm g k':=by
 unfold ZdJ;rw[Zot,ZhC,ZhC,if_pos rfl]
 by_cases e:k=k'
 ·rw[if_pos e,if_pos e]; rfl
 ·rw[if_neg e,if_neg e,if_neg e]
theorem ZnM(k:List Int)(s:Int):∀(g:Gs),(Zdt g k s).map (·.1)=g.map (·.1)
 | []=>rfl
 | (x,p)::g=>by
  unfold Zdt;split
  ·rfl
  ·rw[Zx6,ZnM k s g]; rfl
theorem Zkh(g:Gs)(k:List Int):(Zm g k).isSome=true↔k∈g.map (·.1):=by
 induction g with
 | nil=>simp[ZeY]
 | cons p g ih =>
  obtain⟨x,q⟩:=p;rw[ZbZ,Zx6,Zyo]
  by_cases h:x=k
  ·simp[h]
  ·rw[if_neg h,ih]
   constructor
   ·exact .inr
   ·rintro (e | e)
    ·exact absurd e.symm h
    ·exact e
theorem ZsU(g:Gs)(k:List Int):(ZbL g k).map (·.1)=if k∈g.map (·.1)then g.map (·.1)else g.map (·.1)++[k]:=by
 unfold ZbL;cases h:Zm g k with
 | some p=>rw[if_pos ((Zkh g k).mp (by rw[h]; rfl))]
 | none=>rw[if_neg (λm=>by have:=(Zkh g k).mpr m; rw[h]at this; cases this)];simp
theorem Ztm(g:Gs)(k:List Int)(s:Int):(ZdJ g k s).map (·.1)=if k∈g.map (·.1)then g.map (·.1)else g.map (·.1)++[k]:=by unfold ZdJ;rw[ZnM,ZsU]
def Zdb(f:Int->List Int)(c:List Int):Gs:=c.foldl (λg s=>ZdJ g (f s) s) []
structure Grp(f:Int->List Int)(pre:List Int)(g:Gs):Prop where
 nd:(g.map (·.1)).Nodup
 look:∀k,Zm g k=if k∈pre.map f then some (pre.filter λs=>f s==k)else none
theorem Grp.mem{f:Int->List Int}{pre:List Int}{g:Gs}(h:Grp f pre g)(k:List Int):k∈g.map (·.1)↔k∈pre.map f:=by
 rw[<-Zkh,h.look];split
 ·rename_i m; exact⟨λ_=>m,λ_=>rfl⟩
 ·rename_i m; exact⟨(λe=>by cases e),λe=>absurd e m⟩
theorem Grp.step{f:Int->List Int}{pre:List Int}{g:Gs}(h:Grp f pre g)(s:Int):Grp f (pre++[s]) (ZdJ g (f s) s):=by
 refine⟨?_,λk=>?_⟩
 ·rw[Ztm]
  split
  ·exact h.nd
  ·rename_i m
   rw[ZAe];exact⟨h.nd,by simp,λa ha b hb=>by simp at hb; subst hb; exact λe=>m (e▸ha)⟩
 ·rw[Zth,h.look,h.look,ZyE,List.filter_append]
  by_cases e:f s=k
  ·subst e
   have e0:f s∈pre.map f++[s].map f:=by simp
   rw[if_pos rfl,if_pos e0];have e2:[s].filter (λx=>f x==f s)=[s]:=by simp
   rw[e2];split
   ·rfl
   ·rename_i m
    have:pre.filter (λx=>f x==f s)=[]:=by rw[ZAx];intro a ha q;exact m (Zyf.mpr ⟨a,ha,by simpa using q⟩)
    rw[this]; rfl
  ·have e2:[s].filter (λx=>f x==k)=[]:=by simp[e]
   rw[if_neg e,e2,ZyJ];have e3:(k∈pre.map f++[s].map f)↔k∈pre.map f:=by
    rw[Zyy]
    constructor
    ·rintro (q | q)
     ·exact q
     ·simp at q; exact absurd q.symm e
    ·exact .inl
   by_cases q:k∈pre.map f
   ·rw[if_pos q,if_pos (e3.mpr q)]
   ·rw[if_neg q,if_neg (λz=>q (e3.mp z))]
theorem ZpX(f:Int->List Int):∀(c pre:List Int) (g:Gs),Grp f pre g->Grp f (pre++c) (c.foldl (λg s=>ZdJ g (f s) s) g)
 | [],pre,g,h=>by rw[ZyJ]; exact h
 | s::c,pre,g,h=>by have:=ZpX f c (pre++[s]) _ (h.step s);rw[Zzh]at this;exact this
theorem Zc8(f:Int->List Int)(c:List Int):Grp f c (Zdb f c):=by
 have:=ZpX f c [] [] ⟨ZzH,λk=>by simp[ZeY]⟩
 rwa [ZAu]at this
def ZF(w:Wk)(ls c:List Int):Gs:=(Zco ((Zdb (Zz w ls) c).map (·.1))).map λk=>(k,c.filter λs=>Zz w ls s==k)
def Zai(p:List Int × List Int):D:=.tuple [tupI p.1,tupI p.2]
theorem ZsN(ks:List (List Int)):Zjl (ks.map tupI)=some ks:=by
 induction ks with
 | nil=>rfl
 | cons k ks ih=>show(match ZaI (k.map dI)with | some ns=>(Zjl (ks.map tupI)).map (ns::·) | none=>none)=_;rw[Zcu,ih];rfl
theorem ZhP(ks:List (List Int))(h:ks.length<64)(hn:ks.length<2\/∀k∈ks,k≠[]):ZdF (ks.map tupI)=some ((Zco ks).map tupI):=by
 unfold ZdF;rw[if_pos (by rw[Zx1]; exact h)];cases ks with
 | nil=>simp[ZaI,sortI,Zco,ofInts]
 | cons k ks =>
  have e:ZaI (ZBz tupI (k::ks))=none:=rfl;rw[e,ZsN];have e2:(decide ((ZBz tupI (k::ks)).length<2)||(k::ks).all λt=>!t.isEmpty)=true:=by
   rw[ZzJ,Zx1];rcases hn with q | q
   ·exact .inl (by simpa using q)
   ·refine .inr (Zx9.mpr λt ht=>?_)
    have:=q t ht;cases t with
    | nil=>exact absurd rfl this
    | cons _ _=>rfl
  dsimp only;rw[if_pos e2];unfold Zfe;simp only[ZfB]
theorem ZaT(ks:List (List Int)):(Zco ks).Perm ks:=ZAL ks _
theorem Zp0(w:Wk)(ls c:List Int)(hc:c.length<60):ZdF ((ZaF (Zdb (Zz w ls) c)).map λp=>ZyT (p.1.map ZaE))=some ((Zco ((Zdb (Zz w ls) c).map (·.1))).map tupI):=by
 have hg:=Zc8 (Zz w ls) c;have e:((ZaF (Zdb (Zz w ls) c)).map λp=>ZyT (p.1.map ZaE))=((Zdb (Zz w ls) c).map (·.1)).map tupI:=by unfold ZaF;rw[Zyn,Zyn];refine Zzx λp _=>?_;simp only[ZBe];unfold Zac tupI;rw[Zyn];rfl
 rw[e];have hsub:∀k∈(Zdb (Zz w ls) c).map (·.1),k∈c.map (Zz w ls):=λk hk=>(hg.mem k).mp hk;refine ZhP _ ?_ ?_
 ·have:(Zdb (Zz w ls) c).map (·.1) ⊆ c.map (Zz w ls):=hsub
  have:=(Zzz hg.nd this);rw[Zx1,Zx1]at this;rw[Zx1];omega
 ·cases ls with
  | nil =>
   left
   have:(Zdb (Zz w []) c).map (·.1) ⊆ [[]]:=λk hk=>by obtain⟨s,_,e⟩:=Zyf.mp (hsub k hk);rw[<-e];simp[Zz]
   have:=(Zzz hg.nd this);simp at this ⊢;omega
  | cons l ls =>
   right
   intro k hk e;obtain⟨s,_,e'⟩:=Zyf.mp (hsub k hk);rw[e]at e';simp[Zz]at e'
theorem ZkS(w:Wk)(ls c:List Int)(e:EF)(r:HM.Env)(h:∀k∈(Zdb (Zz w ls) c).map (·.1),e (some (.pl (tupI k))::r)=some (.tuple [tupI k,.tuple ((c.filter λs=>Zz w ls s==k).map dI)])) :
  Zay Zaj e r ((Zco ((Zdb (Zz w ls) c).map (·.1))).map tupI)=some ((ZF w ls c).map Zai):=by
 rw[ZbC tupI (λk=>.tuple [tupI k,.tuple ((c.filter λs=>Zz w ls s==k).map dI)])]
 ·unfold ZF
  rw[Zyn];rfl
 ·intro k hk
  exact h k ((ZaT _).mem_iff.mp hk)
theorem ZnP(w:Wk)(ls c:List Int)(k:List Int)(hk:k∈(Zdb (Zz w ls) c).map (·.1)):Zm (ZaF (Zdb (Zz w ls) c)) (Zac k)=some ((c.filter λs=>Zz w ls s==k).map dI):=by have hg:=Zc8 (Zz w ls) c;rw[Zgk,hg.look,if_pos ((hg.mem k).mp hk)];rfl
theorem Zp4(f:Int->List Int)(pre:List Int)(g:Gs)(h:Grp f pre g)(k:List Int)(p:List Int)(e:Zm g k=some p):p.length<=pre.length:=by
 rw[h.look]at e;split at e
 ·cases e; exact ZyH _ _
 ·cases e
theorem Zgv(f:Int->List Int)(pre:List Int)(g:Gs)(h:Grp f pre g):g.length<=pre.length:=by have h2:g.map (·.1) ⊆ pre.map f:=λk hk=>(h.mem k).mp hk;have:=Zzz h.nd h2;simpa using this
theorem ZlO{w:Wk}(hv:Wk.V w){ls:List Int}(hl:Cr w.looks.length ls)(e2:Option B):∀(c pre:List Int) (g:Gs) (o:Option B),Grp (Zz w ls) pre g->(∀s∈c,0<=s/\s<(w.many:Int))->pre.length+c.length<1000 ->
  ∃o',Z2 4 Zei (c.map dI) [some (.pl w.d),some (.pl (tupI ls)),e2,some (.otl (ZaF g)),o]=some (.nx [some (.pl w.d),some (.pl (tupI ls)),e2,some (.otl (ZaF (c.foldl (λg s=>ZdJ g (Zz w ls s) s) g))),o'])
 | [],pre,g,o,_,_,_=>⟨o,rfl⟩
 | s::c,pre,g,o,hg,hb,hn=>by
  rw[Zyg]at hn;have hs:=hb s (Zx3 ..);have hlen:(ZaF g).length<1000000:=by have:=Zgv _ _ _ hg;unfold ZaF;rw[Zx1]; omega
  have h1:Zm (ZbL (ZaF g) (Zac (Zz w ls s))) (Zac (Zz w ls s))=some (((Zm g (Zz w ls s)).getD []).map dI):=by rw[Zp3,Zgk,ZhC,if_pos rfl]; rfl
  have h2:(((Zm g (Zz w ls s)).getD []).map dI).length<1000000:=by
   rw[Zx1];cases e:Zm g (Zz w ls s)with
   | none=>simp
   | some p=>have:=Zp4 _ _ _ hg _ _ e;simp; omega
  have h2':((Zm g (Zz w ls s)).getD []).length<1000000:=by rwa [Zx1]at h2
  have e:Zei [some (.pl w.d),some (.pl (tupI ls)),e2,some (.otl (ZaF g)),some (.pl (dI s))]=some (.nx [some (.pl w.d),some (.pl (tupI ls)),e2,some (.otl (ZaF (ZdJ g (Zz w ls s) s))),some (.pl (dI s))]):=by have ek:=ZqT hv hl hs.1 hs.2;simp[Zei,ek,ZaB,hlen,h1,h2'];rw[Zp3,Zjj];rfl
  obtain⟨o',ih⟩:=ZlO hv hl e2 c (pre++[s]) (ZdJ g (Zz w ls s) s) (some (.pl (dI s))) (hg.step s) (λx hx=>hb x (Zx4 _ hx)) (by simp; omega);refine⟨o',?_⟩;rw[Zx6,Zy8,<-ih];show(match Zei [some (.pl w.d),some (.pl (tupI ls)),e2,some (.otl (ZaF g)),some (.pl (dI s))]with | some (.nx r')=>_ | some (.ct r')=>_ | some (.bk r')=>_ | some (.rt d)=>_ | none=>_)=_;rw[e]
theorem Ziy{w:Wk}(hv:Wk.V w){ls:List Int}(hl:Cr w.looks.length ls){c:List Int}(hc:Cr w.many c):ZaK [w.d,tupI ls,tupI c]=some (.list ((ZF w ls c).map Zai)):=by
 have m2:=hv.m2;have hlen:=hc.len;have hb:c.length<1000000:=by omega
 obtain⟨o',e⟩:=ZlO hv hl (some (.pl (tupI c))) c [] [] none ⟨ZzH,λk=>by simp[ZeY]⟩ hc.2 (by simp; omega);have hk:=Zp0 w ls c (by omega);have hg:c.foldl (λg s=>ZdJ g (Zz w ls s) s) []=Zdb (Zz w ls) c:=rfl;rw[hg]at e;have hn:(Zco ((Zdb (Zz w ls) c).map (·.1))).length<1000000:=by rw[(ZaT _).length_eq,Zx1];have:=Zgv _ _ _ (Zc8 (Zz w ls) c);omega
 simp[ZaK,ZlE,hb];rw[show some (B.otl [])=some (B.otl (ZaF [])) from rfl,e];simp[hk,hn];rw[ZkS]
 ·simp
 ·intro k hk'
  simp[ZaB,ZnP w ls c k hk']
end HG
namespace HG
open PySem HM
def nbD:Nat->D->Bool
 | _,.none=>true
 | _,.int _=>true
 | _,.str x=>PyData.canLay0 (.str x)
 | 0,_=>false
 | n+1,.list ds=>ds.all (nbD n)
 | n+1,.tuple ds=>ds.all (nbD n)
 | _,_=>false
theorem ZiH{ds:List D}(h:∀d∈ds,d.canLay0=true):ZAz ds=true:=by
 induction ds with
 | nil=>rfl
 | cons d ds ih=>show(d.canLay0&&ZAz ds)=true;rw[h d (Zx3 ..),ih λx hx=>h x (Zx4 _ hx)];rfl
theorem ZjI{ds:List D}{n:Nat}(h:∀d∈ds,d.depth<=n):ZBt ds<=n:=by
 induction ds with
 | nil=>exact Zzr _
 | cons d ds ih=>show max d.depth (ZBt ds)<=n;have h1:=h d (Zx3 ..);have h2:=ih λx hx=>h x (Zx4 _ hx);omega
theorem ZiC:∀(n:Nat) (d:D),nbD n d=true->d.canLay0=true/\d.depth<=n
 | n,.none,_=>⟨rfl,by show 0<=n; omega⟩
 | n,.int _,_=>⟨rfl,by show 0<=n; omega⟩
 | n,.str x,h=>by refine⟨?_,by show 0<=n; omega⟩;cases n<;>exact h
 | 0,.bool _,h=>by cases h
 | 0,.list _,h=>by cases h
 | 0,.tuple _,h=>by cases h
 | 0,.dict _,h=>by cases h
 | n+1,.bool _,h=>by cases h
 | n+1,.dict _,h=>by cases h
 | n+1,.list ds,h=>by have h':ds.all (nbD n)=true:=h;have hh:=Zx9.mp h';refine⟨ZiH λd hd=>(ZiC n d (hh d hd)).1,?_⟩;show ZBt ds+1<=n+1;have:=ZjI λd hd=>(ZiC n d (hh d hd)).2;omega
 | n+1,.tuple ds,h=>by have h':ds.all (nbD n)=true:=h;have hh:=Zx9.mp h';refine⟨ZiH λd hd=>(ZiC n d (hh d hd)).1,?_⟩;show ZBt ds+1<=n+1;have:=ZjI λd hd=>(ZiC n d (hh d hd)).2;omega
theorem Zf9{n:Nat}{d:D}(h:nbD n d=true)(hn:n<=60):Zad d=true:=by obtain⟨h1,h2⟩:=ZiC n d h;unfold Zad;rw[h1,decide_eq_true (show d.depth<=60 by omega)];rfl
theorem ZkM{ds:List D}(ih:∀d∈ds,∀e,(∃m,nbD m e=true)->(Zy4 d e=true↔d=e)):∀(es:List D),(∀e∈es,∃m,nbD m e=true)->(ZBP ds es=true↔ds=es):=by
 induction ds with
 | nil =>
  intro es _;cases es with
  | nil=>exact⟨λ_=>rfl,λ_=>rfl⟩
  | cons e es=>exact⟨(λh=>by cases h),(λh=>by cases h)⟩
 | cons d ds ihl =>
  intro es he;cases es with
  | nil=>exact⟨(λh=>by cases h),(λh=>by cases h)⟩
  | cons e es=>show((Zy4 d e&&ZBP ds es)=true)↔_;rw[Zyk,ih d (Zx3 ..) e (he e (Zx3 ..)),ihl (λx hx=>ih x (Zx4 _ hx)) es (λx hx=>he x (Zx4 _ hx)),List.cons.injEq]
theorem Zuz{m:Nat}{ds:List D}(h:nbD m (.list ds)=true):∀d∈ds,∃m,nbD m d=true:=by
 cases m with
 | zero=>cases h
 | succ m=>have h':ds.all (nbD m)=true:=h;exact λd hd=>⟨m,Zx9.mp h' d hd⟩
theorem Zs2{m:Nat}{ds:List D}(h:nbD m (.tuple ds)=true):∀d∈ds,∃m,nbD m d=true:=by
 cases m with
 | zero=>cases h
 | succ m=>have h':ds.all (nbD m)=true:=h;exact λd hd=>⟨m,Zx9.mp h' d hd⟩
theorem ZeW{m:Nat}{b:Bool}(h:nbD m (.bool b)=true):False:=by cases m<;>cases h
theorem ZeU{m:Nat}{b:List (D × D)}(h:nbD m (.dict b)=true):False:=by cases m<;>cases h
theorem Zjm:∀(n:Nat) (d e:D),nbD n d=true->(∃m,nbD m e=true)->(Zy4 d e=true↔d=e):=by
 intro n
 induction n with
 | zero =>
  intro d e hd ⟨m,he⟩;cases d<;>first | cases hd | skip
  all_goals cases e<;>first
   | exact(ZeW he).elim
   | exact(ZeU he).elim
   | exact⟨λ_=>rfl,λ_=>rfl⟩
   | exact⟨(λh=>by cases h),(λh=>by cases h)⟩
   | (rename_i a b; show((a==b)=true)↔_; simp)
 | succ n ih =>
  intro d e hd ⟨m,he⟩;cases d with
  | bool _=>exact(ZeW hd).elim
  | dict _=>exact(ZeU hd).elim
  | list ds =>
   cases e with
   | list es=>show(ZBP ds es=true)↔_;rw[ZkM (λd h e he=>ih d e (Zx9.mp (show ds.all (nbD n)=true from hd) d h) he) es (Zuz he)];simp
   | bool _=>exact(ZeW he).elim
   | dict _=>exact(ZeU he).elim
   | _=>exact⟨(λh=>by cases h),(λh=>by cases h)⟩
  | tuple ds =>
   cases e with
   | tuple es=>show(ZBP ds es=true)↔_;rw[ZkM (λd h e he=>ih d e (Zx9.mp (show ds.all (nbD n)=true from hd) d h) he) es (Zs2 he)];simp
   | bool _=>exact(ZeW he).elim
   | dict _=>exact(ZeU he).elim
   | _=>exact⟨(λh=>by cases h),(λh=>by cases h)⟩
  | none=>cases e<;>first
   | exact(ZeW he).elim
   | exact(ZeU he).elim
   | exact⟨λ_=>rfl,λ_=>rfl⟩
   | exact⟨(λh=>by cases h),(λh=>by cases h)⟩
  | int i=>cases e<;>first
   | exact(ZeW he).elim
   | exact(ZeU he).elim
   | exact⟨(λh=>by cases h),(λh=>by cases h)⟩
   | (rename_i b; show((i==b)=true)↔_; simp)
  | str i=>cases e<;>first
   | exact(ZeW he).elim
   | exact(ZeU he).elim
   | exact⟨(λh=>by cases h),(λh=>by cases h)⟩
   | (rename_i b; show((i==b)=true)↔_; simp)
theorem Zue{n m:Nat}{d e:D}(hd:nbD n d=true)(he:nbD m e=true)(hn:n<=60)(hm:m<=60)[Decidable (d=e)]:gEq d e=some (.bool (decide (d=e))):=by
 unfold gEq;rw[Zf9 hd hn,Zf9 he hm,if_pos (by rfl)];congr 2;have h:=Zjm n d e hd ⟨m,he⟩;cases q:Zy4 d e with
 | true=>exact(decide_eq_true (h.mp q)).symm
 | false=>exact(decide_eq_false λz=>by rw[h.mpr z]at q; cases q).symm
theorem ZdZ{n:Nat}{d:D}(hd:nbD n d=true)(hn:n<=60):gEq d d=some (.bool true):=by unfold gEq;rw[Zf9 hd hn,(Zjm n d d hd ⟨n,hd⟩).mpr rfl];rfl
theorem Zhe{n m:Nat}{d e:D}(hd:nbD n d=true)(he:nbD m e=true)(hn:n<=60)(hm:m<=60)(h:d≠e):gEq d e=some (.bool false):=by have:Decidable (d=e):=isFalse h;rw[Zue hd he hn hm,decide_eq_false h]
theorem ZsK{n:Nat}{d:D}(hd:nbD n d=true)(hn:n<=60):gNe d d=some (.bool false):=by unfold gNe;rw[Zf9 hd hn,(Zjm n d d hd ⟨n,hd⟩).mpr rfl];rfl
theorem Zc6(n:Nat)(ns:List Int):nbD (n+1) (tupI ns)=true:=by show(ns.map dI).all (nbD n)=true;rw[Zx9];intro d hd;obtain⟨i,_,rfl⟩:=Zyf.mp hd;cases n<;>rfl
theorem Zj7(n:Nat)(ns:List Int):nbD (n+1) (.list (ns.map dI))=true:=Zc6 n ns
theorem ZvG{n:Nat}{ds:List D}(h:∀d∈ds,nbD n d=true):nbD (n+1) (.tuple ds)=true:=Zx9.mpr h
theorem ZrG{n:Nat}{ds:List D}(h:∀d∈ds,nbD n d=true):nbD (n+1) (.list ds)=true:=Zx9.mpr h
theorem Zgn(n:Nat)(i:Int):nbD n (.int i)=true:=by cases n<;>rfl
theorem Zuq(n:Nat):nbD n .none=true:=by cases n<;>rfl
end HG
namespace HG
open PySem HM
def lkV(n:Nat)(c:Int):List Int:=((Zx8 n).filter λ(k:Nat)=>decide (0<ZX (c+19*(k:Int)) 9857 4)).map λ(k:Nat)=>(k:Int)
theorem Zvw(n:Nat)(c:Int):Cr n (lkV n c):=ZhL n _
theorem ZtQ{w:Wk}(hv:Wk.V w)(c:Int):ZcD [w.d,.int c]=some (tupI (lkV w.looks.length c)):=by
 have l2:=hv.l2;have hok:okR (w.looks.length:Int)=true:=Zc4 (by omega);have hb:w.looks.length<1000000:=by omega
 have e2:atD [ZyG w.many,.tuple (w.deeds.map ZP),.tuple (w.looks.map tupI),tupI w.beg,tupI w.goal] 2=some (.tuple (w.looks.map tupI)):=by simp
 unfold Wk.d;simp[ZcD,Zij,hok,Zaa,hb];rw[ZbB dN (λk:Nat=>decide (0<ZX (c+19*(k:Int)) 9857 4)) dN]
 ·simp[lkV]
 ·intro k hk
  have m:=Zcr (c+19*(k:Int)) 9857 4 (by decide) (by decide);simp[m]
 ·intro k hk _
  simp
def Zqx(w:Wk)(c:List Int)(d:Int):D:=if Zao w c d then tupI (ZJ w c d)else .none
theorem ZkG{w:Wk}(hv:Wk.V w){d:Int}(h0:0<=d)(h1:d<w.deeds.length)(e1:Option B):∀(c acc:List Int) (o:Option B),(∀s∈c,0<=s/\s<(w.many:Int))->acc.length+c.length*10<100000 ->
  (Zao w c d=true->∃o',Z2 4 Za3 (c.map dI) [some (.pl w.d),e1,some (.pl (.int d)),some (.ol (acc.map dI)),o]=some (.nx [some (.pl w.d),e1,some (.pl (.int d)),some (.ol ((acc++Zba w c d).map dI)),o'])) /\
  (Zao w c d=false->Z2 4 Za3 (c.map dI) [some (.pl w.d),e1,some (.pl (.int d)),some (.ol (acc.map dI)),o]=some (.rt .none))
 | [],acc,o,_,_=>⟨λ_=>⟨o,by simp[Zba]; rfl⟩,λh=>by simp[Zao]at h⟩
 | s::c,acc,o,hs,hl=>by
  rw[Zyg]at hl;have hb:=hs s (Zx3 ..);have hr:=(Zoo hv h0 h1 hb.1 hb.2).len;have m2:=hv.m2;have hd:=ZlB h0 h1 (w:=w);have hrow:=Zoq hv h0 h1 hb.1 hb.2;have g1:atD [ZyG w.many,.tuple (w.deeds.map ZP),.tuple (w.looks.map tupI),tupI w.beg,tupI w.goal] 1=some (.tuple (w.deeds.map ZP)):=by simp
  have ec:Zao w (s::c) d=(decide (0<(ZbM w d s).length)&&Zao w c d):=rfl;have ef:Zba w (s::c) d=ZbM w d s++Zba w c d:=rfl;cases hz:ZbM w d s with
  | nil =>
   have e:Za3 [some (.pl w.d),e1,some (.pl (.int d)),some (.ol (acc.map dI)),some (.pl (dI s))]=some (.rt .none):=by rw[hz]at hrow;have e3:gEq (tupI []) (.tuple [])=some (.bool true):=ZdZ (Zc6 0 []) (by decide);unfold Wk.d;simp[Za3,hd,ZP,hrow,-gEq];rw[e3]
   have ec':Zao w (s::c) d=false:=by rw[ec,hz]; rfl
   refine⟨λh=>(by rw[ec']at h; cases h),λ_=>?_⟩;rw[Zx6];show(match Za3 [some (.pl w.d),e1,some (.pl (.int d)),some (.ol (acc.map dI)),some (.pl (dI s))]with | some (.nx r')=>_ | some (.ct r')=>_ | some (.bk r')=>_ | some (.rt d)=>_ | none=>_)=_;rw[e]
  | cons x xs =>
   have hlen:acc.length+(ZbM w d s).length<1000000:=by omega
   have e:Za3 [some (.pl w.d),e1,some (.pl (.int d)),some (.ol (acc.map dI)),some (.pl (dI s))]=some (.nx [some (.pl w.d),e1,some (.pl (.int d)),some (.ol ((acc++ZbM w d s).map dI)),some (.pl (dI s))]):=by rw[hz]at hrow hlen;rw[Zyg]at hlen;have e3:gEq (tupI (x::xs)) (.tuple [])=some (.bool false):=Zhe (Zc6 0 (x::xs)) (Zc6 0 []) (by decide) (by decide) (by simp);unfold Wk.d;simp[Za3,hd,ZP,hrow,hz,-gEq];rw[e3];simp[hd,ZP,hrow,hlen]
   have ec':Zao w (s::c) d=Zao w c d:=by rw[ec,hz]; rfl
   obtain⟨i1,i2⟩:=ZkG hv h0 h1 e1 c (acc++ZbM w d s) (some (.pl (dI s))) (λx hx=>hs x (Zx4 _ hx)) (by rw[Zyl]; omega);have e5:Z2 4 Za3 ((s::c).map dI) [some (.pl w.d),e1,some (.pl (.int d)),some (.ol (acc.map dI)),o]=Z2 4 Za3 (c.map dI) [some (.pl w.d),e1,some (.pl (.int d)),some (.ol ((acc++ZbM w d s).map dI)),some (.pl (dI s))]:=by rw[Zx6];show(match Za3 [some (.pl w.d),e1,some (.pl (.int d)),some (.ol (acc.map dI)),some (.pl (dI s))]with | some (.nx r')=>_ | some (.ct r')=>_ | some (.bk r')=>_ | some (.rt d)=>_ | none=>_)=_;rw[e]
   rw[e5,ec',ef,<-Zzh];exact⟨i1,i2⟩
theorem ZkQ{w:Wk}(hv:Wk.V w)(h7:w.many<=7){c:List Int}(hc:Cr w.many c){d:Int}(h0:0<=d)(h1:d<w.deeds.length):ZbT [w.d,tupI c,.int d]=some (Zqx w c d):=by
 have m2:=hv.m2;have hlen:=hc.len;have hb:c.length<1000000:=by omega
 obtain⟨i1,i2⟩:=ZkG hv h0 h1 (some (.pl (tupI c))) c [] none hc.2 (by simp; omega);unfold Zqx;cases h:Zao w c d with
 | false=>have e:=i2 h;rw[ZzU]at e;simp[ZbT,Zhp,hb,e]
 | true =>
  obtain⟨o',e⟩:=i1 h;rw[ZzU,ZAu]at e;have hf:Zq0 (Zba w c d)=true:=Zx9.mpr λx hx=>by have:=Zsr hv hc h0 h1 x hx;rw[Zyk,decide_eq_true_eq,decide_eq_true_eq];omega
  simp[ZbT,Zhp,hb,e,Zcu,hf,ZJ,ZfB]
theorem ZiV{w:Wk}(hv:Wk.V w){ls:List Int}(hl:Cr w.looks.length ls)(e2:Option B):∀(c pre:List Int) (g:Gs) (o o':Option B),Grp (Zz w ls) pre g->(∀s∈c,0<=s/\s<(w.many:Int))->pre.length+c.length<1000 ->
  ∃p p',Z2 4 Zcg (c.map dI) [some (.pl w.d),some (.pl (tupI ls)),e2,some (.otl (ZaF g)),o,o']=some (.nx [some (.pl w.d),some (.pl (tupI ls)),e2,some (.otl (ZaF (c.foldl (λg s=>ZdJ g (Zz w ls s) s) g))),p,p'])
 | [],pre,g,o,o',_,_,_=>⟨o,o',rfl⟩
 | s::c,pre,g,o,o',hg,hb,hn=>by
  rw[Zyg]at hn;have hs:=hb s (Zx3 ..);have hlen:(ZaF g).length<1000000:=by have:=Zgv _ _ _ hg;unfold ZaF;rw[Zx1]; omega
  have l2:=hv.l2;have hll:=hl.len;have hlb:ls.length<1000000:=by omega
  have ec:Zay Zaj (eIx (bOf (eIx (bOf (eIx (Zo 1) (eC (.int 2)))) (Zc 0))) (Zc 5)) [some (.pl w.d),some (.pl (tupI ls)),e2,some (.otl (ZaF g)),some (.pl (dI s)),o'] (ls.map dI)=some ((Zz w ls s).map dI):=by
   rw[ZbC dI (λl=>dI (ZkE w l s))]
   ·simp[Zz]
   ·intro l hl'
    have hb:=hl.2 l hl';unfold Wk.d;simp[ZpL hb.1 hb.2,ZpP hv hb.1 hb.2 hs.1 hs.2]
  have e:Zcg [some (.pl w.d),some (.pl (tupI ls)),e2,some (.otl (ZaF g)),some (.pl (dI s)),o']=some (.nx [some (.pl w.d),some (.pl (tupI ls)),e2,some (.otl (ZaF (ZdJ g (Zz w ls s) s))),some (.pl (dI s)),some (.pl (tupI (Zz w ls s)))]):=by
   have ek:=Zgk g (Zz w ls s);have et:=ZaB (Zz w ls s);cases h:Zm g (Zz w ls s)with
   | none =>
    rw[h]at ek;have ea:ZbL g (Zz w ls s)=g++[(Zz w ls s,[])]:=by unfold ZbL; rw[h]
    have eb:ZaF g++[(Zac (Zz w ls s),[])]=ZaF (ZbL g (Zz w ls s)):=by rw[ea]; simp[ZaF]
    have h1:Zm (ZaF (ZbL g (Zz w ls s))) (Zac (Zz w ls s))=some []:=by rw[Zgk,ZhC,if_pos rfl,h]; rfl
    simp[Zcg,hlb,ec,et,ek,hlen];rw[eb,h1];simp[Zjj];rfl
   | some p =>
    rw[h]at ek;have ea:ZbL g (Zz w ls s)=g:=by unfold ZbL; rw[h]
    have hp:p.length<1000000:=by have:=Zp4 _ _ _ hg _ _ h; omega
    simp[Zcg,hlb,ec,et,ek,hlen,hp,Zjj];unfold ZdJ;rw[ea]
  obtain⟨p,p',ih⟩:=ZiV hv hl e2 c (pre++[s]) (ZdJ g (Zz w ls s) s) (some (.pl (dI s))) (some (.pl (tupI (Zz w ls s)))) (hg.step s) (λx hx=>hb x (Zx4 _ hx)) (by simp; omega);refine⟨p,p',?_⟩;rw[Zx6,Zy8,<-ih];show(match Zcg [some (.pl w.d),some (.pl (tupI ls)),e2,some (.otl (ZaF g)),some (.pl (dI s)),o']with | some (.nx r')=>_ | some (.ct r')=>_ | some (.bk r')=>_ | some (.rt d)=>_ | none=>_)=_;rw[e]
theorem ZeF{w:Wk}(hv:Wk.V w){ls:List Int}(hl:Cr w.looks.length ls){c:List Int}(hc:Cr w.many c):Zan [w.d,tupI ls,tupI c]=some (.list ((ZF w ls c).map Zai)):=by
 have m2:=hv.m2;have hlen:=hc.len;have hb:c.length<1000000:=by omega
 obtain⟨p,p',e⟩:=ZiV hv hl (some (.pl (tupI c))) c [] [] none none ⟨ZzH,λk=>by simp[ZeY]⟩ hc.2 (by simp; omega);have hk:=Zp0 w ls c (by omega);have hg:c.foldl (λg s=>ZdJ g (Zz w ls s) s) []=Zdb (Zz w ls) c:=rfl;rw[hg]at e;have hn:(Zco ((Zdb (Zz w ls) c).map (·.1))).length<1000000:=by rw[(ZaT _).length_eq,Zx1];have:=Zgv _ _ _ (Zc8 (Zz w ls) c);omega
 simp[Zan,Zik,hb];rw[show some (B.otl [])=some (B.otl (ZaF [])) from rfl,e];simp[hk,hn];rw[ZkS]
 ·simp
 ·intro k hk'
  simp[ZaB,ZnP w ls c k hk']
theorem ZeP{w:Wk}{c:List Int}{d:Int}(h:d∈doV w c):0<=d/\d<w.deeds.length/\Zao w c d=true:=by unfold doV at h;obtain⟨k,hk,rfl⟩:=Zyf.mp h;obtain⟨h1,h2⟩:=Zyx.mp hk;have:=Zyq.mp h1;exact⟨by omega,by omega,h2⟩
end HG
namespace HG4
open PySem HM HG
end HG4
namespace HM
open PySem
theorem Zfb{α:Type}{c:TF}{e:EF}{r:Env}(a b:α->D)(p:α->Bool)(f:α->D):∀(xs:List α),(∀x∈xs,c (some (.pl (a x))::some (.pl (b x))::r)=some (p x))->(∀x∈xs,p x=true->e (some (.pl (a x))::some (.pl (b x))::r)=some (f x)) ->
  Zda c e r (xs.map λx=>.tuple [a x,b x])=some ((xs.filter p).map f)
 | [],_,_=>rfl
 | x::xs,h1,h2=>by
  have ih:=Zfb a b p f xs (λy hy=>h1 y (Zx4 _ hy)) (λy hy=>h2 y (Zx4 _ hy));have hc:=h1 x (Zx3 ..);rw[Zx6];unfold Zda;rw[hc];cases hp:p x with
  | true=>have he:=h2 x (Zx3 ..) hp;dsimp only;rw[he];dsimp only;rw[ih,ZCe hp];rfl
  | false=>dsimp only;rw[ih,ZCf (by simp[hp])]
theorem Z7{P:Option Out->Prop}{a b:SF}{r r':Env}(h:a r=some (.nx r'))(k:P (b r')):P (Zr a b r):=by show P (match a r with | some (.nx r')=>b r' | some (.rt d)=>some (.rt d) | some (.bk r')=>some (.bk r') | some (.ct r')=>some (.ct r') | none=>none);rw[h];exact k
end HM
namespace HG4
open PySem HM HG
def Zqy(w:Wk)(ls c:List Int)(s:Int):List Int:=c.filter λx=>Zz w ls x==Zz w ls s
theorem Zwq{n:Nat}{c:List Int}(p:Int->Bool)(h:Cr n c):Cr n (c.filter p):=⟨h.1.filter p,λx hx=>h.2 x (Zyx.mp hx).1⟩
def alV(w:Wk):List Int:=(Zx8 w.looks.length).map λ(k:Nat)=>(k:Int)
theorem ZxR(w:Wk):Cr w.looks.length (alV w):=by
 have:=ZhL w.looks.length λ_=>true
 rwa [ZAo.mpr λ_ _=>rfl]at this
theorem ZnE{w:Wk}{ls c:List Int}{s x:Int}:x∈Zqy w ls c s↔x∈c/\Zz w ls x=Zz w ls s:=by unfold Zqy;rw[Zyx,beq_iff_eq]
theorem Zut{w:Wk}{c:List Int}{d x:Int}:x∈ZJ w c d↔∃s∈c,x∈ZbM w d s:=by
 unfold ZJ;rw[(sortI_perm _).mem_iff,Ze9];unfold Zba;rw[ZAj]
 constructor
 ·rintro (h | h)
  ·cases h
  ·exact h
 ·exact .inr
end HG4
namespace HM
open PySem
def Z4:Option Out->Option D
 | some (.nx _)=>some .none
 | some (.rt d)=>some d
 | _=>none
end HM
namespace HG4
open PySem HM HG
end HG4
namespace HG5
open PySem HM HG HG4
def Zp(w:Wk)(ls c:List Int):List (List Int):=(ZF w ls c).map (·.2)
theorem ZlJ{w:Wk}{ls c p:List Int}:p∈Zp w ls c↔∃s∈c,p=Zqy w ls c s:=by
 unfold Zp ZF;rw[Zyn,Zyf];have hg:=Zc8 (Zz w ls) c
 constructor
 ·rintro ⟨k,hk,rfl⟩
  obtain⟨s,hs,e⟩:=Zyf.mp ((hg.mem k).mp ((ZaT _).mem_iff.mp hk));refine⟨s,hs,?_⟩;subst e;rfl
 ·rintro ⟨s,hs,rfl⟩
  exact⟨Zz w ls s,(ZaT _).mem_iff.mpr ((hg.mem _).mpr (Zyf.mpr ⟨s,hs,rfl⟩)),rfl⟩
theorem ZfI{w:Wk}{ls c p:List Int}(hc:Cr w.many c)(h:p∈Zp w ls c):Cr w.many p/\p≠[]/\∀x∈p,x∈c:=by obtain⟨s,hs,rfl⟩:=ZlJ.mp h;exact⟨Zwq _ hc,ZBK (ZnE.mpr ⟨hs,rfl⟩),λx hx=>(ZnE.mp hx).1⟩
theorem ZjP(w:Wk)(ls c:List Int):(Zp w ls c).Nodup:=by unfold Zp ZF;rw[Zyn];have hg:=Zc8 (Zz w ls) c;have hn:(Zco ((Zdb (Zz w ls) c).map (·.1))).Nodup:=(ZaT _).nodup_iff.mpr hg.nd;rw[ZBQ,ZBX];refine List.Pairwise.imp_of_mem (λ{a b} ha hb hne e=>?_) (ZBQ.mp hn);obtain⟨s,hs,es⟩:=Zyf.mp ((hg.mem a).mp ((ZaT _).mem_iff.mp ha));have h1:s∈c.filter λs=>Zz w ls s==a:=Zyx.mpr ⟨hs,beq_iff_eq.mpr es⟩;have e':(c.filter λs=>Zz w ls s==a)=c.filter λs=>Zz w ls s==b:=e;rw[e']at h1;have:=beq_iff_eq.mp (Zyx.mp h1).2;exact hne (es.symm.trans this)
theorem ZhD{w:Wk}{ls c:List Int}(h:c≠[]):Zp w ls c≠[]:=by
 cases c with
 | nil=>exact absurd rfl h
 | cons s c=>exact ZBK (ZlJ.mpr ⟨s,Zx3 ..,rfl⟩)
def ZiF:Nat->List (List Int)
 | 0=>[[]]
 | n+1=>ZiF n++(ZiF n).map (·++[(n:Int)])
theorem Znw:∀n,(ZiF n).length=2 ^ n
 | 0=>rfl
 | n+1=>by show(ZiF n++(ZiF n).map (·++[(n:Int)])).length=_;rw[Zyl,Zx1,Znw n,Nat.pow_succ];omega
theorem ZjZ:∀(n:Nat) (c:List Int),Cr n c->c∈ZiF n
 | 0,c,h=>by
  cases c with
  | nil=>exact Zym.mpr rfl
  | cons x c=>have:=h.2 x (Zx3 ..); omega
 | n+1,c,h=>by
  show c∈ZiF n++(ZiF n).map (·++[(n:Int)])
  by_cases hm:(n:Int)∈c
  ·-- the last is n
   have key:∀(c:List Int),c.Pairwise (· < ·)->(∀x∈c,0<=x/\x<((n+1:Nat):Int))->(n:Int)∈c->∃c',c=c'++[(n:Int)]/\c'.Pairwise (· < ·)/\∀x∈c',0<=x/\x<(n:Int):=by
    intro c
    induction c with
    | nil=>intro _ _ h; simp at h
    | cons x c ih =>
     intro hp hb hm;obtain⟨p1,p2⟩:=ZyQ.mp hp
     by_cases hx:x=(n:Int)
     ·cases c with
      | nil=>exact⟨[],by rw[hx]; rfl,.nil,λy hy=>by simp at hy⟩
      | cons y c=>have h1:=p1 y (Zx3 ..);have h2:=hb y (Zx4 _ (Zx3 ..));omega
     ·have hm':(n:Int)∈c:=by
       rcases Zyo.mp hm with e | e
       ·exact absurd e.symm hx
       ·exact e
      obtain⟨c',e,q1,q2⟩:=ih p2 (λy hy=>hb y (Zx4 _ hy)) hm';refine⟨x::c',by rw[e]; rfl,ZyQ.mpr ⟨λy hy=>p1 y (by rw[e]; exact ZyF _ hy),q1⟩,λy hy=>?_⟩;rcases Zyo.mp hy with e' | hy
      ·have h1:=p1 (n:Int) hm'
       have h2:=hb x (Zx3 ..);rw[e'];omega
      ·exact q2 y hy
   obtain⟨c',e,q1,q2⟩:=key c h.1 h.2 hm;exact Zyw _ (Zyf.mpr ⟨c',ZjZ n c' ⟨q1,q2⟩,e.symm⟩)
  ·refine ZyF _ (ZjZ n c ⟨h.1,λx hx=>?_⟩)
   have h1:=h.2 x hx;have:x≠(n:Int):=λe=>hm (e▸hx);omega
theorem ZhU{n:Nat}{L:List (List Int)}(hn:L.Nodup)(h:∀c∈L,Cr n c):L.length<=2 ^ n:=by rw[<-Znw n];exact Zzz hn λc hc=>ZjZ n c (h c hc)
def ZZ(w:Wk)(c:List Int):Bool:=c.all λs=>w.goal.contains s
def Win(w:Wk)(ls:List Int):Nat->List Int->Bool
 | 0,c=>ZZ w c
 | n+1,c=>ZZ w c||(Zx8 w.deeds.length).any λd=>Zao w c d&&(Zp w ls (ZJ w c d)).all λp=>Win w ls n p
theorem ZhG{w:Wk}{ls:List Int}:∀(n:Nat) (c:List Int),Win w ls n c=true->Win w ls (n+1) c=true
 | 0,c,h=>by show(ZZ w c||_)=true;rw[show ZZ w c=true from h];rfl
 | n+1,c,h=>by
  have h':(ZZ w c||(Zx8 w.deeds.length).any λd=>Zao w c d&&(Zp w ls (ZJ w c d)).all λp=>Win w ls n p)=true:=h;show(ZZ w c||(Zx8 w.deeds.length).any λd=>Zao w c d&&(Zp w ls (ZJ w c d)).all λp=>Win w ls (n+1) p)=true;rw[ZzJ]at h' ⊢;rcases h' with h' | h'
  ·exact .inl h'
  ·right
   obtain⟨d,hd,hq⟩:=Zy9.mp h';rw[Zyk]at hq;refine Zy9.mpr ⟨d,hd,?_⟩;rw[Zyk];exact⟨hq.1,Zx9.mpr λp hp=>ZhG n p (Zx9.mp hq.2 p hp)⟩
theorem Zhg{w:Wk}{ls:List Int}{n m:Nat}(h:n<=m){c:List Int}(q:Win w ls n c=true):Win w ls m c=true:=by
 induction h with
 | refl=>exact q
 | step _ ih=>exact ZhG _ _ ih
def Zcb(w:Wk)(ls:List Int)(L:List (List Int)):Prop:=∀c∈L,∀d:Nat,d<w.deeds.length->Zao w c d=true->∀p∈Zp w ls (ZJ w c d),p∈L
theorem ZhF{w:Wk}{ls:List Int}{L:List (List Int)}(hL:Zcb w ls L){n:Nat}(h:∀c∈L,Win w ls (n+1) c=true->Win w ls n c=true):∀(m:Nat),∀c∈L,Win w ls m c=true->Win w ls n c=true
 | 0,c,_,q=>Zhg (Zzr n) q
 | m+1,c,hc,q=>by
  refine h c hc ?_;have q':(ZZ w c||(Zx8 w.deeds.length).any λd=>Zao w c d&&(Zp w ls (ZJ w c d)).all λp=>Win w ls m p)=true:=q;show(ZZ w c||(Zx8 w.deeds.length).any λd=>Zao w c d&&(Zp w ls (ZJ w c d)).all λp=>Win w ls n p)=true;rw[ZzJ]at q' ⊢;rcases q' with q' | q'
  ·exact .inl q'
  ·right
   obtain⟨d,hd,hq⟩:=Zy9.mp q';rw[Zyk]at hq;refine Zy9.mpr ⟨d,hd,?_⟩;rw[Zyk];exact⟨hq.1,Zx9.mpr λp hp=>ZhF hL h m p (hL c hc d (Zyq.mp hd) hq.1 p hp) (Zx9.mp hq.2 p hp)⟩
theorem ZdU{α:Type}{p q:α->Bool}:∀{L:List α},(∀x∈L,p x=true->q x=true)->(∃x∈L,q x=true/\p x=false)->(L.filter p).length<(L.filter q).length
 | [],_,⟨x,hx,_⟩=>by simp at hx
 | y::L,h,⟨x,hx,h1,h2⟩=>by
  have le:∀{L:List α},(∀x∈L,p x=true->q x=true)->(L.filter p).length<=(L.filter q).length:=by
   intro L
   induction L with
   | nil=>intro _; exact Zyb _
   | cons z L ih =>
    intro h;have:=ih λx hx=>h x (Zx4 _ hx);have hz:=h z (Zx3 ..);rw[ZzF,ZzF];cases hp:p z with
    | true=>rw[hz hp]; simpa using this
    | false =>
     cases q z
     ·simpa using this
     ·simp; omega
  have hL:=λx hx=>h x (Zx4 y hx);have hy:=h y (Zx3 ..);rw[ZzF,ZzF];rcases Zyo.mp hx with e | hx
  ·subst e
   rw[h2,h1];have:=le hL;simp; omega
  ·have:=ZdU hL ⟨x,hx,h1,h2⟩
   cases hp:p y with
   | true=>rw[hy hp]; simpa using this
   | false =>
    cases q y
    ·simpa using this
    ·simp; omega
theorem Zuj{w:Wk}{ls:List Int}{L:List (List Int)}(hL:Zcb w ls L){m:Nat}{c:List Int}(hc:c∈L)(q:Win w ls m c=true):Win w ls L.length c=true:=by
 have key:∀t:Nat,(∃n,n<=t/\∀c∈L,Win w ls (n+1) c=true->Win w ls n c=true)\/t+1<=(L.filter λc=>Win w ls (t+1) c).length:=by
  intro t
  induction t with
  | zero =>
   by_cases h:∀c∈L,Win w ls 1 c=true->Win w ls 0 c=true
   ·exact .inl ⟨0,Zyb 0,h⟩
   ·right
    have h':∃c∈L,Win w ls 1 c=true/\Win w ls 0 c=false:=by
     apply ZB5;intro z;apply h;intro c hc h1;cases h0:Win w ls 0 c with
     | true=>rfl
     | false=>exact absurd ⟨c,hc,h1,h0⟩ z
    have:=ZdU (p:=λc=>Win w ls 0 c) (q:=λc=>Win w ls 1 c) (L:=L) (λx _ hx=>ZhG 0 x hx) h';show 1<=(L.filter λc=>Win w ls 1 c).length;omega
  | succ t ih =>
   rcases ih with⟨n,hn,hs⟩ | ih
   ·exact .inl ⟨n,by omega,hs⟩
   ·by_cases h:∀c∈L,Win w ls (t+1+1) c=true->Win w ls (t+1) c=true
    ·exact .inl ⟨t+1,Zyb _,h⟩
    ·right
     have h':∃c∈L,Win w ls (t+1+1) c=true/\Win w ls (t+1) c=false:=by
      apply ZB5;intro z;apply h;intro c hc h1;cases h0:Win w ls (t+1) c with
      | true=>rfl
      | false=>exact absurd ⟨c,hc,h1,h0⟩ z
     have:=ZdU (p:=λc=>Win w ls (t+1) c) (q:=λc=>Win w ls (t+1+1) c) (L:=L) (λx _ hx=>ZhG (t+1) x hx) h';omega
 rcases key L.length with⟨n,hn,hs⟩ | h
 ·exact Zhg hn (ZhF hL hs m c hc q)
 ·have:=ZyH (λc=>Win w ls (L.length+1) c) L
  omega
end HG5
namespace HG5
open PySem HM HG
def ZcY:SF :=
 (Zr (Z9 5 (Zl ZbT (Zd (Zc 0) (Zd (eIx (Zo 2) (Zc 3)) (Zd (Zc 4) Zn)))))
  (sIf (tV (op2 ZeG (Zc 5) (eC .none))) (Zr (ZQ 6 (ZeD (Zah (bOf (Zl Zan (Zd (Zc 0) (Zd (Zc 1) (Zd (Zc 5) Zn)))))) Zaj (Zc 1)))
  (ZdH 6 (ZQ 2 (Zlb (Zo 2) (ZM (Zah (bOf (Zc 6))) (tV (Zhd (Zc 0) (Zo 3))) (Zc 0)))))) ZaD))
def ZdO:SF :=
 (Zr (Zbd 4 (Zcs (Za8 (bOf (eIx (Zo 0) (eC (.int 1)))))) ZcY)
  (Z9 3 (op2 Zbo (Zc 3) (eC (.int 1)))))
def Zfv:SF :=
 (Zr (ZQ 2 (ZeD (Zah (bOf (Zl Zan (Zd (Zc 0) (Zd (Zc 1) (Zd (eIx (Zo 0) (eC (.int 3))) Zn)))))) Zaj (Zc 1)))
  (Zr (Z9 3 (eC (.int 0)))
  (Zr (Zky 100000 (tV (op2 gLt (Zc 3) (Za8 (Zo 2)))) ZdO)
  (ZdH 2 (ZC (Zc 2))))))
def Zcl:List D->Option D:=fnOf 2 7 Zfv
def Zil:SF :=
 (ZC (op2 gEq (eOf (ZM (Zah (bOf (Zc 1))) (tV (Zhj (Zc 0) (bOf (eIx (Zo 1) (eC (.int 4)))))) (Zc 0))) (eOf (ZeC Zn))))
def ZcE:List D->Option D:=fnOf 2 2 Zil
def ZS:SF :=
 (Zr (Z9 5 (Zl ZbT (Zd (Zc 0) (Zd (Zc 2) (Zd (Zc 4) Zn)))))
  (sIf (tV (op2 ZeG (Zc 5) (eC .none))) (sIf (tV (op2 gEq (eOf (ZeD (Zah (bOf (Zl Zan (Zd (Zc 0) (Zd (Zc 1) (Zd (Zc 5) Zn)))))) (tV (Zbr (Zc 1) (Zo 5))) (Zc 1))) (eOf (ZeC Zn)))) (ZC (eC (.bool true))) ZaD) ZaD))
def Zbq:SF :=
 (Zr (Zbd 4 (Zcs (Za8 (bOf (eIx (Zo 0) (eC (.int 1)))))) ZS)
  (ZC (eC (.bool false))))
def ZbQ:List D->Option D:=fnOf 4 6 Zbq
def ZcS:SF :=
 (ZgU 3 (Zc 4) (Zc 5))
def Za9:SF :=
 (sIf (ZoM (tV (Zbr (Zc 4) (Zo 3))) (tV (Zom ZbQ (Zd (Zc 0) (Zd (Zc 1) (Zd (Zc 4) (Zd (ZmI (Zo 3)) Zn))))))) (Zed 6 (Zc 4)) ZaD)
def Zch:SF :=
 (Zr (ZQ 6 (ZeC Zn))
  (Zr (Zbd 4 (Zah (bOf (Zc 2))) Za9)
  (ZdH 6 (Zbd 4 (Zah (bOf (Zc 6))) ZcS))))
def Zbs:SF :=
 (sIf (tV (Zl ZcE (Zd (Zc 0) (Zd (Zc 4) Zn)))) (ZgU 3 (Zc 4) (eC (.int 0))) ZaD)
def Zej:SF :=
 (Zr (Z9 2 (Zl Zcl (Zd (Zc 0) (Zd (Zc 1) Zn))))
  (Zr (ZQ 3 fDt)
  (Zr (Zbd 4 (Zah (bOf (Zc 2))) Zbs)
  (Zr (Zbd 5 (Zjh (eC (.int 1)) (op2 Zbo (Za8 (Zo 2)) (eC (.int 1)))) Zch)
  (ZdH 3 (ZC (Zc 3)))))))
def Zdj:List D->Option D:=fnOf 2 7 Zej
end HG5
namespace HG5
open PySem HM HG HG4
theorem ZtD{a b:List Int}(h:tupI a=tupI b):a=b:=by
 injection h with h
 have:=congrArg ZaI h;rw[Zcu,Zcu]at this;exact ZyU this
theorem ZlY(p:List Int):Zad (tupI p)=true:=Zf9 (Zc6 0 p) (by decide)
theorem ZuN(a b:List Int):Zy4 (tupI a) (tupI b)=(a==b):=by have h:=Zjm 1 (tupI a) (tupI b) (Zc6 0 a) ⟨1,Zc6 0 b⟩;apply ZAM.mpr;rw[h,beq_iff_eq];exact⟨ZtD,λe=>by rw[e]⟩
theorem Znz(L:List (List Int))(p:List Int):Zlj (L.map tupI) (tupI p)=some (L.contains p):=by
 unfold Zlj;have h1:(L.map tupI).all Zad=true:=Zx9.mpr λd hd=>by obtain⟨c,_,rfl⟩:=Zyf.mp hd;exact ZlY c
 rw[ZlY,h1,if_pos (by rfl)];congr 1
 induction L with
 | nil=>rfl
 | cons c L ih=>rw[Zx6,ZzG,ZuN,List.contains_cons,ih (by rw[Zx6,Zzi,Zyk]at h1;exact h1.2)];rw[show(c==p)=(p==c) from ZAM.mpr ⟨λh=>beq_iff_eq.mpr (beq_iff_eq.mp h).symm,λh=>beq_iff_eq.mpr (beq_iff_eq.mp h).symm⟩]
inductive Rch(w:Wk)(ls:List Int):List Int->Prop where
 | beg {p:List Int} (h:p∈Zp w ls w.beg):Rch w ls p
 | step {c p:List Int} {d:Nat} (r:Rch w ls c) (hd:d<w.deeds.length) (hc:Zao w c d=true) (h:p∈Zp w ls (ZJ w c d)):Rch w ls p
structure ZeE(w:Wk)(ls:List Int)(L:List (List Int)):Prop where
 nd:L.Nodup
 cr:∀c∈L,Cr w.many c/\c≠[]
 rch:∀c∈L,Rch w ls c
theorem ZeE.len{w:Wk}{ls:List Int}{L:List (List Int)}(I:ZeE w ls L)(h7:w.many<=7):L.length<=128:=by have h1:=ZhU I.nd λc hc=>(I.cr c hc).1;have h2:2 ^ w.many<=2 ^ 7:=ZBu (by decide) h7;have h3:2 ^ 7=128:=rfl;omega
theorem ZnW{w:Wk}{c:List Int}{d:Int}(h0:c≠[])(hc:Zao w c d=true):ZJ w c d≠[]:=by
 cases c with
 | nil=>exact absurd rfl h0
 | cons s c =>
  unfold Zao at hc;have h1:=Zx9.mp hc s (Zx3 ..);have h2:0<(ZbM w d s).length:=by simpa using h1
  cases hr:ZbM w d s with
  | nil=>rw[hr]at h2; simp at h2
  | cons x xs=>exact ZBK (Zut.mpr ⟨s,Zx3 ..,by rw[hr]; exact Zx3 ..⟩)
def Zcx(w:Wk)(ls c:List Int)(L:List (List Int))(d:Nat):List (List Int):=if Zao w c d then L++(Zp w ls (ZJ w c d)).filter (λp=>!L.contains p)else L
theorem Zrp{w:Wk}{ls c:List Int}{L:List (List Int)}{d:Nat}:∃M,Zcx w ls c L d=L++M:=by
 unfold Zcx;split
 ·exact⟨_,rfl⟩
 ·exact⟨[],by simp⟩
theorem Zsp{w:Wk}{ls c:List Int}{L:List (List Int)}{d:Nat}(h:Zao w c d=true){p:List Int}(hp:p∈Zp w ls (ZJ w c d)):p∈Zcx w ls c L d:=by
 unfold Zcx;rw[if_pos h]
 by_cases q:p∈L
 ·exact ZyF _ q
 ·refine Zyw _ (Zyx.mpr ⟨hp,?_⟩)
  simp[q]
theorem Zrq{w:Wk}(hv:Wk.V w){ls c:List Int}{L:List (List Int)}{d:Nat}(I:ZeE w ls L)(hc:c∈L)(hd:d<w.deeds.length):ZeE w ls (Zcx w ls c L d):=by
 unfold Zcx;split
 ·rename_i can
  have hl:=Zeb hv (I.cr c hc).1 (show(0:Int)<=(d:Int) by omega) (by omega);refine⟨?_,λp hp=>?_,λp hp=>?_⟩
  ·rw[ZAe]
   refine⟨I.nd,(ZjP w ls _).filter _,λa ha b hb e=>?_⟩;subst e;have:=(Zyx.mp hb).2;simp[ha]at this
  ·rcases Zyy.mp hp with hp | hp
   ·exact I.cr p hp
   ·have:=ZfI hl (Zyx.mp hp).1
    exact⟨this.1,this.2.1⟩
  ·rcases Zyy.mp hp with hp | hp
   ·exact I.rch p hp
   ·exact .step (I.rch c hc) hd can (Zyx.mp hp).1
 ·exact I
section
variable{w:Wk}(hv:Wk.V w)(h7:w.many<=7){ls:List Int}(hl:Cr w.looks.length ls)
include hv h7 hl
theorem Ztj{L:List (List Int)}(I:ZeE w ls L){at_:Nat}{c:List Int}(hc:L[at_]?=some c){d:Nat}(hd:d<w.deeds.length)(o5 o6:Option B) :
  ∃p5 p6,ZcY [some (.pl w.d),some (.pl (tupI ls)),some (.ol (L.map tupI)),some (.pl (dN at_)),some (.pl (dN d)),o5,o6]=some (.nx [some (.pl w.d),some (.pl (tupI ls)),some (.ol ((Zcx w ls c L d).map tupI)),some (.pl (dN at_)),some (.pl (dN d)),p5,p6]):=by
 have hm:c∈L:=Zyu hc;obtain⟨cr,ne⟩:=I.cr c hm;have hat:atD (L.map tupI) (at_:Int)=some (tupI c):=Zc7 (by rw[Zyr,hc]; rfl);have hled:=ZkQ hv h7 cr (show(0:Int)<=(d:Int) by omega) (by omega);have hlen:=I.len h7;unfold Zqx at hled;cases can:Zao w c d with
 | false=>rw[can]at hled;refine⟨some (.pl .none),o6,?_⟩;unfold Zcx;rw[can];simp[ZcY,hat,hled]
 | true =>
  rw[can]at hled;have lc:=Zeb hv cr (show(0:Int)<=(d:Int) by omega) (by omega);have hs:=ZeF hv hl lc;have hsn:(ZF w ls (ZJ w c d)).length<=8:=by unfold ZF;rw[Zx1,(ZaT _).length_eq,Zx1];have:=Zgv _ _ _ (Zc8 (Zz w ls) (ZJ w c d));have:=lc.len;omega
  have hsb:(ZF w ls (ZJ w c d)).length<1000000:=by omega
  have hpn:(Zp w ls (ZJ w c d)).length<=8:=by unfold Zp; rw[Zx1]; exact hsn
  have e1:∀r:HM.Env,Zda Zaj (Zc 1) r ((ZF w ls (ZJ w c d)).map Zai)=some ((Zp w ls (ZJ w c d)).map tupI):=λr=>by have e:=Zfb (c:=Zaj) (e:=Zc 1) (r:=r) (λp:List Int × List Int=>tupI p.1) (λp=>tupI p.2) (λ_=>true) (λp=>tupI p.2) (ZF w ls (ZJ w c d)) (λp _=>rfl) (λp _ _=>by simp);rw[ZAo.mpr λ_ _=>rfl]at e;unfold Zp;rw[Zyn];exact e
  have e2:∀r:HM.Env,r[2]?=some (some (.ol (L.map tupI)))->Zay (tV (Zhd (Zc 0) (Zo 3))) (Zc 0) r ((Zp w ls (ZJ w c d)).map tupI)=some (((Zp w ls (ZJ w c d)).filter λp=>!L.contains p).map tupI):=λr r2=>by
   rw[ZbB tupI (λp=>!L.contains p) tupI]
   ·intro p _
    simp[r2,Znz,-Zzn]
   ·intro p _ _
    simp
  have hfl:=ZyH (λp=>!L.contains p) (Zp w ls (ZJ w c d));have hbig:L.length+((Zp w ls (ZJ w c d)).filter λp=>!L.contains p).length<1000000:=by omega
  have hpb:(Zp w ls (ZJ w c d)).length<1000000:=by omega
  refine⟨some (.pl (tupI (ZJ w c d))),some (.pl (.list ((Zp w ls (ZJ w c d)).map tupI))),?_⟩;unfold Zcx;rw[can];simp[ZcY,hat,hled,hs,hsb,e1,hpb,e2,hbig,-Zzn]
theorem ZlM{at_:Nat}{c:List Int}:∀(ds:List Nat) (M:List (List Int)) (o4 o5 o6:Option B),ZeE w ls M->M[at_]?=some c->(∀d∈ds,d<w.deeds.length) ->
  ∃p4 p5 p6,Z2 4 ZcY (ds.map dN) [some (.pl w.d),some (.pl (tupI ls)),some (.ol (M.map tupI)),some (.pl (dN at_)),o4,o5,o6]=some (.nx [some (.pl w.d),some (.pl (tupI ls)),some (.ol ((ds.foldl (Zcx w ls c) M).map tupI)),some (.pl (dN at_)),p4,p5,p6]) /\
   ZeE w ls (ds.foldl (Zcx w ls c) M)/\(∃N,ds.foldl (Zcx w ls c) M=M++N)/\∀d∈ds,Zao w c d=true->∀p∈Zp w ls (ZJ w c d),p∈ds.foldl (Zcx w ls c) M
 | [],M,o4,o5,o6,I,hc,_=>⟨o4,o5,o6,rfl,I,⟨[],by simp⟩,λd hd=>by simp at hd⟩
 | d::ds,M,o4,o5,o6,I,hc,hds=>by
  have hm:c∈M:=Zyu hc;have hd:=hds d (Zx3 ..);obtain⟨p5,p6,e⟩:=Ztj hv h7 hl I hc hd o5 o6;obtain⟨N1,eN1⟩:=Zrp (w:=w) (ls:=ls) (c:=c) (L:=M) (d:=d);have hc':(Zcx w ls c M d)[at_]?=some c:=by rw[eN1,ZyB (Zyd.mp hc).1];exact hc
  obtain⟨q4,q5,q6,f,I',⟨N2,eN2⟩,hall⟩:=ZlM ds (Zcx w ls c M d) (some (.pl (dN d))) p5 p6 (Zrq hv I hm hd) hc' λx hx=>hds x (Zx4 _ hx);refine⟨q4,q5,q6,?_,I',⟨N1++N2,?_⟩,λx hx can p hp=>?_⟩
  ·rw[Zx6,Zy8,<-f]
   show(match ZcY [some (.pl w.d),some (.pl (tupI ls)),some (.ol (M.map tupI)),some (.pl (dN at_)),some (.pl (dN d)),o5,o6]with | some (.nx r')=>_ | some (.ct r')=>_ | some (.bk r')=>_ | some (.rt d)=>_ | none=>_)=_;rw[e]
  ·rw[Zy8,eN2,eN1,Zzh]
  ·rw[Zy8]
   rcases Zyo.mp hx with e' | hx
   ·subst e'
    rw[eN2];exact ZyF _ (Zsp can hp)
   ·exact hall x hx can p hp
theorem ZkO:∀(fuel at_:Nat) (L:List (List Int)) (o4 o5 o6:Option B),ZeE w ls L->at_<=L.length->129<=at_+fuel->(∀i c,i<at_->L[i]?=some c->∀d:Nat,d<w.deeds.length->Zao w c d=true->∀p∈Zp w ls (ZJ w c d),p∈L) ->
  ∃L' p3 p4 p5 p6,Za0 (tV (op2 gLt (Zc 3) (Za8 (Zo 2)))) ZdO fuel [some (.pl w.d),some (.pl (tupI ls)),some (.ol (L.map tupI)),some (.pl (dN at_)),o4,o5,o6]=some (.nx [some (.pl w.d),some (.pl (tupI ls)),some (.ol (L'.map tupI)),p3,p4,p5,p6]) /\
   ZeE w ls L'/\(∃N,L'=L++N)/\Zcb w ls L'
 | 0,at_,L,o4,o5,o6,I,h1,h2,_=>by have:=I.len h7;omega
 | fuel+1,at_,L,o4,o5,o6,I,h1,h2,hdone=>by
  by_cases hlt:at_<L.length
  ·have hok:okR (w.deeds.length:Int)=true:=Zc4 (by have:=hv.d2; omega)
   have hdb:w.deeds.length<1000000:=by have:=hv.d2; omega
   obtain⟨c,hc⟩:∃c,L[at_]?=some c:=⟨_,Zye hlt⟩;obtain⟨p4,p5,p6,f,I',⟨N,eN⟩,hall⟩:=ZlM hv h7 hl (at_:=at_) (c:=c) (Zx8 w.deeds.length) L o4 o5 o6 I hc λd hd=>Zyq.mp hd;generalize hM:(Zx8 w.deeds.length).foldl (Zcx w ls c) L=M at *;have body:ZdO [some (.pl w.d),some (.pl (tupI ls)),some (.ol (L.map tupI)),some (.pl (dN at_)),o4,o5,o6]=some (.nx [some (.pl w.d),some (.pl (tupI ls)),some (.ol (M.map tupI)),some (.pl (dN (at_+1))),p4,p5,p6]):=by have i0:Zbe (.pl w.d)=some [ZyG w.many,.tuple (w.deeds.map ZP),.tuple (w.looks.map tupI),tupI w.beg,tupI w.goal]:=rfl;simp[ZdO,i0,hok,Zaa,hdb,-Zbe];simp[hok,Zaa,hdb,f]
   obtain⟨L',q3,q4,q5,q6,g,J,⟨N',eN'⟩,hcl⟩:=ZkO fuel (at_+1) M p4 p5 p6 I' (by rw[eN,Zyl]; omega) (by omega) (λi c' hi hc' d hd can p hp=>by
    by_cases e:i=at_
    ·subst e
     rw[eN,ZyB hlt,hc]at hc';cases hc';exact hall d (Zyq.mpr hd) can p hp
    ·have hi':i<at_:=by omega
     rw[eN,ZyB (by omega)]at hc';rw[eN];exact ZyF _ (hdone i c' hi' hc' d hd can p hp))
   refine⟨L',q3,q4,q5,q6,?_,J,⟨N++N',by rw[eN',eN,Zzh]⟩,hcl⟩;have ht:(tV (op2 gLt (Zc 3) (Za8 (Zo 2)))) [some (.pl w.d),some (.pl (tupI ls)),some (.ol (L.map tupI)),some (.pl (dN at_)),o4,o5,o6]=some true:=by simp[hlt]
   unfold Za0;rw[ht];dsimp only;rw[body];exact g
  ·have e:at_=L.length:=by omega
   have ht:(tV (op2 gLt (Zc 3) (Za8 (Zo 2)))) [some (.pl w.d),some (.pl (tupI ls)),some (.ol (L.map tupI)),some (.pl (dN at_)),o4,o5,o6]=some false:=by simp[hlt]
   refine⟨L,some (.pl (dN at_)),o4,o5,o6,?_,I,⟨[],by simp⟩,λc hc d hd can p hp=>?_⟩
   ·unfold Za0
    rw[ht]
   ·obtain⟨i,hi,hq⟩:=ZAn hc
    exact hdone i c (by omega) (by rw[Zye hi,hq]) d hd can p hp
theorem Zku:∃L,Zcl [w.d,tupI ls]=some (.list (L.map tupI))/\ZeE w ls L/\Zcb w ls L/\∀p∈Zp w ls w.beg,p∈L:=by
 have hs:=ZeF hv hl hv.bc;have hbl:=hv.bc.len;have hsb:(ZF w ls w.beg).length<1000000:=by unfold ZF;rw[Zx1,(ZaT _).length_eq,Zx1];have:=Zgv _ _ _ (Zc8 (Zz w ls) w.beg);omega
 have e1:∀r:HM.Env,Zda Zaj (Zc 1) r ((ZF w ls w.beg).map Zai)=some ((Zp w ls w.beg).map tupI):=λr=>by have e:=Zfb (c:=Zaj) (e:=Zc 1) (r:=r) (λp:List Int × List Int=>tupI p.1) (λp=>tupI p.2) (λ_=>true) (λp=>tupI p.2) (ZF w ls w.beg) (λp _=>rfl) (λp _ _=>by simp);rw[ZAo.mpr λ_ _=>rfl]at e;unfold Zp;rw[Zyn];exact e
 have I0:ZeE w ls (Zp w ls w.beg):=⟨ZjP w ls w.beg,λc hc=>⟨(ZfI hv.bc hc).1,(ZfI hv.bc hc).2.1⟩,λc hc=>.beg hc⟩;obtain⟨L,p3,p4,p5,p6,g,I,⟨N,eN⟩,hcl⟩:=ZkO hv h7 hl 100000 0 (Zp w ls w.beg) none none none I0 (Zzr _) (by omega) (λi c hi=>by omega);refine⟨L,?_,I,hcl,λp hp=>by rw[eN]; exact ZyF _ hp⟩;have i0:Zbe (.pl w.d)=some [ZyG w.many,.tuple (w.deeds.map ZP),.tuple (w.looks.map tupI),tupI w.beg,tupI w.goal]:=rfl;have g':Za0 (tV (op2 gLt (Zc 3) (Za8 (Zo 2)))) ZdO 100000 [some (.pl w.d),some (.pl (tupI ls)),some (.ol ((Zp w ls w.beg).map tupI)),some (.pl (.int 0)),none,none,none]=some (.nx [some (.pl w.d),some (.pl (tupI ls)),some (.ol (L.map tupI)),p3,p4,p5,p6]):=g;show Z4 (Zfv [some (.pl w.d),some (.pl (tupI ls)),none,none,none,none,none])=_;have e':Zfv [some (.pl w.d),some (.pl (tupI ls)),none,none,none,none,none]=some (.rt (.list (L.map tupI))):=by unfold Zfv;refine Z7 (P:=λq=>q=_) (r':=[some (.pl w.d),some (.pl (tupI ls)),some (.ol ((Zp w ls w.beg).map tupI)),none,none,none,none]) (by simp[i0,hs,hsb,e1,-Zbe]; simp[hs,hsb,e1]) ?_;refine Z7 (P:=λq=>q=_) (r':=[some (.pl w.d),some (.pl (tupI ls)),some (.ol ((Zp w ls w.beg).map tupI)),some (.pl (.int 0)),none,none,none]) (by simp) ?_;refine Z7 (P:=λq=>q=_) (r':=[some (.pl w.d),some (.pl (tupI ls)),some (.ol (L.map tupI)),p3,p4,p5,p6]) g' ?_;simp
 rw[e'];rfl
end
end HG5
namespace HG5
open PySem HM HG HG4
theorem ZoO{α:Type}(ns:List Int):gEq (.list (ns.map dI)) (.list [])=some (.bool ns.isEmpty):=by
 cases ns with
 | nil=>exact ZdZ (Zj7 0 []) (by decide)
 | cons n ns=>exact Zhe (Zj7 0 (n::ns)) (Zj7 0 []) (by decide) (by decide) (by simp)
theorem ZnS(L:List (List Int)):gEq (.list (L.map tupI)) (.list [])=some (.bool L.isEmpty):=by
 have h:∀L:List (List Int),nbD 2 (.list (L.map tupI))=true:=λL=>ZrG λd hd=>by obtain⟨c,_,rfl⟩:=Zyf.mp hd;exact Zc6 0 c
 cases L with
 | nil=>exact ZdZ (h []) (by decide)
 | cons c L=>exact Zhe (h (c::L)) (h []) (by decide) (by decide) (by simp)
theorem filter_empty{α:Type}(p:α->Bool)(L:List α):(L.filter λx=>!p x).isEmpty=L.all p:=by
 induction L with
 | nil=>rfl
 | cons x L ih =>
  rw[ZzF,Zzi];cases p x with
  | true=>simpa using ih
  | false=>rfl
theorem Zoj{w:Wk}(hv:Wk.V w){c:List Int}(hc:c.length<1000):ZcE [w.d,tupI c]=some (.bool (ZZ w c)):=by
 have hb:c.length<1000000:=by omega
 have i0:Zbe (.pl w.d)=some [ZyG w.many,.tuple (w.deeds.map ZP),.tuple (w.looks.map tupI),tupI w.beg,tupI w.goal]:=rfl;have e:∀r:HM.Env,r[0]?=some (some (.pl w.d))->Zay (tV (Zhj (Zc 0) (bOf (eIx (Zo 1) (eC (.int 4)))))) (Zc 0) r (c.map dI)=some ((c.filter λs=>!w.goal.contains s).map dI):=λr r0=>by
  rw[ZbB dI (λs=>!w.goal.contains s) dI]
  ·intro s _
   simp[r0,i0,Znv,Zcu,-Zbe,-Zzn];simp[Znv,Zcu,-Zzn]
  ·intro s _ _
   simp
 have g:=ZoO (α:=Int) (c.filter λs=>!w.goal.contains s);rw[filter_empty (λs=>w.goal.contains s) c]at g;simp[ZcE,Zil,hb,e,g,ZZ,-gEq,-Zzn]
abbrev Tb:=List (List Int × Int)
def encM(M:Tb):List (List Ky × D):=M.map λp=>(Zac p.1,dI p.2)
theorem Zcm(M:Tb)(k:List Int):Zm (encM M) (Zac k)=(Zm M k).map dI:=by
 unfold Zm encM;rw[List.find?_map];have e:((λp:List Ky × D=>decide (p.1=Zac k))∘λp:List Int × Int=>(Zac p.1,dI p.2))=λp=>decide (p.1=k):=by
  funext p
  simp only[ZBe];exact decide_eq_decide.mpr (Zln p.1 k)
 rw[e];cases M.find? λp=>decide (p.1=k)<;>rfl
theorem ZhN(M:Tb)(k:List Int)(v:Int):putD (encM M) (Zac k) (dI v)=encM (putD M k v):=by
 unfold putD;have e1:((encM M).any λp=>decide (p.1=Zac k))=M.any λp=>decide (p.1=k):=by
  unfold encM;rw[List.any_map];congr 1
  funext p
  simp only[ZBe];exact decide_eq_decide.mpr (Zln p.1 k)
 rw[e1];split
 ·unfold encM
  rw[Zyn,Zyn];refine Zzx λp _=>?_;simp only[ZBe]
  by_cases h:p.1=k
  ·rw[if_pos h,if_pos (by rw[h])]
  ·rw[if_neg h,if_neg (λe=>h (Zgj e))]
 ·unfold encM
  rw[ZyE];rfl
theorem ZiG(k:List Int):Zm ([]:Tb) k=none:=rfl
theorem ZbV(x:List Int)(v:Int)(M:Tb)(k:List Int):Zm ((x,v)::M) k=if x=k then some v else Zm M k:=by
 unfold Zm;rw[ZyW]
 by_cases h:x=k<;>simp[h]
theorem Zsm(x k:List Int)(v:Int)(M:Tb):Zm (putD M x v) k=if x=k then some v else Zm M k:=by
 have rep:∀M:Tb,Zm (M.map λp=>if p.1=x then(p.1,v)else p) k=if x=k then(Zm M k).map (λ_=>v)else Zm M k:=by
  intro M
  induction M with
  | nil=>rw[ZzU,ZiG]; split<;>rfl
  | cons p M ih =>
   obtain⟨a,b⟩:=p;rw[Zx6]
   by_cases ha:a=x
   ·rw[if_pos (show(a,b).1=x from ha),ZbV,ZbV,ih]
    show(if a=k then some v else _)=_
    by_cases hk:x=k
    ·rw[if_pos (by rw[ha,hk]),if_pos hk,if_pos (by rw[ha,hk])]; rfl
    ·rw[if_neg (by rw[ha]; exact hk),if_neg hk,if_neg hk,if_neg (by rw[ha]; exact hk)]
   ·rw[if_neg (show ¬(a,b).1=x from ha),ZbV,ZbV,ih]
    by_cases hk:a=k
    ·rw[if_pos hk,if_pos hk]
     have:x≠k:=λe=>ha (hk.trans e.symm);rw[if_neg this]
    ·rw[if_neg hk,if_neg hk]
 have app:∀M:Tb,Zm (M++[(x,v)]) k=match Zm M k with | some u=>some u | none=>if x=k then some v else none:=by
  intro M
  induction M with
  | nil=>rw[ZAu,ZbV,ZiG]
  | cons p M ih =>
   obtain⟨a,b⟩:=p;rw[ZCc,ZbV,ZbV,ih]
   by_cases hk:a=k
   ·rw[if_pos hk,if_pos hk]
   ·rw[if_neg hk,if_neg hk]
 have has:∀M:Tb,(M.any λp=>decide (p.1=x))=(Zm M x).isSome:=by
  intro M
  induction M with
  | nil=>rfl
  | cons p M ih =>
   obtain⟨a,b⟩:=p;rw[ZzG,ZbV,ih]
   by_cases ha:a=x<;>simp[ha]
 unfold putD;split
 ·rename_i h
  rw[rep]
  by_cases hk:x=k
  ·subst hk
   rw[has]at h;rw[if_pos rfl,if_pos rfl];obtain⟨u,hu⟩:=ZyL.mp h;rw[hu]; rfl
  ·rw[if_neg hk,if_neg hk]
 ·rename_i h
  rw[app]
  by_cases hk:x=k
  ·subst hk
   rw[has]at h;rw[if_pos rfl,if_pos rfl];cases hq:Zm M x with
   | none=>rfl
   | some u=>rw[hq]at h; exact absurd rfl h
  ·rw[if_neg hk,if_neg hk]
   cases Zm M k<;>rfl
theorem Zjn(x:List Int)(v:Int)(M:Tb):(putD M x v).length<=M.length+1:=by
 unfold putD;split
 ·rw[Zx1]; omega
 ·rw[Zyl]; exact Zyb _
def Zs(M:Tb)(p:List Int):Bool:=(Zm M p).isSome
def Zdq(w:Wk)(ls c:List Int)(M:Tb):Bool:=(Zx8 w.deeds.length).any λd=>Zao w c d&&(Zp w ls (ZJ w c d)).all λp=>Zs M p
section
variable{w:Wk}(hv:Wk.V w)(h7:w.many<=7){ls:List Int}(hl:Cr w.looks.length ls)
include hv h7 hl
theorem Zpq{c:List Int}(hc:Cr w.many c){M:Tb}{d:Nat}(hd:d<w.deeds.length)(o5:Option B) :
  ((Zao w c d&&(Zp w ls (ZJ w c d)).all λp=>Zs M p)=true->ZS [some (.pl w.d),some (.pl (tupI ls)),some (.pl (tupI c)),some (.pl (.dict (Zg (encM M)))),some (.pl (dN d)),o5]=some (.rt (.bool true))) /\
  ((Zao w c d&&(Zp w ls (ZJ w c d)).all λp=>Zs M p)=false->∃p5,ZS [some (.pl w.d),some (.pl (tupI ls)),some (.pl (tupI c)),some (.pl (.dict (Zg (encM M)))),some (.pl (dN d)),o5]=some (.nx [some (.pl w.d),some (.pl (tupI ls)),some (.pl (tupI c)),some (.pl (.dict (Zg (encM M)))),some (.pl (dN d)),p5])):=by
 have hled:=ZkQ hv h7 hc (show(0:Int)<=(d:Int) by omega) (by omega);unfold Zqx at hled;cases can:Zao w c d with
 | false=>rw[can]at hled;refine⟨λh=>(by cases h),λ_=>⟨some (.pl .none),?_⟩⟩;simp[ZS,hled]
 | true =>
  rw[can]at hled;have lc:=Zeb hv hc (show(0:Int)<=(d:Int) by omega) (by omega);have hs:=ZeF hv hl lc;have hsb:(ZF w ls (ZJ w c d)).length<1000000:=by unfold ZF;rw[Zx1,(ZaT _).length_eq,Zx1];have:=Zgv _ _ _ (Zc8 (Zz w ls) (ZJ w c d));have:=lc.len;omega
  have e1:∀r:HM.Env,r[3]?=some (some (.pl (.dict (Zg (encM M)))))->Zda (tV (Zbr (Zc 1) (Zo 5))) (Zc 1) r ((ZF w ls (ZJ w c d)).map Zai)=some (((Zp w ls (ZJ w c d)).filter λp=>!Zs M p).map tupI):=λr r3=>by have e:=Zfb (c:=tV (Zbr (Zc 1) (Zo 5))) (e:=Zc 1) (r:=r) (λp:List Int × List Int=>tupI p.1) (λp=>tupI p.2) (λp=>!Zs M p.2) (λp=>tupI p.2) (ZF w ls (ZJ w c d)) (λp _=>by have hk:ZaV (tupI p.2)=some (Zac p.2):=ZaB p.2;simp[r3,dec_enc,hk,Zcm,Zs]) (λp _ _=>by simp);have e':((ZF w ls (ZJ w c d)).map λp:List Int × List Int=>ZyT [tupI p.1,tupI p.2])=(ZF w ls (ZJ w c d)).map Zai:=rfl;rw[<-e',e];unfold Zp;rw[ZBv,Zyn];rfl
  have g:=ZnS ((Zp w ls (ZJ w c d)).filter λp=>!Zs M p);rw[filter_empty]at g;cases ha:(Zp w ls (ZJ w c d)).all λp=>Zs M p with
  | true=>rw[ha]at g;refine⟨λ_=>?_,λh=>(by cases h)⟩;simp[ZS,hled,hs,hsb,e1,g,-gEq]
  | false=>rw[ha]at g;refine⟨λh=>(by cases h),λ_=>⟨some (.pl (tupI (ZJ w c d))),?_⟩⟩;simp[ZS,hled,hs,hsb,e1,g,-gEq]
theorem ZlP{c:List Int}(hc:Cr w.many c){M:Tb}:∀(ds:List Nat) (o4 o5:Option B),(∀d∈ds,d<w.deeds.length) ->
  ((ds.any λd=>Zao w c d&&(Zp w ls (ZJ w c d)).all λp=>Zs M p)=true->Z2 4 ZS (ds.map dN) [some (.pl w.d),some (.pl (tupI ls)),some (.pl (tupI c)),some (.pl (.dict (Zg (encM M)))),o4,o5]=some (.rt (.bool true))) /\
  ((ds.any λd=>Zao w c d&&(Zp w ls (ZJ w c d)).all λp=>Zs M p)=false->∃p4 p5,Z2 4 ZS (ds.map dN) [some (.pl w.d),some (.pl (tupI ls)),some (.pl (tupI c)),some (.pl (.dict (Zg (encM M)))),o4,o5]=some (.nx [some (.pl w.d),some (.pl (tupI ls)),some (.pl (tupI c)),some (.pl (.dict (Zg (encM M)))),p4,p5]))
 | [],o4,o5,_=>⟨λh=>(by cases h),λ_=>⟨o4,o5,rfl⟩⟩
 | d::ds,o4,o5,hds=>by
  obtain⟨t1,t2⟩:=Zpq hv h7 hl hc (M:=M) (hds d (Zx3 ..)) o5;rw[ZzG];cases hq:(Zao w c d&&(Zp w ls (ZJ w c d)).all λp=>Zs M p)with
  | true=>refine⟨λ_=>?_,λh=>(by cases h)⟩;rw[Zx6];show(match ZS [some (.pl w.d),some (.pl (tupI ls)),some (.pl (tupI c)),some (.pl (.dict (Zg (encM M)))),some (.pl (dN d)),o5]with | some (.nx r')=>_ | some (.ct r')=>_ | some (.bk r')=>_ | some (.rt d)=>_ | none=>_)=_;rw[t1 hq]
  | false =>
   obtain⟨p5,e⟩:=t2 hq;obtain⟨i1,i2⟩:=ZlP hc ds (some (.pl (dN d))) p5 λx hx=>hds x (Zx4 _ hx);have e5:Z2 4 ZS ((d::ds).map dN) [some (.pl w.d),some (.pl (tupI ls)),some (.pl (tupI c)),some (.pl (.dict (Zg (encM M)))),o4,o5]=Z2 4 ZS (ds.map dN) [some (.pl w.d),some (.pl (tupI ls)),some (.pl (tupI c)),some (.pl (.dict (Zg (encM M)))),some (.pl (dN d)),p5]:=by rw[Zx6];show(match ZS [some (.pl w.d),some (.pl (tupI ls)),some (.pl (tupI c)),some (.pl (.dict (Zg (encM M)))),some (.pl (dN d)),o5]with | some (.nx r')=>_ | some (.ct r')=>_ | some (.bk r')=>_ | some (.rt d)=>_ | none=>_)=_;rw[e]
   rw[e5,ZBM];exact⟨i1,i2⟩
theorem Zrw{c:List Int}(hc:Cr w.many c){M:Tb}:ZbQ [w.d,tupI ls,tupI c,.dict (Zg (encM M))]=some (.bool (Zdq w ls c M)):=by
 obtain⟨i1,i2⟩:=ZlP hv h7 hl hc (M:=M) (Zx8 w.deeds.length) none none λd hd=>Zyq.mp hd;have hok:okR (w.deeds.length:Int)=true:=Zc4 (by have:=hv.d2; omega);have hdb:w.deeds.length<1000000:=by have:=hv.d2; omega
 have i0:Zbe (.pl w.d)=some [ZyG w.many,.tuple (w.deeds.map ZP),.tuple (w.looks.map tupI),tupI w.beg,tupI w.goal]:=rfl;show Z4 (Zbq [some (.pl w.d),some (.pl (tupI ls)),some (.pl (tupI c)),some (.pl (.dict (Zg (encM M)))),none,none])=_;unfold Zdq;cases h:(Zx8 w.deeds.length).any λd=>Zao w c d&&(Zp w ls (ZJ w c d)).all λp=>Zs M p with
 | true =>
  have e:Zbq [some (.pl w.d),some (.pl (tupI ls)),some (.pl (tupI c)),some (.pl (.dict (Zg (encM M)))),none,none]=some (.rt (.bool true)):=by simp[Zbq,i0,-Zbe];simp[hok,Zaa,hdb,i1 h]
  rw[e]; rfl
 | false =>
  obtain⟨p4,p5,f⟩:=i2 h;have e:Zbq [some (.pl w.d),some (.pl (tupI ls)),some (.pl (tupI c)),some (.pl (.dict (Zg (encM M)))),none,none]=some (.rt (.bool false)):=by simp[Zbq,i0,-Zbe];simp[hok,Zaa,hdb,f]
  rw[e]; rfl
end
end HG5
namespace HG5
open PySem HM HG HG4
def ZcQ(w:Wk)(ls:List Int)(t:Nat)(c:List Int):Option Int:=((Zx8 (t+1)).find? λn=>Win w ls n c).map λ(n:Nat)=>(n:Int)
theorem Zcn{w:Wk}{ls:List Int}{t:Nat}{c:List Int}:(ZcQ w ls t c).isSome=Win w ls t c:=by
 unfold ZcQ;rw[Zzu];cases h:Win w ls t c with
 | true=>rw[ZBY]; exact⟨t,Zyq.mpr (by omega),h⟩
 | false =>
  cases q:(Zx8 (t+1)).find? λn=>Win w ls n c with
  | none=>rfl
  | some n=>have h1:=List.find?_some q;have h2:=Zyq.mp (ZAN q);rw[Zhg (show n<=t by omega) h1]at h;cases h
theorem Zq5{w:Wk}{ls:List Int}{t:Nat}{c:List Int}:ZcQ w ls (t+1) c=match ZcQ w ls t c with
  | some k=>some k
  | none=>if Win w ls (t+1) c then some ((t+1:Nat):Int)else none:=by
 unfold ZcQ;rw[List.range_succ (n:=t+1),ZBU];cases(Zx8 (t+1)).find? λn=>Win w ls n c with
 | some n=>rfl
 | none=>show Zze _ (Option.or none ([t+1].find? λn=>Win w ls n c))=_;rw[Option.none_or,ZyW];cases Win w ls (t+1) c<;>rfl
theorem Zkt{w:Wk}{ls:List Int}{t:Nat}{c:List Int}{k:Int}(h:ZcQ w ls t c=some k):∃n:Nat,k=(n:Int)/\n<=t/\Win w ls n c=true/\∀m,m<n->Win w ls m c=false:=by
 unfold ZcQ at h;obtain⟨n,hn,rfl⟩:=Zx2.mp h;refine⟨n,rfl,?_,List.find?_some (p:=λn=>Win w ls n c) hn,λm hm=>?_⟩
 ·have:=Zyq.mp (ZAN hn)
  omega
 ·cases q:Win w ls m c with
  | false=>rfl
  | true =>
   obtain⟨_,as,bs,e,hno⟩:=List.find?_eq_some_iff_append.mp hn;have hmem:m∈Zx8 (t+1):=Zyq.mpr (by have:=Zyq.mp (ZAN hn);omega);have hp:(as++n::bs).Pairwise (· < ·):=by rw[<-e]; exact ZCs
   rw[e]at hmem;rcases Zyy.mp hmem with h1 | h1
   ·have:=hno m h1
    rw[q]at this;cases this
   ·rcases Zyo.mp h1 with h2 | h2
    ·omega
    ·have:=(ZyQ.mp (List.pairwise_append.mp hp).2.1).1 m h2
     omega
structure ZeL(w:Wk)(ls:List Int)(L:List (List Int))(t:Nat)(M:Tb):Prop where
 look:∀c,Zm M c=if c∈L then ZcQ w ls t c else none
theorem Zgw(v:Int)(k:List Int):∀(ms:List (List Int)) (M:Tb),Zm (ms.foldl (λM c=>putD M c v) M) k=if k∈ms then some v else Zm M k
 | [],M=>by simp
 | c::ms,M=>by
  rw[Zy8,Zgw v k ms,Zsm]
  by_cases h1:k∈ms
  ·rw[if_pos h1,if_pos (Zx4 _ h1)]
  ·rw[if_neg h1]
   by_cases h2:c=k
   ·rw[if_pos h2,if_pos (by rw[h2]; exact Zx3 ..)]
   ·rw[if_neg h2,if_neg]
    intro h;rcases Zyo.mp h with e | e
    ·exact h2 e.symm
    ·exact h1 e
theorem Zgx(v:Int):∀(ms:List (List Int)) (M:Tb),(ms.foldl (λM c=>putD M c v) M).length<=M.length+ms.length
 | [],M=>Zyb _
 | c::ms,M=>by rw[Zy8,Zyg];have:=Zgx v ms (putD M c v);have:=Zjn c v M;omega
def ZaY(w:Wk)(ls:List Int)(L:List (List Int))(M:Tb):List (List Int):=L.filter λc=>!Zs M c&&Zdq w ls c M
theorem Zj9{w:Wk}{ls:List Int}{L:List (List Int)}(hL:Zcb w ls L){t:Nat}{M:Tb}(T:ZeL w ls L t M):ZeL w ls L (t+1) ((ZaY w ls L M).foldl (λM c=>putD M c ((t+1:Nat):Int)) M):=by
 have hhas:∀c∈L,Zs M c=Win w ls t c:=λc hc=>by unfold Zs;rw[T.look,if_pos hc,Zcn]
 refine⟨λc=>?_⟩;rw[Zgw,T.look]
 by_cases hc:c∈L
 ·rw[if_pos hc,if_pos hc,Zq5]
  have hcan:Zdq w ls c M=(Zx8 w.deeds.length).any λd=>Zao w c d&&(Zp w ls (ZJ w c d)).all λp=>Win w ls t p:=by
   unfold Zdq;apply ZAM.mpr;rw[Zy9,Zy9]
   constructor
   ·rintro ⟨d,hd,hq⟩
    rw[Zyk]at hq;refine⟨d,hd,?_⟩;rw[Zyk];refine⟨hq.1,Zx9.mpr λp hp=>?_⟩;rw[<-hhas p (hL c hc d (Zyq.mp hd) hq.1 p hp)];exact Zx9.mp hq.2 p hp
   ·rintro ⟨d,hd,hq⟩
    rw[Zyk]at hq;refine⟨d,hd,?_⟩;rw[Zyk];refine⟨hq.1,Zx9.mpr λp hp=>?_⟩;rw[hhas p (hL c hc d (Zyq.mp hd) hq.1 p hp)];exact Zx9.mp hq.2 p hp
  have hmem:c∈ZaY w ls L M↔(Win w ls t c=false/\Zdq w ls c M=true):=by
   unfold ZaY;rw[Zyx,Zyk,hhas c hc]
   constructor
   ·rintro ⟨_,h1,h2⟩
    exact⟨by simpa using h1,h2⟩
   ·rintro ⟨h1,h2⟩
    exact⟨hc,by simp[h1],h2⟩
  cases hw:Win w ls t c with
  | true =>
   have hs:(ZcQ w ls t c).isSome=true:=by rw[Zcn]; exact hw
   obtain⟨k,hk⟩:=ZyL.mp hs;rw[if_neg (λh=>by rw[hw]at hmem; cases(hmem.mp h).1),hk]
  | false =>
   have hs:ZcQ w ls t c=none:=by
    have:=Zcn (w:=w) (ls:=ls) (t:=t) (c:=c);rw[hw]at this;cases q:ZcQ w ls t c with
    | none=>rfl
    | some k=>rw[q]at this; cases this
   have hth:ZZ w c=false:=by
    cases q:ZZ w c with
    | false=>rfl
    | true=>have:Win w ls t c=true:=Zhg (Zzr t) (show Win w ls 0 c=true from q);rw[hw]at this;cases this
   have hwin:Win w ls (t+1) c=Zdq w ls c M:=by rw[hcan];show(ZZ w c||_)=_;rw[hth,ZBM]
   rw[hs];dsimp only;rw[hwin];cases hcw:Zdq w ls c M with
   | true=>rw[if_pos (hmem.mpr ⟨hw,hcw⟩),if_pos rfl]
   | false=>rw[if_neg (λh=>by have:=(hmem.mp h).2; rw[hcw]at this; cases this)]; rfl
 ·rw[if_neg hc,if_neg hc,if_neg]
  intro h;exact hc (Zyx.mp h).1
def M0(w:Wk)(L:List (List Int)):Tb:=(L.filter λc=>ZZ w c).foldl (λM c=>putD M c 0) []
theorem Zj2{w:Wk}{ls:List Int}{L:List (List Int)}:ZeL w ls L 0 (M0 w L):=by
 refine⟨λc=>?_⟩;unfold M0;rw[Zgw,ZiG];have e:ZcQ w ls 0 c=if ZZ w c then some 0 else none:=by unfold ZcQ;show Zze _ (([0]:List Nat).find? λn=>Win w ls n c)=_;rw[ZyW];show Zze _ (match Win w ls 0 c with | true=>some 0 | false=>_)=_;have:Win w ls 0 c=ZZ w c:=rfl;rw[this];cases ZZ w c<;>rfl
 rw[e]
 by_cases hc:c∈L
 ·rw[if_pos hc]
  cases ht:ZZ w c with
  | true=>rw[if_pos (Zyx.mpr ⟨hc,ht⟩)]; rfl
  | false=>rw[if_neg (λh=>by have:=(Zyx.mp h).2; rw[ht]at this; cases this)]; rfl
 ·rw[if_neg hc,if_neg λh=>hc (Zyx.mp h).1]
section
variable{w:Wk}(hv:Wk.V w)(h7:w.many<=7){ls:List Int}(hl:Cr w.looks.length ls){L:List (List Int)}(I:ZeE w ls L)
include hv h7 hl I
theorem ZlA(e2 e5 e6:Option B):∀(cs:List (List Int)) (M:Tb) (o4:Option B),(∀c∈cs,c∈L)->M.length+cs.length<100000 ->
  ∃p4,Z2 4 Zbs (cs.map tupI) [some (.pl w.d),some (.pl (tupI ls)),e2,some (.ot (encM M)),o4,e5,e6]=some (.nx [some (.pl w.d),some (.pl (tupI ls)),e2,some (.ot (encM ((cs.filter λc=>ZZ w c).foldl (λM c=>putD M c 0) M))),p4,e5,e6])
 | [],M,o4,_,_=>⟨o4,rfl⟩
 | c::cs,M,o4,hcs,hlen=>by
  rw[Zyg]at hlen;have hc:=(I.cr c (hcs c (Zx3 ..))).1;have hcl:=hc.len;have ht:=Zoj hv (c:=c) (by omega);have hml:(encM M).length<1000000:=by unfold encM; rw[Zx1]; omega
  have hk:ZaV (tupI c)=some (Zac c):=ZaB c;have hput:=ZhN M c 0;have hpl:=Zjn c 0 M;rw[Zx6,ZzF];cases hth:ZZ w c with
  | true =>
   rw[hth]at ht;have e:Zbs [some (.pl w.d),some (.pl (tupI ls)),e2,some (.ot (encM M)),some (.pl (tupI c)),e5,e6]=some (.nx [some (.pl w.d),some (.pl (tupI ls)),e2,some (.ot (encM (putD M c 0))),some (.pl (tupI c)),e5,e6]):=by rw[<-hput];simp[Zbs,ht,hk,hml]
   obtain⟨p4,ih⟩:=ZlA e2 e5 e6 cs (putD M c 0) (some (.pl (tupI c))) (λx hx=>hcs x (Zx4 _ hx)) (by omega);refine⟨p4,?_⟩;rw[if_pos rfl,Zy8,<-ih];show(match Zbs [some (.pl w.d),some (.pl (tupI ls)),e2,some (.ot (encM M)),some (.pl (tupI c)),e5,e6]with | some (.nx r')=>_ | some (.ct r')=>_ | some (.bk r')=>_ | some (.rt d)=>_ | none=>_)=_;rw[e]
  | false =>
   rw[hth]at ht;have e:Zbs [some (.pl w.d),some (.pl (tupI ls)),e2,some (.ot (encM M)),some (.pl (tupI c)),e5,e6]=some (.nx [some (.pl w.d),some (.pl (tupI ls)),e2,some (.ot (encM M)),some (.pl (tupI c)),e5,e6]):=by simp[Zbs,ht]
   obtain⟨p4,ih⟩:=ZlA e2 e5 e6 cs M (some (.pl (tupI c))) (λx hx=>hcs x (Zx4 _ hx)) (by omega);refine⟨p4,?_⟩;rw[if_neg (by simp),<-ih];show(match Zbs [some (.pl w.d),some (.pl (tupI ls)),e2,some (.ot (encM M)),some (.pl (tupI c)),e5,e6]with | some (.nx r')=>_ | some (.ct r')=>_ | some (.bk r')=>_ | some (.rt d)=>_ | none=>_)=_;rw[e]
theorem Zlt(e2 e5:Option B)(M:Tb):∀(cs ms:List (List Int)) (o4:Option B),(∀c∈cs,c∈L)->ms.length+cs.length<100000 ->
  ∃p4,Z2 4 Za9 (cs.map tupI) [some (.pl w.d),some (.pl (tupI ls)),e2,some (.ot (encM M)),o4,e5,some (.ol (ms.map tupI))]=some (.nx [some (.pl w.d),some (.pl (tupI ls)),e2,some (.ot (encM M)),p4,e5,some (.ol ((ms++ZaY w ls cs M).map tupI))])
 | [],ms,o4,_,_=>⟨o4,by unfold ZaY; simp[Z2]⟩
 | c::cs,ms,o4,hcs,hlen=>by
  rw[Zyg]at hlen;have hc:=(I.cr c (hcs c (Zx3 ..))).1;have hw:=Zrw hv h7 hl hc (M:=M);have hk:ZaV (tupI c)=some (Zac c):=ZaB c;have hlk:=Zcm M c;have hmb:ms.length<1000000:=by omega
  have em:ZaY w ls (c::cs) M=if(!Zs M c&&Zdq w ls c M)=true then c::ZaY w ls cs M else ZaY w ls cs M:=by unfold ZaY; rw[ZzF]
  cases hq:(!Zs M c&&Zdq w ls c M)with
  | true =>
   have hq':=hq;rw[Zyk]at hq';have h1:Zs M c=false:=by simpa using hq'.1
   have h1':Zm M c=none:=by
    have h1:(Zm M c).isSome=false:=h1;cases q:Zm M c with
    | none=>rfl
    | some k=>rw[q]at h1; cases h1
   rw[h1']at hlk;have e:Za9 [some (.pl w.d),some (.pl (tupI ls)),e2,some (.ot (encM M)),some (.pl (tupI c)),e5,some (.ol (ms.map tupI))]=some (.nx [some (.pl w.d),some (.pl (tupI ls)),e2,some (.ot (encM M)),some (.pl (tupI c)),e5,some (.ol ((ms++[c]).map tupI))]):=by rw[hq'.2]at hw;simp[Za9,hk,hlk,hw,hmb]
   obtain⟨p4,ih⟩:=Zlt e2 e5 M cs (ms++[c]) (some (.pl (tupI c))) (λx hx=>hcs x (Zx4 _ hx)) (by rw[Zyl,ZzA]; omega);refine⟨p4,?_⟩;rw[em,hq,if_pos rfl,show ms++c::ZaY w ls cs M=(ms++[c])++ZaY w ls cs M by simp,<-ih,Zx6];show(match Za9 [some (.pl w.d),some (.pl (tupI ls)),e2,some (.ot (encM M)),some (.pl (tupI c)),e5,some (.ol (ms.map tupI))]with | some (.nx r')=>_ | some (.ct r')=>_ | some (.bk r')=>_ | some (.rt d)=>_ | none=>_)=_;rw[e]
  | false =>
   have e:Za9 [some (.pl w.d),some (.pl (tupI ls)),e2,some (.ot (encM M)),some (.pl (tupI c)),e5,some (.ol (ms.map tupI))]=some (.nx [some (.pl w.d),some (.pl (tupI ls)),e2,some (.ot (encM M)),some (.pl (tupI c)),e5,some (.ol (ms.map tupI))]):=by
    cases h1:Zm M c with
    | some k=>rw[h1]at hlk; simp[Za9,hk,hlk]
    | none =>
     have h2:Zs M c=false:=by unfold Zs; rw[h1]; rfl
     rw[h2]at hq;have h3:Zdq w ls c M=false:=by simpa using hq
     rw[h3]at hw;rw[h1]at hlk;simp[Za9,hk,hlk,hw]
   obtain⟨p4,ih⟩:=Zlt e2 e5 M cs ms (some (.pl (tupI c))) (λx hx=>hcs x (Zx4 _ hx)) (by omega);refine⟨p4,?_⟩;rw[em,hq,if_neg (by simp),<-ih,Zx6];show(match Za9 [some (.pl w.d),some (.pl (tupI ls)),e2,some (.ot (encM M)),some (.pl (tupI c)),e5,some (.ol (ms.map tupI))]with | some (.nx r')=>_ | some (.ct r')=>_ | some (.bk r')=>_ | some (.rt d)=>_ | none=>_)=_;rw[e]
end
theorem Zsx(e0 e1 e2 e6:Option B)(v:Int):∀(ms:List (List Int)) (M:Tb) (o4:Option B),M.length+ms.length<100000 ->
  ∃p4,Z2 4 ZcS (ms.map tupI) [e0,e1,e2,some (.ot (encM M)),o4,some (.pl (dI v)),e6]=some (.nx [e0,e1,e2,some (.ot (encM (ms.foldl (λM c=>putD M c v) M))),p4,some (.pl (dI v)),e6])
 | [],M,o4,_=>⟨o4,rfl⟩
 | c::ms,M,o4,hlen=>by
  rw[Zyg]at hlen;have hml:(encM M).length<1000000:=by unfold encM; rw[Zx1]; omega
  have hk:ZaV (tupI c)=some (Zac c):=ZaB c;have hput:=ZhN M c v;have hpl:=Zjn c v M;have e:ZcS [e0,e1,e2,some (.ot (encM M)),some (.pl (tupI c)),some (.pl (dI v)),e6]=some (.nx [e0,e1,e2,some (.ot (encM (putD M c v))),some (.pl (tupI c)),some (.pl (dI v)),e6]):=by rw[<-hput];simp[ZcS,hk,hml]
  obtain⟨p4,ih⟩:=Zsx e0 e1 e2 e6 v ms (putD M c v) (some (.pl (tupI c))) (by omega);refine⟨p4,?_⟩;rw[Zx6,Zy8,<-ih];show(match ZcS [e0,e1,e2,some (.ot (encM M)),some (.pl (tupI c)),some (.pl (dI v)),e6]with | some (.nx r')=>_ | some (.ct r')=>_ | some (.bk r')=>_ | some (.rt d)=>_ | none=>_)=_;rw[e]
end HG5
namespace HG5
open PySem HM HG HG4
section
variable{w:Wk}(hv:Wk.V w)(h7:w.many<=7){ls:List Int}(hl:Cr w.looks.length ls){L:List (List Int)}(I:ZeE w ls L)
include hv h7 hl I
theorem Zq6{M:Tb}(hM:M.length<50000)(v:Int)(o4 o6:Option B) :
  ∃p4 p6,Zch [some (.pl w.d),some (.pl (tupI ls)),some (.pl (.list (L.map tupI))),some (.ot (encM M)),o4,some (.pl (dI v)),o6] =
   some (.nx [some (.pl w.d),some (.pl (tupI ls)),some (.pl (.list (L.map tupI))),some (.ot (encM ((ZaY w ls L M).foldl (λM c=>putD M c v) M))),p4,some (.pl (dI v)),p6]):=by
 have hlen:=I.len h7;have hLb:L.length<1000000:=by omega
 obtain⟨p4,e1⟩:=Zlt hv h7 hl I (some (.pl (.list (L.map tupI)))) (some (.pl (dI v))) M L [] o4 (λ_ h=>h) (by simp; omega);have hml:(ZaY w ls L M).length<=L.length:=ZyH _ _;have hmb:(ZaY w ls L M).length<1000000:=by omega
 obtain⟨q4,e2⟩:=Zsx (some (.pl w.d)) (some (.pl (tupI ls))) (some (.pl (.list (L.map tupI)))) (some (.pl (.list ((ZaY w ls L M).map tupI)))) v (ZaY w ls L M) M p4 (by omega);rw[ZzU,ZAu]at e1;refine⟨q4,some (.pl (.list ((ZaY w ls L M).map tupI))),?_⟩;simp[Zch,hLb,e1,hmb,e2]
theorem ZiD(hL:Zcb w ls L):∀(n t:Nat) (M:Tb) (o4 o5 o6:Option B),ZeL w ls L t M->M.length<=128*(t+1)->t+n<=128 ->
  ∃M' p4 p5 p6,Z2 5 Zch ((ZBE (t+1) n).map dN) [some (.pl w.d),some (.pl (tupI ls)),some (.pl (.list (L.map tupI))),some (.ot (encM M)),o4,o5,o6] =
   some (.nx [some (.pl w.d),some (.pl (tupI ls)),some (.pl (.list (L.map tupI))),some (.ot (encM M')),p4,p5,p6])/\ZeL w ls L (t+n) M'
 | 0,t,M,o4,o5,o6,T,_,_=>⟨M,o4,o5,o6,rfl,T⟩
 | n+1,t,M,o4,o5,o6,T,hM,ht=>by obtain⟨p4,p6,e⟩:=Zq6 hv h7 hl I (M:=M) (by omega) ((t+1:Nat):Int) o4 o6;have T':=Zj9 hL T;have hlen:=I.len h7;have hml:(ZaY w ls L M).length<=L.length:=ZyH _ _;have hfl:=Zgx ((t+1:Nat):Int) (ZaY w ls L M) M;have hM1:((ZaY w ls L M).foldl (λM c=>putD M c ((t+1:Nat):Int)) M).length<=128*(t+1+1):=ZyO hfl (by omega);obtain⟨M',q4,q5,q6,f,T''⟩:=ZiD hL n (t+1) _ p4 (some (.pl (dN (t+1)))) p6 T' hM1 (by omega);refine⟨M',q4,q5,q6,?_,by rw[show t+(n+1)=t+1+n by omega]; exact T''⟩;rw[List.range'_succ,Zx6,<-f];show(match Zch [some (.pl w.d),some (.pl (tupI ls)),some (.pl (.list (L.map tupI))),some (.ot (encM M)),o4,some (.pl (dN (t+1))),o6]with | some (.nx r')=>_ | some (.ct r')=>_ | some (.bk r')=>_ | some (.rt d)=>_ | none=>_)=_;rw[e]
end
theorem ZqO(n:Nat):ZbS 1 n=(ZBE 1 n).map dN:=by unfold ZbS;rw[List.range'_eq_map_range,Zyn];refine Zzx λk _=>?_;show ZyG (1+(k:Int))=ZyG ((1+k:Nat):Int);congr 1
section
variable{w:Wk}(hv:Wk.V w)(h7:w.many<=7){ls:List Int}(hl:Cr w.looks.length ls)
include hv h7 hl
theorem Zod:∃L M,Zdj [w.d,tupI ls]=some (.dict (Zg (encM M)))/\ZeE w ls L/\Zcb w ls L/\(∀p∈Zp w ls w.beg,p∈L)/\ZeL w ls L L.length M:=by
 obtain⟨L,hall,I,hL,hbeg⟩:=Zku hv h7 hl;have hlen:=I.len h7;have hLb:L.length<1000000:=by omega
 obtain⟨p4,e0⟩:=ZlA hv h7 hl I (some (.pl (.list (L.map tupI)))) none none L [] none (λ_ h=>h) (by simp; omega);have hm0:(M0 w L).length<=L.length:=by unfold M0;have h1:=Zgx 0 (L.filter λc=>ZZ w c) [];have h2:=ZyH (λc=>ZZ w c) L;exact ZyO h1 (by rw[ZCh]; omega)
 obtain⟨M,q4,q5,q6,f,T⟩:=ZiD hv h7 hl I hL L.length 0 (M0 w L) p4 none none Zj2 (by omega) (by omega);rw[Nat.zero_add]at T;refine⟨L,M,?_,I,hL,hbeg,T⟩;have hok1:okR 1=true:=rfl;have hok:okR ((L.length:Int)+1)=true:=by
  have:=Zc4 (n:=L.length+1) (by omega)
  rwa [show((L.length+1:Nat):Int)=(L.length:Int)+1 by omega]at this
 have hr:ZbS 1 ((L.length:Int)+1-1).toNat=(ZBE 1 L.length).map dN:=by rw[show((L.length:Int)+1-1).toNat=L.length by omega,ZqO]
 show Z4 (Zej [some (.pl w.d),some (.pl (tupI ls)),none,none,none,none,none])=_;have e:Zej [some (.pl w.d),some (.pl (tupI ls)),none,none,none,none,none]=some (.rt (.dict (Zg (encM M)))):=by
  unfold Zej;refine Z7 (P:=λq=>q=_) (r':=[some (.pl w.d),some (.pl (tupI ls)),some (.pl (.list (L.map tupI))),none,none,none,none]) (by simp[hall]) ?_;refine Z7 (P:=λq=>q=_) (r':=[some (.pl w.d),some (.pl (tupI ls)),some (.pl (.list (L.map tupI))),some (.ot (encM [])),none,none,none]) (by simp[encM]) ?_;refine Z7 (P:=λq=>q=_) (r':=[some (.pl w.d),some (.pl (tupI ls)),some (.pl (.list (L.map tupI))),some (.ot (encM (M0 w L))),p4,none,none]) (by simp[hLb,e0,M0]) ?_;refine Z7 (P:=λq=>q=_) (r':=[some (.pl w.d),some (.pl (tupI ls)),some (.pl (.list (L.map tupI))),some (.ot (encM M)),q4,q5,q6]) ?_ (by simp);have f':Z2 5 Zch ((ZBE 1 L.length).map dN) [some (.pl w.d),some (.pl (tupI ls)),some (.pl (.list (L.map tupI))),some (.ot (encM (M0 w L))),p4,none,none]=some (.nx [some (.pl w.d),some (.pl (tupI ls)),some (.pl (.list (L.map tupI))),some (.ot (encM M)),q4,q5,q6]):=f;have ei:Zjh (eC (.int 1)) (op2 Zbo (Za8 (Zo 2)) (eC (.int 1))) [some (.pl w.d),some (.pl (tupI ls)),some (.pl (.list (L.map tupI))),some (.ot (encM (M0 w L))),p4,none,none]=some ((ZBE 1 L.length).map dN):=by simp[hok1,hok];rw[show((L.length:Int)+1-1).toNat=L.length by omega]at hr;exact hr
  unfold Zbd;rw[ei];dsimp only;rw[if_pos (by rw[Zx1,List.length_range']; exact hLb)];exact f'
 rw[e];rfl
end
def ZtW(w:Wk)(ls:List Int)(n:Nat):Prop:=∀p∈Zp w ls w.beg,Win w ls n p=true
def Few(w:Wk)(ls:List Int)(d:D):Prop:=(∃n:Nat,d=.int n/\ZtW w ls n/\∀m,m<n->¬ZtW w ls m)\/(d=.none/\∀n,¬ZtW w ls n)
end HG5
namespace HG5
open PySem HM HG
def ZoZ:SF :=
 (ZC (eIx (Zo 0) (eC (.int 3))))
def Zbg:List D->Option D:=fnOf 1 1 ZoZ
def Zqe:SF :=
 (ZC (eIx (Zo 0) (eC (.int 4))))
def Zdw:List D->Option D:=fnOf 1 1 Zqe
def ZjG:SF :=
 (ZC (ZiK (ZM (Zah (bOf (Zc 1))) Zaj (Zn3 (Zc 0) (bOf (Zl Zdw (Zd (Zc 1) Zn)))))))
def ZbF:List D->Option D:=fnOf 2 2 ZjG
def Zim:SF :=
 (ZC (eOf (ZM (Zah (bOf (Zc 0))) Zaj (eIx (Zo 0) (eC (.int 1))))))
def ZD:List D->Option D:=fnOf 1 1 Zim
def Zb7(ap:AP):SF :=
 (Zi3 3 (ZiJ ZD (Zd (eIx (Zo 5) (eC (.int 1))) Zn)))
def ZbA(ap:AP):SF :=
 (Zr (ZsZ 4 3)
  (sIf (tV (Zbr (Zc 4) (Zo 2))) (Zr (ZgU 2 (Zc 4) (Zgg ap 1 (Zd (Zc 4) Zn)))
  (Zbd 5 (Zah (bOf (Zbx (Zo 2) (Zc 4)))) (Zb7 ap))) ZaD))
def Zdd(ap:AP):SF :=
 (Zr (ZQ 2 fDt)
  (Zr (ZQ 3 (Zhl (Zo 0)))
  (Zr (Zky 100000 (tV (op2 gGt (Za8 (Zo 3)) (eC (.int 0)))) (ZbA ap))
  (ZdH 2 (ZC (Zc 2))))))
def ZbN(ap:AP):List D->Option D:=fnOf 2 6 (Zdd ap)
def Zfh(ap:AP):SF :=
 (Zr (ZQ 3 (ZM (Zah (bOf (Zc 0))) Zaj (Zgg ap 3 (Zd (Zc 0) (Zd (Zc 2) Zn)))))
  (ZdH 3 (ZC (ZfG (ZM (Zah (bOf (Zc 3))) (tV (op2 ZeG (Zc 0) (eC .none))) (Zc 0))))))
def ZbO(ap:AP):List D->Option D:=fnOf 3 4 (Zfh ap)
def Z3(ap:AP):SF :=
 (sIf (tV (Zbr (Zc 4) (Zo 1))) (Zr (Z9 5 (Zl (ZbO ap) (Zd (Zbx (Zo 0) (Zc 4)) (Zd (Zc 1) (Zd (Zc 2) Zn)))))
  (sIf (tV (op2 ZeG (Zc 5) (eC .none))) (ZgU 3 (Zc 4) (Zc 5)) ZaD)) ZaD)
def Zbv(ap:AP):List D->Option (List (List Ky × D)):=newOf 3 6
 (Zkc (ZQ 3 fDt)
 (Zkc (ZeA 0 (Zbd 4 (ZaS 0) (Z3 ap)))
 (ZoD 3)))
def Zdk(ap:AP):SF :=
 (ZgU 3 (Zc 6) (Zc 4))
def Zdl(ap:AP):SF :=
 (Zr (ZdH 5 (Zbd 6 (Zah (bOf (Zc 5))) (Zdk ap)))
  (Zr (ZQ 7 (ZiX (Zbv ap) (Zd (Zc 1) (Zd (ZmI (Zo 3)) (Zd (Zc 2) Zn)))))
  (Zr (ZdH 7 (ZeA 7 (Z9 4 (ZfG (ZM (ZaS 7) Zaj (Zbx (Zo 8) (Zc 0)))))))
  (ZdH 7 (ZeA 7 (ZQ 5 (ZM (ZaS 7) (tV (op2 gEq (Zbx (Zo 8) (Zc 0)) (Zc 5))) (Zc 0))))))))
def Ze0(ap:AP):SF :=
 (Zr (ZQ 3 fDt)
  (Zr (Z9 4 (eC (.int 0)))
  (Zr (ZeA 1 (ZQ 5 (ZM (ZaS 1) (tV (Zl ZbF (Zd (Zc 1) (Zd (Zc 0) Zn)))) (Zc 0))))
  (Zr (Zky 100000 (tV (op2 gGt (Za8 (Zo 5)) (eC (.int 0)))) (Zdl ap))
  (ZdH 3 (ZC (Zc 3)))))))
def ZcZ(ap:AP):List D->Option D:=fnOf 3 8 (Ze0 ap)
def ZdV:SF :=
 (Zr (ZQ 2 (ZM (Zah (bOf (Zl ZD (Zd (Zc 0) Zn)))) (tV (ZnY (Zc 0) (Zo 2))) (Zbx (Zo 2) (Zc 0))))
  (ZC (eIf (tV (op2 gEq (Za8 (Zo 2)) (Za8 (Zo 0)))) (ZkF (Zo 2)) (eC .none))))
def ZO:List D->Option D:=fnOf 2 3 ZdV
def Zin:SF :=
 (ZC (eOf (ZM (Zah (bOf (Zl Zcf (Zd (Zc 0) (Zd (Zc 2) Zn))))) Zaj (ZeR (Zd (Zc 0) (Zd (Zl ZaK (Zd (Zc 1) (Zd (Zc 2) (Zd (Zl Zdg (Zd (Zc 1) (Zd (Zc 3) (Zd (Zc 0) Zn)))) Zn)))) Zn))))))
def Za4:List D->Option D:=fnOf 3 3 Zin
def ZeI(ap:AP):SF :=
 (ZC (Zh2 (ZbN ap) 1 [0,1] (Zl ZD (Zd (Zl ZaK (Zd (Zc 0) (Zd (Zc 1) (Zd (Zc 2) Zn)))) Zn))))
def ZaA(ap:AP):List D->Option D:=fnOf 3 3 (ZeI ap)
def ZgD:SF :=
 (Zr (Z9 2 (Zl ZO (Zd (eIx (Zo 0) (eC (.int 1))) (Zd (Zc 1) Zn))))
  (ZC (eIf (tV (op2 Zny (Zc 2) (eC .none))) (eC .none) (op2 Zbo (Zc 2) (eC (.int 1))))))
def Zc0:List D->Option D:=fnOf 2 3 ZgD
def ZfP(ap:AP):SF :=
 (ZC (Zl (ZcZ ap) (Zd (Zc 0) (Zd (Zc 1) (Zd (eC (fnD 0 [])) Zn)))))
def Za5(ap:AP):List D->Option D:=fnOf 2 2 (ZfP ap)
def Zio(ap:AP):SF :=
 (Zr (ZhW (Zl ZbE (Zd (Zc 0) Zn)))
  (Zr (ZhW (Zl Zae (Zd (Zc 0) (Zd (Zc 1) Zn))))
  (Zr (Z9 2 (Zl Zbg (Zd (Zc 0) Zn)))
  (Zr (Z9 3 (Zl (Za5 ap) (Zd (Zc 0) (Zd (Zl (ZaA ap) (Zd (Zc 0) (Zd (Zc 1) (Zd (Zc 2) Zn)))) Zn))))
  (ZC (Zl ZO (Zd (Zl ZaK (Zd (Zc 0) (Zd (Zc 1) (Zd (Zc 2) Zn)))) (Zd (Zc 3) Zn))))))))
def Zdm(ap:AP):List D->Option D:=fnOf 2 4 (Zio ap)
end HG5
namespace HG5
open PySem HM HG HG4
theorem ZxY(w:Wk):Zbe (.pl w.d)=some [ZyG w.many,.tuple (w.deeds.map ZP),.tuple (w.looks.map tupI),tupI w.beg,tupI w.goal]:=rfl
theorem ZjK(w:Wk):Zbg [w.d]=some (tupI w.beg):=rfl
theorem ZqA(w:Wk):Zdw [w.d]=some (tupI w.goal):=rfl
theorem ZtV{α:Type}(xs:List α)(p:α->Bool):Ze8 (xs.map λx=>Zzt (p x))=some (xs.map p):=by
 have:=Zfz (xs.map p)
 rwa [Zyn]at this
theorem ZpD{w:Wk}{c:List Int}(hc:c.length<1000):ZbF [w.d,tupI c]=some (.bool (ZZ w c)):=by
 have hb:c.length<1000000:=by omega
 have e:∀r:HM.Env,r[0]?=some (some (.pl w.d))->Zay Zaj (Zn3 (Zc 0) (bOf (Zl Zdw (Zd (Zc 1) Zn)))) r (c.map dI)=some (c.map λs=>Zzt (w.goal.contains s)):=λr r0=>by
  rw[ZbC dI (λs=>Zzt (w.goal.contains s))]
  ·intro s _
   simp[r0,ZqA,Znv,Zcu,-Zzn]
 simp[ZbF,ZjG,hb,e,ZtV,ZZ,-Zzn]
theorem ZeH(g:Gs)(h:g.length<1000000):ZD [.list (g.map Zai)]=some (.list ((g.map (·.2)).map tupI)):=by
 have e:∀r:HM.Env,Zay Zaj (eIx (Zo 0) (eC (.int 1))) r (g.map Zai)=some ((g.map (·.2)).map tupI):=λr=>by
  rw[ZbC Zai (λp=>tupI p.2),Zyn]
  ·rfl
  ·intro p _
   rfl
 simp[ZD,Zim,h,e]
def Zq2(w:Wk)(ls c:List Int)(d:Int):D:=.tuple [dI d,.list ((ZF w ls (ZJ w c d)).map Zai)]
def ZmM(w:Wk)(ls c:List Int):D:=.list ((doV w c).map (Zq2 w ls c))
theorem split_len{w:Wk}{ls c:List Int}:(ZF w ls c).length<=c.length:=by unfold ZF;rw[Zx1,(ZaT _).length_eq,Zx1];exact Zgv _ _ _ (Zc8 (Zz w ls) c)
theorem Zk7(w:Wk)(c:List Int):(doV w c).length<=w.deeds.length:=by
 unfold doV;rw[Zx1];have:=ZyH (λ(d:Nat)=>Zao w c (d:Int)) (Zx8 w.deeds.length)
 rwa [ZAd]at this
theorem ZpH{w:Wk}{c:List Int}{d:Nat}(hd:d<w.deeds.length)(hc:Zao w c d=true):(d:Int)∈doV w c:=by unfold doV;exact Zyf.mpr ⟨d,Zyx.mpr ⟨Zyq.mpr hd,hc⟩,rfl⟩
section
variable{w:Wk}(hv:Wk.V w){ls:List Int}(hl:Cr w.looks.length ls)
include hv hl
theorem ZoU{c:List Int}(hc:Cr w.many c):Za4 [w.d,tupI ls,tupI c]=some (ZmM w ls c):=by
 have hdo:=ZmB hv hc;have hb:(doV w c).length<1000000:=by have:=Zk7 w c; have:=hv.d2; omega
 have e:∀r:HM.Env,r[0]?=some (some (.pl w.d))->r[1]?=some (some (.pl (tupI ls)))->r[2]?=some (some (.pl (tupI c))) ->
   Zay Zaj (ZeR (Zd (Zc 0) (Zd (Zl ZaK (Zd (Zc 1) (Zd (Zc 2) (Zd (Zl Zdg (Zd (Zc 1) (Zd (Zc 3) (Zd (Zc 0) Zn)))) Zn)))) Zn))) r ((doV w c).map dI)=some ((doV w c).map (Zq2 w ls c)):=λr r0 r1 r2=>by
  rw[ZbC dI (Zq2 w ls c)];intro d hd;obtain⟨d0,d1,_⟩:=ZeP hd;have h1:=ZrK hv hc d0 d1;have h2:=Ziy hv hl (Zeb hv hc d0 d1);simp[r0,r1,r2,h1,h2,Zq2]
 simp[Za4,Zin,hdo,hb,e,ZmM]
end
end HG5
namespace HG5
open PySem HM HG HG4
abbrev Wy:=D × Gs
def wyD(y:Wy):D:=.tuple [y.1,.list (y.2.map Zai)]
def wyP(y:Wy):List (List Int):=y.2.map (·.2)
abbrev Wf:=List Int->List Wy
inductive Zle(wf:Wf)(B:List (List Int)):List Int->Prop where
 | beg {p:List Int} (h:p∈B):Zle wf B p
 | step {c p:List Int} {y:Wy} (r:Zle wf B c) (hy:y∈wf c) (h:p∈wyP y):Zle wf B p
structure Zg2(wf:Wf)(Ok:List Int->Prop)(B C W:List (List Int)):Prop where
 nd:C.Nodup
 cr:∀c∈C,Ok c
 wr:∀c∈W,Ok c
 rc:∀c∈C,Zle wf B c
 rw:∀c∈W,Zle wf B c
 cl:∀c∈C,∀y∈wf c,∀p∈wyP y,p∈C\/p∈W
 bg:∀p∈B,p∈C\/p∈W
def Zx(wf:Wf)(C:List (List Int)):List (List Ky × D):=C.map λc=>(Zac c,.list ((wf c).map wyD))
theorem ZiZ(wf:Wf)(C:List (List Int))(k:List Int):Zm (Zx wf C) (Zac k)=if k∈C then some (.list ((wf k).map wyD))else none:=by
 unfold Zm Zx
 induction C with
 | nil=>rfl
 | cons c C ih =>
  rw[Zx6,ZyW]
  by_cases h:c=k
  ·subst h
   rw[if_pos (Zx3 ..)];simp
  ·have h':decide ((Zac c,(PyData.list ((wf c).map wyD))).1=Zac k)=false:=decide_eq_false λe=>h (Zgj e)
   rw[h'];dsimp only;rw[ih]
   by_cases q:k∈C
   ·rw[if_pos q,if_pos (Zx4 _ q)]
   ·rw[if_neg q,if_neg λz=>by
     rcases Zyo.mp z with e | e
     ·exact h e.symm
     ·exact q e]
theorem Ztw{wf:Wf}{C:List (List Int)}{k:List Int}(h:k ∉ C):putD (Zx wf C) (Zac k) (.list ((wf k).map wyD))=Zx wf (C++[k]):=by
 unfold putD;rw[if_neg]
 ·unfold Zx
  rw[ZyE];rfl
 ·intro z
  obtain⟨p,hp,e⟩:=Zy9.mp z;unfold Zx at hp;obtain⟨c,hc,rfl⟩:=Zyf.mp hp;have e:=Zgj (of_decide_eq_true e);subst e;exact h hc
theorem ZiL(wf:Wf)(L:List (List Int)):((Zx wf L).map λp=>ZyT (p.1.map ZaE))=L.map tupI:=by unfold Zx;rw[Zyn];refine Zzx λc _=>?_;show ZyT ((c.map ZzP).map ZaE)=ZyT (c.map dI);rw[Zyn];rfl
def Zk5(wf:Wf)(c:List Int):List (List Int):=(wf c).flatMap wyP
theorem Zg2.old{wf:Wf}{Ok:List Int->Prop}{B C V:List (List Int)}{p:List Int}(I:Zg2 wf Ok B C (V++[p]))(hp:p∈C):Zg2 wf Ok B C V:=by
 have key:∀q,q∈C\/q∈V++[p]->q∈C\/q∈V:=λq h=>by
  rcases h with h | h
  ·exact .inl h
  ·rcases Zyy.mp h with h | h
   ·exact .inr h
   ·rw[Zym.mp h]; exact .inl hp
 exact⟨I.nd,I.cr,λc h=>I.wr c (ZyF _ h),I.rc,λc h=>I.rw c (ZyF _ h),λc hc y hy q hq=>key q (I.cl c hc y hy q hq),λq hq=>key q (I.bg q hq)⟩
structure ZqZ(wf:Wf)(Ok:List Int->Prop):Prop where
 ok:∀c,Ok c->∀y∈wf c,∀p∈wyP y,Ok p
 ys:∀c,Ok c->(wf c).length<=10
 ps:∀c,Ok c->∀y∈wf c,y.2.length<=8
 cs:∀C:List (List Int),C.Nodup->(∀c∈C,Ok c)->C.length<=128
theorem Zg2.new{wf:Wf}{Ok:List Int->Prop}(O:ZqZ wf Ok){B C V:List (List Int)}{p:List Int}(I:Zg2 wf Ok B C (V++[p]))(hp:p ∉ C):Zg2 wf Ok B (C++[p]) (V++Zk5 wf p):=by
 have hpc:=I.wr p (Zyw _ (Zym.mpr rfl));have hpr:=I.rw p (Zyw _ (Zym.mpr rfl));have key:∀q,q∈C\/q∈V++[p]->q∈C++[p]\/q∈V++Zk5 wf p:=λq h=>by
  rcases h with h | h
  ·exact .inl (ZyF _ h)
  ·rcases Zyy.mp h with h | h
   ·exact .inr (ZyF _ h)
   ·exact .inl (Zyw _ h)
 refine⟨?_,λc h=>?_,λc h=>?_,λc h=>?_,λc h=>?_,λc h y hy q hq=>?_,λq hq=>key q (I.bg q hq)⟩
 ·rw[ZAe]
  refine⟨I.nd,by simp,λx hx y hy e=>?_⟩;rw[Zym.mp hy]at e;exact hp (e▸hx)
 ·rcases Zyy.mp h with h | h
  ·exact I.cr c h
  ·rw[Zym.mp h]; exact hpc
 ·rcases Zyy.mp h with h | h
  ·exact I.wr c (ZyF _ h)
  ·obtain⟨y,hy,hq⟩:=ZAj.mp h
   exact O.ok p hpc y hy c hq
 ·rcases Zyy.mp h with h | h
  ·exact I.rc c h
  ·rw[Zym.mp h]; exact hpr
 ·rcases Zyy.mp h with h | h
  ·exact I.rw c (ZyF _ h)
  ·obtain⟨y,hy,hq⟩:=ZAj.mp h
   exact .step hpr hy hq
 ·rcases Zyy.mp h with h | h
  ·exact key q (I.cl c h y hy q hq)
  ·rw[Zym.mp h]at hy
   exact .inr (Zyw _ (ZAj.mpr ⟨y,hy,hq⟩))
theorem ZtU{wf:Wf}{Ok:List Int->Prop}(O:ZqZ wf Ok){c:List Int}(hc:Ok c):(Zk5 wf c).length<=80:=by
 have key:∀ys:List Wy,(∀y∈ys,y∈wf c)->(ys.flatMap wyP).length<=8*ys.length:=by
  intro ys
  induction ys with
  | nil=>intro _; exact Zyb 0
  | cons y ys ih =>
   intro h;rw[List.flatMap_cons,Zyl,Zyg];have h1:=ih λx hx=>h x (Zx4 _ hx);have h2:=O.ps c hc y (h y (Zx3 ..));have h3:(wyP y).length=y.2.length:=by unfold wyP; rw[Zx1]
   omega
 have h1:=key (wf c) λ_ h=>h;have h2:=O.ys c hc;unfold Zk5;omega
theorem Zsh(ap:AP)(e0 e1 e2 e4:Option B):∀(ys:List Wy) (W:List (List Int)) (o:Option B),(∀y∈ys,y.2.length<=8)->W.length+8*ys.length<900000 ->
  ∃o',Z2 5 (Zb7 ap) (ys.map wyD) [e0,e1,e2,some (.ol (W.map tupI)),e4,o]=some (.nx [e0,e1,e2,some (.ol ((W++ys.flatMap wyP).map tupI)),e4,o'])
 | [],W,o,_,_=>⟨o,by rw[List.flatMap_nil,ZyJ]; rfl⟩
 | y::ys,W,o,hds,hlen=>by
  rw[Zyg]at hlen;have hb:=hds y (Zx3 ..);have hci:=ZeH y.2 (by omega);have hpl:(wyP y).length<=8:=by unfold wyP; rw[Zx1]; exact hb
  have body:Zb7 ap [e0,e1,e2,some (.ol (W.map tupI)),e4,some (.pl (wyD y))]=some (.nx [e0,e1,e2,some (.ol ((W++wyP y).map tupI)),e4,some (.pl (wyD y))]):=by
   have h1:ZiJ ZD (Zd (eIx (Zo 5) (eC (.int 1))) Zn) [e0,e1,e2,some (.ol (W.map tupI)),e4,some (.pl (wyD y))]=some (.ol ((wyP y).map tupI)):=by unfold ZiJ;show(match ZD [.list (y.2.map Zai)]with | some (.list ys)=>some (B.ol ys) | _=>none)=_;rw[hci];rfl
   unfold Zb7 Zi3;rw[h1];show(if _ then _ else _)=_;rw[if_pos (by rw[Zx1,Zx1]; show _<1000000; omega),ZyE];rfl
  obtain⟨o',ih⟩:=Zsh ap e0 e1 e2 e4 ys (W++wyP y) (some (.pl (wyD y))) (λx hx=>hds x (Zx4 _ hx)) (by rw[Zyl]; omega);refine⟨o',?_⟩;rw[List.flatMap_cons,<-Zzh,<-ih,Zx6];show(match Zb7 ap [e0,e1,e2,some (.ol (W.map tupI)),e4,some (.pl (wyD y))]with | some (.nx r')=>_ | some (.ct r')=>_ | some (.bk r')=>_ | some (.rt d)=>_ | none=>_)=_;rw[body]
theorem ZjQ(wf:Wf)(C:List (List Int))(p:List Int)(r:HM.Env)(i j:Nat)(h1:r[i]?=some (some (.pl (tupI p))))(h2:r[j]?=some (some (.ot (Zx wf C)))):tV (Zbr (Zc i) (Zo j)) r=some (!decide (p∈C)):=by
 have hk:ZaV (tupI p)=some (Zac p):=ZaB p;have hlk:=ZiZ wf C p
 by_cases hp:p∈C
 ·rw[if_pos hp]at hlk
  simp[h1,h2,hk,hlk,hp]
 ·rw[if_neg hp]at hlk
  simp[h1,h2,hk,hlk,hp]
theorem Zp9(t:Nat)(cs:List D):Zk9 (fnD t cs)=some (t,cs):=rfl
section
variable{ap:AP}{wf:Wf}{Ok:List Int->Prop}(O:ZqZ wf Ok){t:Nat}{cs:List D}(ha:∀c,Ok c->ap t cs [tupI c]=some (.list ((wf c).map wyD)))
include O ha
omit ha O in
theorem ZtS{C V:List (List Int)}{p:List Int}(e0 e1 o4 o5:Option B)(hp:p∈C) :
  ZbA ap [e0,e1,some (.ot (Zx wf C)),some (.ol ((V++[p]).map tupI)),o4,o5]=some (.nx [e0,e1,some (.ot (Zx wf C)),some (.ol (V.map tupI)),some (.pl (tupI p)),o5]):=by
 unfold ZbA;refine Z7 (P:=λq=>q=_) (r':=[e0,e1,some (.ot (Zx wf C)),some (.ol (V.map tupI)),some (.pl (tupI p)),o5]) ?_ ?_
 ·rw[ZyE]
  simp
 ·have ht:=ZjQ wf C p [e0,e1,some (.ot (Zx wf C)),some (.ol (V.map tupI)),some (.pl (tupI p)),o5] 4 2 rfl rfl
  rw[decide_eq_true hp]at ht;unfold sIf;rw[ht];rfl
theorem Ztg{C V:List (List Int)}{p:List Int}(e0 o4 o5:Option B)(hp:p ∉ C)(hc:Ok p)(hC:C.length<1000)(hV:V.length<100000) :
  ∃o5',ZbA ap [e0,some (.pl (fnD t cs)),some (.ot (Zx wf C)),some (.ol ((V++[p]).map tupI)),o4,o5]=some (.nx [e0,some (.pl (fnD t cs)),some (.ot (Zx wf (C++[p]))),some (.ol ((V++Zk5 wf p).map tupI)),some (.pl (tupI p)),o5']):=by
 have hdl:=O.ys p hc;obtain⟨o5',go⟩:=Zsh ap e0 (some (.pl (fnD t cs))) (some (.ot (Zx wf (C++[p])))) (some (.pl (tupI p))) (wf p) V o5 (λy hy=>O.ps p hc y hy) (by omega);refine⟨o5',?_⟩;unfold ZbA;refine Z7 (P:=λq=>q=_) (r':=[e0,some (.pl (fnD t cs)),some (.ot (Zx wf C)),some (.ol (V.map tupI)),some (.pl (tupI p)),o5]) ?_ ?_
 ·rw[ZyE]
  simp
 ·have ht:=ZjQ wf C p [e0,some (.pl (fnD t cs)),some (.ot (Zx wf C)),some (.ol (V.map tupI)),some (.pl (tupI p)),o5] 4 2 rfl rfl
  rw[decide_eq_false hp]at ht;unfold sIf;rw[ht];show Zr _ _ _=_;have hk:ZaV (tupI p)=some (Zac p):=ZaB p;have hww:=ha p hc;have hcl:(Zx wf C).length<1000000:=by unfold Zx; rw[Zx1]; omega
  refine Z7 (P:=λq=>q=_) (r':=[e0,some (.pl (fnD t cs)),some (.ot (Zx wf (C++[p]))),some (.ol (V.map tupI)),some (.pl (tupI p)),o5]) ?_ ?_
  ·rw[<-Ztw hp]
   have hv:Zgg ap 1 (Zd (Zc 4) Zn) [e0,some (.pl (fnD t cs)),some (.ot (Zx wf C)),some (.ol (V.map tupI)),some (.pl (tupI p)),o5]=some (.list ((wf p).map wyD)):=by unfold Zgg;show(match Zk9 (fnD t cs)with | some (t,cs)=>_ | none=>none)=_;rw[Zp9];exact hww
   unfold ZgU;rw[hv];show(match ZaV (tupI p)with | some y=>_ | none=>none)=_;rw[hk];dsimp only;rw[if_pos (show _<big from hcl)];rfl
  ·have hlk:=ZiZ wf (C++[p]) p
   rw[if_pos (Zyw _ (Zym.mpr rfl))]at hlk;have hi:Zah (bOf (Zbx (Zo 2) (Zc 4))) [e0,some (.pl (fnD t cs)),some (.ot (Zx wf (C++[p]))),some (.ol (V.map tupI)),some (.pl (tupI p)),o5]=some ((wf p).map wyD):=by simp[hk,hlk]
   unfold Zbd;rw[hi];dsimp only;rw[if_pos (by rw[Zx1]; show _<1000000; omega)];exact go
theorem ZeQ(B:List (List Int))(e0:Option HM.B):∀(fuel:Nat) (C W:List (List Int)) (o4 o5:Option HM.B),Zg2 wf Ok B C W->(128-C.length)*81+W.length<fuel->(128-C.length)*81+W.length<60000 ->
  ∃C' o4' o5',Za0 (tV (op2 gGt (Za8 (Zo 3)) (eC (.int 0)))) (ZbA ap) fuel [e0,some (.pl (fnD t cs)),some (.ot (Zx wf C)),some (.ol (W.map tupI)),o4,o5]=some (.nx [e0,some (.pl (fnD t cs)),some (.ot (Zx wf C')),some (.ol []),o4',o5'])/\Zg2 wf Ok B C' []
 | 0,C,W,o4,o5,I,h,_=>by omega
 | fuel+1,C,W,o4,o5,I,h,hW=>by
  have hlen:=O.cs C I.nd I.cr
  by_cases hw:W=[]
  ·subst hw
   refine⟨C,o4,o5,?_,I⟩;unfold Za0;have ht:(tV (op2 gGt (Za8 (Zo 3)) (eC (.int 0)))) [e0,some (.pl (fnD t cs)),some (.ot (Zx wf C)),some (.ol (([]:List (List Int)).map tupI)),o4,o5]=some false:=by simp
   rw[ht];rfl
  ·obtain⟨V,p,rfl⟩:∃V p,W=V++[p]:=⟨W.dropLast,W.getLast hw,(List.dropLast_concat_getLast hw).symm⟩
   rw[Zyl,ZzA]at h hW;have ht:(tV (op2 gGt (Za8 (Zo 3)) (eC (.int 0)))) [e0,some (.pl (fnD t cs)),some (.ot (Zx wf C)),some (.ol ((V++[p]).map tupI)),o4,o5]=some true:=by simp
   by_cases hp:p∈C
   ·obtain⟨C',o4',o5',g,J⟩:=ZeQ B e0 fuel C V (some (.pl (tupI p))) o5 (I.old hp) (by omega) (by omega)
    refine⟨C',o4',o5',?_,J⟩;unfold Za0;rw[ht];dsimp only;rw[ZtS e0 _ o4 o5 hp];exact g
   ·have hpc:=I.wr p (Zyw _ (Zym.mpr rfl))
    have J0:=I.new O hp;have hl2:=O.cs _ J0.nd J0.cr;rw[Zyl,ZzA]at hl2;have hbl:=ZtU O hpc;obtain⟨q5,e⟩:=Ztg O ha (V:=V) e0 o4 o5 hp hpc (by omega) (by omega);obtain⟨C',o4',o5',g,J⟩:=ZeQ B e0 fuel (C++[p]) (V++Zk5 wf p) (some (.pl (tupI p))) q5 J0 (by rw[Zyl,Zyl,ZzA]; omega) (by rw[Zyl,Zyl,ZzA]; omega);refine⟨C',o4',o5',?_,J⟩;unfold Za0;rw[ht];dsimp only;rw[e];exact g
theorem ZqD{B:List (List Int)}(hB:∀c∈B,Ok c)(hl:B.length<=100):∃L,ZbN ap [.list (B.map tupI),fnD t cs]=some (.dict (Zg (Zx wf L)))/\Zg2 wf Ok B L []:=by
 have I0:Zg2 wf Ok B [] B:=⟨.nil,λc h=>(by simp at h),hB,λc h=>(by simp at h),λc h=>.beg h,λc h=>(by simp at h),λp h=>.inr h⟩;obtain⟨L,o4,o5,g,J⟩:=ZeQ O ha B (some (.pl (.list (B.map tupI)))) 100000 [] B none none I0 (by simp; omega) (by simp; omega);refine⟨L,?_,J⟩;show Z4 (Zdd ap [some (.pl (.list (B.map tupI))),some (.pl (fnD t cs)),none,none,none,none])=_;have e:Zdd ap [some (.pl (.list (B.map tupI))),some (.pl (fnD t cs)),none,none,none,none]=some (.rt (.dict (Zg (Zx wf L)))):=by unfold Zdd;refine Z7 (P:=λq=>q=_) (r':=[some (.pl (.list (B.map tupI))),some (.pl (fnD t cs)),some (.ot (Zx wf [])),none,none,none]) rfl ?_;refine Z7 (P:=λq=>q=_) (r':=[some (.pl (.list (B.map tupI))),some (.pl (fnD t cs)),some (.ot (Zx wf [])),some (.ol (B.map tupI)),none,none]) rfl ?_;refine Z7 (P:=λq=>q=_) g ?_;simp
 rw[e];rfl
end
theorem Zd7(n:Nat)(p:List Int):noF (n+1) (tupI p)=true:=by show(p.map dI).all (noF n)=true;rw[List.all_map];exact Zx9.mpr λx _=>by cases n<;>rfl
theorem ZuQ(n:Nat)(i:Int):noF n (.int i)=true:=by cases n<;>rfl
theorem Zd9{n:Nat}{ds:List D}(h:∀d∈ds,noF n d=true):noF (n+1) (.tuple ds)=true:=Zx9.mpr h
theorem Zn5{n:Nat}{ds:List D}(h:∀d∈ds,noF n d=true):noF (n+1) (.list ds)=true:=Zx9.mpr h
theorem Ztz(n:Nat)(p:List Int × List Int):noF (n+2) (Zai p)=true:=Zd9 λd hd=>by
 rcases Zyo.mp hd with e | hd
 ·subst e; exact Zd7 n _
 ·rw[Zym.mp hd]; exact Zd7 n _
theorem ZvN{n:Nat}{y:Wy}(h:noF (n+3) y.1=true):noF (n+4) (wyD y)=true:=Zd9 λd hd=>by
 rcases Zyo.mp hd with e | hd
 ·subst e; exact h
 ·rw[Zym.mp hd]
  exact Zn5 λd hd=>by obtain⟨p,_,rfl⟩:=Zyf.mp hd;exact Ztz n p
theorem Zw1{wf:Wf}{n:Nat}{L:List (List Int)}(h:∀c∈L,∀y∈wf c,noF (n+3) y.1=true):noF (n+6) (.dict (Zg (Zx wf L)))=true:=by show(Zg (Zx wf L)).all _=true;refine Zx9.mpr λp hp=>?_;unfold Zg Zx at hp;rw[Zyn]at hp;obtain⟨c,hc,rfl⟩:=Zyf.mp hp;show noF (n+5) (.list ((wf c).map wyD))=true;exact Zn5 λd hd=>by obtain⟨y,hy,rfl⟩:=Zyf.mp hd;exact ZvN (h c hc y hy)
theorem ZwL(w:Wk):noF 20 w.d=true:=by
 refine Zd9 λd hd=>?_;have h:∀x:List (List Int),∀d∈x.map tupI,noF 17 d=true:=λx d hd=>by obtain⟨p,_,rfl⟩:=Zyf.mp hd;exact Zd7 16 p
 have hd:=Zyo.mp hd;rcases hd with e | hd
 ·subst e; rfl
 rcases Zyo.mp hd with e | hd
 ·subst e
  exact Zd9 λd hd=>by obtain⟨x,_,rfl⟩:=Zyf.mp hd;exact Zd9 (h x)
 rcases Zyo.mp hd with e | hd
 ·subst e
  exact Zd9 λd hd=>by obtain⟨x,_,rfl⟩:=Zyf.mp hd;exact Zd7 17 x
 rcases Zyo.mp hd with e | hd
 ·subst e; exact Zd7 18 _
 ·rw[Zym.mp hd]; exact Zd7 18 _
end HG5
namespace HG5
open PySem HM HG HG4
def oI:Option Int->D
 | some k=>.int k
 | none=>.none
abbrev Cb:=Wy->Tb->Option Int
def ZcL(cb:Cb)(ys:List Wy)(M:Tb):Option Int:=(ys.filterMap λy=>cb y M).min?
def ZaU(wf:Wf)(cb:Cb)(L:List (List Int))(M:Tb):Tb:=L.filterMap λc=>if Zs M c then none else(ZcL cb (wf c) M).map λk=>(c,k)
def Zce(T:Tb):Option Int:=(T.map (·.2)).min?
def Zfr(T:Tb):List (List Int):=(T.filter λp=>some p.2==Zce T).map (·.1)
def Zby(found:List (List Int))(k:Int)(M:Tb):Tb:=found.foldl (λM c=>putD M c k) M
inductive Zkf(wf:Wf)(cb:Cb)(L:List (List Int)):Tb->Option Int->List (List Int)->Tb->Prop where
 | done {M:Tb} {k:Option Int}:Zkf wf cb L M k [] M
 | step {M R:Tb} {k:Int} {found:List (List Int)} (hf:found≠[]) (h:Zkf wf cb L (Zby found k M) (Zce (ZaU wf cb L (Zby found k M))) (Zfr (ZaU wf cb L (Zby found k M))) R):Zkf wf cb L M (some k) found R
theorem ZoR:∀os:List (Option Int),ZaI ((os.filter ZAJ).map oI)=some (os.filterMap id)
 | []=>rfl
 | none::os=>ZoR os
 | some k::os=>by show(ZaI ((os.filter ZAJ).map oI)).map (k::·)=_;rw[ZoR os];rfl
theorem ZmE{ap:AP}{t:Nat}{cs:List D}{cb:Cb}{ys:List Wy}{M:Tb}(hy:ys.length<1000)(ha:∀y∈ys,ap t cs [wyD y,.dict (Zg (encM M))]=some (oI (cb y M))) :
  ZbO ap [.list (ys.map wyD),.dict (Zg (encM M)),fnD t cs]=some (oI (ZcL cb ys M)):=by
 show Z4 (Zfh ap [some (.pl (.list (ys.map wyD))),some (.pl (.dict (Zg (encM M)))),some (.pl (fnD t cs)),none])=_;have hb:ys.length<big:=by show _<1000000; omega
 have e1:Zay Zaj (Zgg ap 3 (Zd (Zc 0) (Zd (Zc 2) Zn))) [some (.pl (.list (ys.map wyD))),some (.pl (.dict (Zg (encM M)))),some (.pl (fnD t cs)),none] (ys.map wyD)=some ((ys.map λy=>cb y M).map oI):=by
  rw[ZbC wyD (λy=>oI (cb y M)),Zyn]
  ·rfl
  ·intro y h
   show(match Zk9 (fnD t cs)with | some (t,cs)=>_ | none=>none)=_;rw[Zp9];exact ha y h
 have e2:Zay (tV (op2 ZeG (Zc 0) (eC .none))) (Zc 0) [some (.pl (.list (ys.map wyD))),some (.pl (.dict (Zg (encM M)))),some (.pl (fnD t cs)),some (.pl (.list ((ys.map λy=>cb y M).map oI)))] ((ys.map λy=>cb y M).map oI)=some (((ys.map λy=>cb y M).filter ZAJ).map oI):=by
  rw[ZbB oI ZAJ oI]
  ·intro o _
   cases o<;>rfl
  ·intro o _ _
   rfl
 unfold Zfh;refine Z7 (P:=λq=>Z4 q=_) (r':=[some (.pl (.list (ys.map wyD))),some (.pl (.dict (Zg (encM M)))),some (.pl (fnD t cs)),some (.ol ((ys.map λy=>cb y M).map oI))]) ?_ ?_
 ·unfold ZQ ZM
  show Zze _ (if(ys.map wyD).length<big then _ else _)=_;rw[if_pos (by rw[Zx1]; exact hb),e1];rfl
 ·show Z4 (Zze Out.rt (ZfG _ [some (.pl (.list (ys.map wyD))),some (.pl (.dict (Zg (encM M)))),some (.pl (fnD t cs)),some (.pl (.list ((ys.map λy=>cb y M).map oI)))]))=_
  have e3:ZM (Zah (bOf (Zc 3))) (tV (op2 ZeG (Zc 0) (eC .none))) (Zc 0) [some (.pl (.list (ys.map wyD))),some (.pl (.dict (Zg (encM M)))),some (.pl (fnD t cs)),some (.pl (.list ((ys.map λy=>cb y M).map oI)))]=some (.ol (((ys.map λy=>cb y M).filter ZAJ).map oI)):=by unfold ZM;show(if((ys.map λy=>cb y M).map oI).length<big then _ else none)=_;rw[if_pos (by rw[Zx1,Zx1]; exact hb),e2];rfl
  unfold ZfG;rw[e3];show Z4 (Zze Out.rt (match ZaI (((ys.map λy=>cb y M).filter ZAJ).map oI)with | some ns=>some (match ns.min? with | some i=>ZyG i | none=>.none) | none=>none))=_;rw[ZoR];show some (match((ys.map λy=>cb y M).filterMap id).min? with | some i=>ZyG i | none=>.none)=_;unfold ZcL;rw[List.filterMap_map];show some (match(ys.filterMap λy=>cb y M).min? with | some i=>ZyG i | none=>.none)=_;cases(ys.filterMap λy=>cb y M).min?<;>rfl
theorem Zte{M:Tb}{c:List Int}{k:Int}(h:Zs M c=false):putD M c k=M++[(c,k)]:=by unfold putD;rw[if_neg];intro z;obtain⟨p,hp,e⟩:=Zy9.mp z;have e:=of_decide_eq_true e;unfold Zs Zm at h;rw[Zzu]at h;have:(M.find? λp=>decide (p.1=c)).isSome=true:=ZBY.mpr ⟨p,hp,decide_eq_true e⟩;rw[h]at this;cases this
theorem ZqB(M N:Tb)(c:List Int):Zs (M++N) c=(Zs M c||Zs N c):=by unfold Zs Zm;rw[ZBU,Zzu,Zzu,Zzu,Option.isSome_or]
theorem ZuL{M:Tb}{c:List Int}:Zs M c=true↔∃k,(c,k)∈M:=by
 unfold Zs Zm;rw[Zzu,ZBY]
 constructor
 ·rintro ⟨⟨c',k⟩,h,e⟩
  have e:=of_decide_eq_true e;exact⟨k,by rw[<-e]; exact h⟩
 ·rintro ⟨k,h⟩
  exact⟨_,h,decide_eq_true rfl⟩
theorem Zuf{wf:Wf}{cb:Cb}{L:List (List Int)}{M:Tb}{c:List Int}{k:Int}:(c,k)∈ZaU wf cb L M↔c∈L/\Zs M c=false/\ZcL cb (wf c) M=some k:=by
 unfold ZaU;rw[Zzl]
 constructor
 ·rintro ⟨c',h1,h2⟩
  split at h2
  ·cases h2
  ·rename_i hn
   obtain⟨k',h3,h4⟩:=Zx2.mp h2;cases h4;exact⟨h1,by simpa using hn,h3⟩
 ·rintro ⟨h1,h2,h3⟩
  exact⟨c,h1,by rw[h2,h3]; rfl⟩
section
variable{ap:AP}{wf:Wf}{L:List (List Int)}{t:Nat}{cs:List D}{cb:Cb}(hnd:L.Nodup)(hlen:L.length<=128)(hys:∀c∈L,(wf c).length<1000)(ha:∀c∈L,∀y∈wf c,∀M,ap t cs [wyD y,.dict (Zg (encM M))]=some (oI (cb y M)))
include hys ha
theorem Zp7{M:Tb}:∀(K:List (List Int)) (acc:Tb) (o4 o5:Option B),(∀c∈K,c∈L)->K.Nodup->(∀c∈K,Zs acc c=false)->Zbw o4=false->Zbw o5=false->acc.length+K.length<100000 ->
  ∃p4 p5,Zbw p4=false/\Zbw p5=false/\Z2 4 (Z3 ap) (K.map tupI) [some (.hd (Zg (Zx wf L))),some (.pl (.dict (Zg (encM M)))),some (.pl (fnD t cs)),some (.ot (encM acc)),o4,o5] =
   some (.nx [some (.hd (Zg (Zx wf L))),some (.pl (.dict (Zg (encM M)))),some (.pl (fnD t cs)),some (.ot (encM (acc++ZaU wf cb K M))),p4,p5])
 | [],acc,o4,o5,_,_,_,h4,h5,_=>⟨o4,o5,h4,h5,by show some (Out.nx _)=_; rw[show ZaU wf cb [] M=[] from rfl,ZyJ]⟩
 | c::K,acc,o4,o5,hK,hn,hacc,h4,h5,hl=>by
  rw[Zyg]at hl;have hc:=hK c (Zx3 ..);have hk:ZaV (tupI c)=some (Zac c):=ZaB c;have hlk:=Zcm M c;have hlr:=ZiZ wf L c;rw[if_pos hc]at hlr;have hlc:=ZmE (ap:=ap) (t:=t) (cs:=cs) (cb:=cb) (ys:=wf c) (M:=M) (hys c hc) λy hy=>ha c hc y hy M;have hcons:ZaU wf cb (c::K) M=(if Zs M c then[]else match ZcL cb (wf c) M with | some k=>[(c,k)] | none=>[])++ZaU wf cb K M:=by
   unfold ZaU;rw[Zzf];cases Zs M c with
   | true=>rfl
   | false=>cases ZcL cb (wf c) M<;>rfl
  have step:∀(acc':Tb) (p5:Option B),Zbw p5=false->(∀x∈K,Zs acc' x=false)->acc'.length+K.length<100000->Z3 ap [some (.hd (Zg (Zx wf L))),some (.pl (.dict (Zg (encM M)))),some (.pl (fnD t cs)),some (.ot (encM acc)),some (.pl (tupI c)),o5] =
     some (.nx [some (.hd (Zg (Zx wf L))),some (.pl (.dict (Zg (encM M)))),some (.pl (fnD t cs)),some (.ot (encM acc')),some (.pl (tupI c)),p5])->acc'++ZaU wf cb K M=acc++ZaU wf cb (c::K) M ->
    ∃p4 p5,Zbw p4=false/\Zbw p5=false/\Z2 4 (Z3 ap) ((c::K).map tupI) [some (.hd (Zg (Zx wf L))),some (.pl (.dict (Zg (encM M)))),some (.pl (fnD t cs)),some (.ot (encM acc)),o4,o5] =
     some (.nx [some (.hd (Zg (Zx wf L))),some (.pl (.dict (Zg (encM M)))),some (.pl (fnD t cs)),some (.ot (encM (acc++ZaU wf cb (c::K) M))),p4,p5]):=λacc' p5 hp5 hx hl' e eq=>by
   obtain⟨q4,q5,g4,g5,ih⟩:=Zp7 (M:=M) K acc' (some (.pl (tupI c))) p5 (λx hx=>hK x (Zx4 _ hx)) (ZyV.mp hn).2 hx rfl hp5 hl';refine⟨q4,q5,g4,g5,?_⟩;rw[<-eq,<-ih,Zx6];show(match Z3 ap [some (.hd (Zg (Zx wf L))),some (.pl (.dict (Zg (encM M)))),some (.pl (fnD t cs)),some (.ot (encM acc)),some (.pl (tupI c)),o5]with | some (.nx r')=>_ | some (.ct r')=>_ | some (.bk r')=>_ | some (.rt d)=>_ | none=>_)=_;rw[e]
  have hKa:∀x∈K,Zs acc x=false:=λx hx=>hacc x (Zx4 _ hx);cases hq:Zm M c with
  | some k =>
   have hh:Zs M c=true:=by unfold Zs; rw[hq]; rfl
   rw[hq]at hlk;refine step acc o5 h5 hKa (by omega) ?_ (by rw[hcons,hh]; rfl);have ht:tV (Zbr (Zc 4) (Zo 1)) [some (.hd (Zg (Zx wf L))),some (.pl (.dict (Zg (encM M)))),some (.pl (fnD t cs)),some (.ot (encM acc)),some (.pl (tupI c)),o5]=some false:=by simp[dec_enc,hk,hlk]
   unfold Z3 sIf;rw[ht];rfl
  | none =>
   have hh:Zs M c=false:=by unfold Zs; rw[hq]; rfl
   rw[hq]at hlk;have ht:tV (Zbr (Zc 4) (Zo 1)) [some (.hd (Zg (Zx wf L))),some (.pl (.dict (Zg (encM M)))),some (.pl (fnD t cs)),some (.ot (encM acc)),some (.pl (tupI c)),o5]=some true:=by simp[dec_enc,hk,hlk]
   have hca:Zl (ZbO ap) (Zd (Zbx (Zo 0) (Zc 4)) (Zd (Zc 1) (Zd (Zc 2) Zn))) [some (.hd (Zg (Zx wf L))),some (.pl (.dict (Zg (encM M)))),some (.pl (fnD t cs)),some (.ot (encM acc)),some (.pl (tupI c)),o5]=some (oI (ZcL cb (wf c) M)):=by
    have hg:Zbx (Zo 0) (Zc 4) [some (.hd (Zg (Zx wf L))),some (.pl (.dict (Zg (encM M)))),some (.pl (fnD t cs)),some (.ot (encM acc)),some (.pl (tupI c)),o5]=some (.list ((wf c).map wyD)):=by simp[dec_enc,hk,hlr]
    unfold Zl Zd;rw[hg];exact hlc
   have hs5:Z9 5 (Zl (ZbO ap) (Zd (Zbx (Zo 0) (Zc 4)) (Zd (Zc 1) (Zd (Zc 2) Zn)))) [some (.hd (Zg (Zx wf L))),some (.pl (.dict (Zg (encM M)))),some (.pl (fnD t cs)),some (.ot (encM acc)),some (.pl (tupI c)),o5]=some (.nx [some (.hd (Zg (Zx wf L))),some (.pl (.dict (Zg (encM M)))),some (.pl (fnD t cs)),some (.ot (encM acc)),some (.pl (tupI c)),some (.pl (oI (ZcL cb (wf c) M)))]):=by unfold Z9;rw[hca];rfl
   cases hle:ZcL cb (wf c) M with
   | none=>rw[hle]at hs5;refine step acc (some (.pl .none)) rfl hKa (by omega) ?_ (by rw[hcons,hh,hle]; rfl);unfold Z3 sIf;rw[ht];dsimp only;refine Z7 (P:=λq=>q=_) hs5 ?_;rfl
   | some k =>
    rw[hle]at hs5;have hput:=Zte (k:=k) (hacc c (Zx3 ..));have hpe:=ZhN acc c k;have hal:(encM acc).length<1000000:=by unfold encM; rw[Zx1]; omega
    refine step (acc++[(c,k)]) (some (.pl (.int k))) rfl (λx hx=>?_) (by rw[Zyl,ZzA]; omega) ?_ (by rw[hcons,hh,hle,Zzh]; rfl)
    ·rw[ZqB,hKa x hx,ZBM]
     cases hb:Zs [(c,k)] x with
     | false=>rfl
     | true=>obtain⟨k',hm⟩:=ZuL.mp hb;cases Zym.mp hm;exact absurd hx (ZyV.mp hn).1
    ·unfold Z3 sIf
     rw[ht];dsimp only;refine Z7 (P:=λq=>q=_) hs5 ?_;have h2:tV (op2 ZeG (Zc 5) (eC .none)) [some (.hd (Zg (Zx wf L))),some (.pl (.dict (Zg (encM M)))),some (.pl (fnD t cs)),some (.ot (encM acc)),some (.pl (tupI c)),some (.pl (oI (some k)))]=some true:=rfl;rw[h2,<-hput,<-hpe];show(match ZaV (tupI c)with | some y=>_ | none=>none)=_;rw[hk];show(if(encM acc).length<big then _ else none)=_;rw[if_pos (show _<big from hal)];rfl
include hnd hlen
theorem Zmy(M:Tb):Zbv ap [.dict (Zg (Zx wf L)),.dict (Zg (encM M)),fnD t cs]=some (encM (ZaU wf cb L M)):=by
 obtain⟨p4,p5,g4,g5,go⟩:=Zp7 hys ha (M:=M) L [] none none (λ_ h=>h) hnd (λ_ _=>rfl) rfl rfl (by simp; omega);have hw:ZaS 0 [some (.hd (Zg (Zx wf L))),some (.pl (.dict (Zg (encM M)))),some (.pl (fnD t cs)),some (.ot (encM [])),none,none]=some (L.map tupI):=by show(ZeT (Zg (Zx wf L))).map _=_;rw[dec_enc,<-ZiL wf L];rfl
 have hf:Zbd 4 (ZaS 0) (Z3 ap) [some (.hd (Zg (Zx wf L))),some (.pl (.dict (Zg (encM M)))),some (.pl (fnD t cs)),some (.ot (encM [])),none,none]=some (.nx [some (.hd (Zg (Zx wf L))),some (.pl (.dict (Zg (encM M)))),some (.pl (fnD t cs)),some (.ot (encM (ZaU wf cb L M))),p4,p5]):=by unfold Zbd;rw[hw];dsimp only;rw[if_pos (by rw[Zx1]; show _<1000000; omega),go];rfl
 have hh:ZeA 0 (Zbd 4 (ZaS 0) (Z3 ap)) [some (.pl (.dict (Zg (Zx wf L)))),some (.pl (.dict (Zg (encM M)))),some (.pl (fnD t cs)),some (.ot (encM [])),none,none]=some (.nx [some (.pl (.dict (Zg (Zx wf L)))),some (.pl (.dict (Zg (encM M)))),some (.pl (fnD t cs)),some (.ot (encM (ZaU wf cb L M))),p4,p5]):=by
  show(match Zbd 4 (ZaS 0) (Z3 ap) [some (.hd (Zg (Zx wf L))),some (.pl (.dict (Zg (encM M)))),some (.pl (fnD t cs)),some (.ot (encM [])),none,none]with | some (.nx r')=>_ | some (.rt d)=>_ | _=>none)=_;rw[hf];have a2:([none,some (B.pl (.dict (Zg (encM M)))),some (.pl (fnD t cs)),some (.ot (encM (ZaU wf cb L M))),p4,p5]:HM.Env).all (λq=>!Zbw q)=true:=by simp only[Zzi,ZCP,g4,g5];rfl
  show(if([none,some (B.pl (.dict (Zg (encM M)))),some (.pl (fnD t cs)),some (.ot (encM (ZaU wf cb L M))),p4,p5]:HM.Env).all (λq=>!Zbw q)=true then _ else _)=_;rw[if_pos a2];rfl
 unfold Zbv newOf;rw[if_pos (show([ZCR (Zg (Zx wf L)),ZCR (Zg (encM M)),fnD t cs]:List D).length=3 from rfl)];show(match ZQ 3 fDt [some (.pl (.dict (Zg (Zx wf L)))),some (.pl (.dict (Zg (encM M)))),some (.pl (fnD t cs)),none,none,none]with | some (.nx r')=>Zkc (ZeA 0 (Zbd 4 (ZaS 0) (Z3 ap))) (ZoD 3) r' | _=>none)=_;show Zkc (ZeA 0 (Zbd 4 (ZaS 0) (Z3 ap))) (ZoD 3) [some (.pl (.dict (Zg (Zx wf L)))),some (.pl (.dict (Zg (encM M)))),some (.pl (fnD t cs)),some (.ot (encM [])),none,none]=_;unfold Zkc;rw[hh];rfl
end
end HG5
namespace HG5
open PySem HM HG HG4
theorem ZpN(ap:AP)(e0 e1 e2 e5 e7:Option B)(v:Int):∀(ms:List (List Int)) (M:Tb) (o:Option B),M.length+ms.length<100000->Zbw o=false ->
  ∃p,Zbw p=false/\Z2 6 (Zdk ap) (ms.map tupI) [e0,e1,e2,some (.ot (encM M)),some (.pl (dI v)),e5,o,e7]=some (.nx [e0,e1,e2,some (.ot (encM (Zby ms v M))),some (.pl (dI v)),e5,p,e7])
 | [],M,o,_,h=>⟨o,h,rfl⟩
 | c::ms,M,o,hlen,_=>by
  rw[Zyg]at hlen;have hml:(encM M).length<1000000:=by unfold encM; rw[Zx1]; omega
  have hk:ZaV (tupI c)=some (Zac c):=ZaB c;have hput:=ZhN M c v;have hpl:=Zjn c v M;have e:Zdk ap [e0,e1,e2,some (.ot (encM M)),some (.pl (dI v)),e5,some (.pl (tupI c)),e7]=some (.nx [e0,e1,e2,some (.ot (encM (putD M c v))),some (.pl (dI v)),e5,some (.pl (tupI c)),e7]):=by rw[<-hput];simp[Zdk,hk,hml]
  obtain⟨p,hp,ih⟩:=ZpN ap e0 e1 e2 e5 e7 v ms (putD M c v) (some (.pl (tupI c))) (by omega) rfl;refine⟨p,hp,?_⟩;show _=some (Out.nx [e0,e1,e2,some (.ot (encM (Zby ms v (putD M c v)))),some (.pl (dI v)),e5,p,e7]);rw[Zx6,<-ih];show(match Zdk ap [e0,e1,e2,some (.ot (encM M)),some (.pl (dI v)),e5,some (.pl (tupI c)),e7]with | some (.nx r')=>_ | some (.ct r')=>_ | some (.bk r')=>_ | some (.rt d)=>_ | none=>_)=_;rw[e]
theorem ZlQ(T:Tb):((encM T).map λp=>ZyT (p.1.map ZaE))=(T.map (·.1)).map tupI:=by unfold encM;rw[Zyn,Zyn];refine Zzx λp _=>?_;show ZyT ((p.1.map ZzP).map ZaE)=ZyT (p.1.map dI);rw[Zyn];rfl
def NdT(T:Tb):Prop:=(T.map (·.1)).Nodup
theorem ZpT{T:Tb}(h:NdT T){p:List Int × Int}(hp:p∈T):Zm T p.1=some p.2:=by
 induction T with
 | nil=>simp at hp
 | cons q T ih =>
  obtain⟨c,k⟩:=q;rw[ZbV];unfold NdT at h;rw[Zx6,ZyV]at h;rcases Zyo.mp hp with e | e
  ·subst e; rw[if_pos rfl]
  ·rw[if_neg λz=>h.1 (by rw[z]; exact Zyf.mpr ⟨p,e,rfl⟩)]
   exact ih h.2 e
theorem ZvV{wf:Wf}{cb:Cb}{M:Tb}:∀{L:List (List Int)},L.Nodup->NdT (ZaU wf cb L M):=by
 intro L h;unfold NdT;have:((ZaU wf cb L M).map (·.1)).Sublist L:=by
  unfold ZaU;rw[List.map_filterMap]
  clear h
  induction L with
  | nil=>exact .slnil
  | cons c L ih =>
   rw[Zzf];cases Zs M c with
   | true=>exact ih.cons c
   | false=>cases ZcL cb (wf c) M with
    | none=>exact ih.cons c
    | some k=>exact ih.cons₂ c
 exact h.sublist this
theorem Zp1{wf:Wf}{cb:Cb}{L:List (List Int)}{M:Tb}:(ZaU wf cb L M).length<=L.length:=ZCd ..
section
variable{T:Tb}(hT:NdT T)(hl:T.length<100000)
include hT hl
theorem Zrs(r:HM.Env)(h7:r[7]?=some (some (.hd (Zg (encM T))))):ZM (ZaS 7) Zaj (Zbx (Zo 8) (Zc 0)) r=some (.ol ((T.map (·.2)).map dI)):=by
 have hw:ZaS 7 r=some ((T.map (·.1)).map tupI):=by unfold ZaS;rw[h7];show(ZeT (Zg (encM T))).map _=_;rw[dec_enc,<-ZlQ T];rfl
 have hg:Zay Zaj (Zbx (Zo 8) (Zc 0)) r ((T.map (·.1)).map tupI)=some ((T.map (·.2)).map dI):=by rw[Zyn,Zyn];have:=ZbC (e:=Zbx (Zo 8) (Zc 0)) (r:=r) (λp:List Int × Int=>tupI p.1) (λp=>dI p.2) T (λp hp=>by have hk:ZaV (tupI p.1)=some (Zac p.1):=ZaB p.1;have hlk:=Zcm T p.1;rw[ZpT hT hp]at hlk;simp[h7,dec_enc,hk,hlk]);exact this
 unfold ZM;rw[hw];dsimp only;rw[if_pos (by rw[Zx1,Zx1]; show _<1000000; omega),hg];rfl
theorem ZrW{k:Option Int}(r:HM.Env)(h7:r[7]?=some (some (.hd (Zg (encM T)))))(h4:r[4]?=some (some (.pl (oI k)))):ZM (ZaS 7) (tV (op2 gEq (Zbx (Zo 8) (Zc 0)) (Zc 5))) (Zc 0) r=some (.ol (((T.filter λp=>some p.2==k).map (·.1)).map tupI)):=by
 have hw:ZaS 7 r=some ((T.map (·.1)).map tupI):=by unfold ZaS;rw[h7];show(ZeT (Zg (encM T))).map _=_;rw[dec_enc,<-ZlQ T];rfl
 have hg:Zay (tV (op2 gEq (Zbx (Zo 8) (Zc 0)) (Zc 5))) (Zc 0) r ((T.map (·.1)).map tupI)=some (((T.filter λp=>some p.2==k).map (·.1)).map tupI):=by
  rw[Zyn,Zyn];have:=ZbB (c:=tV (op2 gEq (Zbx (Zo 8) (Zc 0)) (Zc 5))) (e:=Zc 0) (r:=r) (λp:List Int × Int=>tupI p.1) (λp=>some p.2==k) (λp=>tupI p.1) T (λp hp=>by
   have hk:ZaV (tupI p.1)=some (Zac p.1):=ZaB p.1;have hlk:=Zcm T p.1;rw[ZpT hT hp]at hlk;have h1:Zbx (Zo 8) (Zc 0) (some (.pl (tupI p.1))::r)=some (.int p.2):=by simp[h7,dec_enc,hk,hlk]
   have h2:Zc 5 (some (B.pl (tupI p.1))::r)=some (oI k):=by simp[h4]
   unfold tV op2;rw[h1,h2];cases k with
   | none=>show(match gEq (.int p.2) .none with | some (.bool b)=>some b | _=>none)=_;rw[Zhe (Zgn 1 _) (Zuq 1) (by decide) (by decide) (by simp)];rfl
   | some k =>
    show(match gEq (.int p.2) (.int k)with | some (.bool b)=>some b | _=>none)=_
    by_cases e:p.2=k
    ·rw[e,ZdZ (Zgn 1 _) (by decide)]
     simp
    ·rw[Zhe (Zgn 1 _) (Zgn 1 _) (by decide) (by decide) (by simpa using e)]
     simp[e]) (λp _ _=>by simp)
  exact this
 unfold ZM;rw[hw];dsimp only;rw[if_pos (by rw[Zx1,Zx1]; show _<1000000; omega),hg];rfl
end
section
variable{w:Wk}(hv:Wk.V w){ap:AP}{wf:Wf}{L:List (List Int)}{t:Nat}{cs:List D}{cb:Cb}(hnd:L.Nodup)(hlen:L.length<=128)(hcr:∀c∈L,Cr w.many c)(hys:∀c∈L,(wf c).length<1000)(ha:∀c∈L,∀y∈wf c,∀M,ap t cs [wyD y,.dict (Zg (encM M))]=some (oI (cb y M)))
include hnd hlen hys ha
theorem ZqK{M:Tb}{k:Int}{found:List (List Int)}{o6 o7:Option B}(h6:Zbw o6=false)(h7:Zbw o7=false)(hf:found.length<=128)(hM:M.length<50000) :
  ∃p6 p7,Zbw p6=false/\Zbw p7=false/\Zdl ap [some (.pl w.d),some (.pl (.dict (Zg (Zx wf L)))),some (.pl (fnD t cs)),some (.ot (encM M)),some (.pl (dI k)),some (.ol (found.map tupI)),o6,o7] =
   some (.nx [some (.pl w.d),some (.pl (.dict (Zg (Zx wf L)))),some (.pl (fnD t cs)),some (.ot (encM (Zby found k M))),some (.pl (oI (Zce (ZaU wf cb L (Zby found k M))))),some (.ol ((Zfr (ZaU wf cb L (Zby found k M))).map tupI)),p6,p7]):=by
 obtain⟨p6,hp6,e1⟩:=ZpN ap (some (.pl w.d)) (some (.pl (.dict (Zg (Zx wf L))))) (some (.pl (fnD t cs))) (some (.pl (.list (found.map tupI)))) o7 k found M o6 (by omega) h6;generalize hM':Zby found k M=M' at *;have hnx:=Zmy hnd hlen hys ha M';have hT:NdT (ZaU wf cb L M'):=ZvV hnd;have hTl:(ZaU wf cb L M').length<100000:=by have:=Zp1 (wf:=wf) (cb:=cb) (L:=L) (M:=M'); omega
 generalize hO:ZaU wf cb L M'=T at *;refine⟨p6,some (.pl (.dict (Zg (encM T)))),hp6,rfl,?_⟩;unfold Zdl;refine Z7 (P:=λq=>q=_) (r':=[some (.pl w.d),some (.pl (.dict (Zg (Zx wf L)))),some (.pl (fnD t cs)),some (.ot (encM M')),some (.pl (dI k)),some (.pl (.list (found.map tupI))),p6,o7]) ?_ ?_
 ·unfold ZdH Zje Zbd
  have hfb:found.length<1000000:=by omega
  simp[hfb];exact e1
 ·refine Z7 (P:=λq=>q=_) (r':=[some (.pl w.d),some (.pl (.dict (Zg (Zx wf L)))),some (.pl (fnD t cs)),some (.ot (encM M')),some (.pl (dI k)),some (.pl (.list (found.map tupI))),p6,some (.ot (encM T))]) ?_ ?_
  ·have hcl:ZiX (Zbv ap) (Zd (Zc 1) (Zd (ZmI (Zo 3)) (Zd (Zc 2) Zn))) [some (.pl w.d),some (.pl (.dict (Zg (Zx wf L)))),some (.pl (fnD t cs)),some (.ot (encM M')),some (.pl (dI k)),some (.pl (.list (found.map tupI))),p6,o7]=some (.ot (encM T)):=by
    unfold ZiX;show(match Zbv ap [.dict (Zg (Zx wf L)),.dict (Zg (encM M')),fnD t cs]with | some kvs=>if kvs.all (λp=>Zjg p.2)then some (B.ot kvs)else none | none=>none)=_;rw[hnx];have hfl:(encM T).all (λp=>Zjg p.2)=true:=by unfold encM;rw[List.all_map];exact Zx9.mpr λp _=>rfl
    dsimp only;rw[if_pos hfl]
   unfold ZQ;rw[hcl];rfl
  ·have a1:∀x4 x5:D,([some (B.pl w.d),some (.pl (.dict (Zg (Zx wf L)))),some (.pl (fnD t cs)),some (.ot (encM M')),some (.pl x4),some (.pl x5),p6,some (.pl (.dict (Zg (encM T))))]:HM.Env).all (λq=>!Zbw q)=true:=λx4 x5=>by
    simp only[Zzi,ZCP,hp6];rfl
   have a2:∀x4:D,∀x5:B,Zbw (some x5)=false->([some (B.pl w.d),some (.pl (.dict (Zg (Zx wf L)))),some (.pl (fnD t cs)),some (.ot (encM M')),some (.pl x4),some x5,p6,none]:HM.Env).all (λq=>!Zbw q)=true:=λx4 x5 hx=>by simp only[Zzi,ZCP,hp6,hx];rfl
   have hv1:=Zrs hT hTl [some (.pl w.d),some (.pl (.dict (Zg (Zx wf L)))),some (.pl (fnD t cs)),some (.ot (encM M')),some (.pl (dI k)),some (.pl (.list (found.map tupI))),p6,some (.hd (Zg (encM T)))] rfl;have hm1:Z9 4 (ZfG (ZM (ZaS 7) Zaj (Zbx (Zo 8) (Zc 0)))) [some (.pl w.d),some (.pl (.dict (Zg (Zx wf L)))),some (.pl (fnD t cs)),some (.ot (encM M')),some (.pl (dI k)),some (.pl (.list (found.map tupI))),p6,some (.hd (Zg (encM T)))]=some (.nx [some (.pl w.d),some (.pl (.dict (Zg (Zx wf L)))),some (.pl (fnD t cs)),some (.ot (encM M')),some (.pl (oI (Zce T))),some (.pl (.list (found.map tupI))),p6,some (.hd (Zg (encM T)))]):=by
    have:ZfG (ZM (ZaS 7) Zaj (Zbx (Zo 8) (Zc 0))) [some (.pl w.d),some (.pl (.dict (Zg (Zx wf L)))),some (.pl (fnD t cs)),some (.ot (encM M')),some (.pl (dI k)),some (.pl (.list (found.map tupI))),p6,some (.hd (Zg (encM T)))]=some (oI (Zce T)):=by unfold ZfG;rw[hv1];show(match ZaI ((T.map (·.2)).map dI)with | some ns=>some (match ns.min? with | some i=>ZyG i | none=>.none) | none=>none)=_;rw[Zcu];show some (match(T.map (·.2)).min? with | some i=>ZyG i | none=>.none)=_;unfold Zce;cases(T.map (·.2)).min?<;>rfl
    unfold Z9;rw[this];rfl
   refine Z7 (P:=λq=>q=_) (r':=[some (.pl w.d),some (.pl (.dict (Zg (Zx wf L)))),some (.pl (fnD t cs)),some (.ot (encM M')),some (.pl (oI (Zce T))),some (.pl (.list (found.map tupI))),p6,some (.pl (.dict (Zg (encM T))))]) ?_ ?_
   ·show(if([some (B.pl w.d),some (.pl (.dict (Zg (Zx wf L)))),some (.pl (fnD t cs)),some (.ot (encM M')),some (.pl (dI k)),some (.pl (.list (found.map tupI))),p6,some (.pl (.dict (Zg (encM T))))]:HM.Env).all (λq=>!Zbw q)=true then _ else _)=_
    rw[if_pos (a1 _ _)];show(match Z9 4 _ [some (.pl w.d),some (.pl (.dict (Zg (Zx wf L)))),some (.pl (fnD t cs)),some (.ot (encM M')),some (.pl (dI k)),some (.pl (.list (found.map tupI))),p6,some (.hd (Zg (encM T)))]with | some (.nx r')=>_ | some (.rt d)=>_ | _=>none)=_;rw[hm1];show(if([some (B.pl w.d),some (.pl (.dict (Zg (Zx wf L)))),some (.pl (fnD t cs)),some (.ot (encM M')),some (.pl (oI (Zce T))),some (.pl (.list (found.map tupI))),p6,none]:HM.Env).all (λq=>!Zbw q)=true then _ else _)=_;rw[if_pos (a2 _ _ rfl)];rfl
   ·have hk1:=ZrW hT hTl (k:=Zce T) [some (.pl w.d),some (.pl (.dict (Zg (Zx wf L)))),some (.pl (fnD t cs)),some (.ot (encM M')),some (.pl (oI (Zce T))),some (.pl (.list (found.map tupI))),p6,some (.hd (Zg (encM T)))] rfl rfl
    have hm2:ZQ 5 (ZM (ZaS 7) (tV (op2 gEq (Zbx (Zo 8) (Zc 0)) (Zc 5))) (Zc 0)) [some (.pl w.d),some (.pl (.dict (Zg (Zx wf L)))),some (.pl (fnD t cs)),some (.ot (encM M')),some (.pl (oI (Zce T))),some (.pl (.list (found.map tupI))),p6,some (.hd (Zg (encM T)))]=some (.nx [some (.pl w.d),some (.pl (.dict (Zg (Zx wf L)))),some (.pl (fnD t cs)),some (.ot (encM M')),some (.pl (oI (Zce T))),some (.ol ((Zfr T).map tupI)),p6,some (.hd (Zg (encM T)))]):=by unfold ZQ;rw[hk1];rfl
    show(if([some (B.pl w.d),some (.pl (.dict (Zg (Zx wf L)))),some (.pl (fnD t cs)),some (.ot (encM M')),some (.pl (oI (Zce T))),some (.pl (.list (found.map tupI))),p6,some (.pl (.dict (Zg (encM T))))]:HM.Env).all (λq=>!Zbw q)=true then _ else _)=_;rw[if_pos (a1 _ _)];show(match ZQ 5 _ [some (.pl w.d),some (.pl (.dict (Zg (Zx wf L)))),some (.pl (fnD t cs)),some (.ot (encM M')),some (.pl (oI (Zce T))),some (.pl (.list (found.map tupI))),p6,some (.hd (Zg (encM T)))]with | some (.nx r')=>_ | some (.rt d)=>_ | _=>none)=_;rw[hm2];show(if([some (B.pl w.d),some (.pl (.dict (Zg (Zx wf L)))),some (.pl (fnD t cs)),some (.ot (encM M')),some (.pl (oI (Zce T))),some (.ol ((Zfr T).map tupI)),p6,none]:HM.Env).all (λq=>!Zbw q)=true then _ else _)=_;rw[if_pos (a2 _ _ rfl)];rfl
omit hnd hlen hys ha in
theorem ZsI{M:Tb}{c:List Int}(h:c∈Zfr (ZaU wf cb L M)):c∈L/\Zs M c=false:=by obtain⟨⟨c',k⟩,h1,rfl⟩:=Zyf.mp h;have:=Zuf.mp (Zyx.mp h1).1;exact⟨this.1,this.2.1⟩
omit hnd hlen hys ha in
theorem Zsq{T:Tb}(h:Zfr T≠[]):∃k,Zce T=some k:=by
 cases hq:Zce T with
 | some k=>exact⟨k,rfl⟩
 | none=>refine absurd ?_ h;unfold Zce at hq;rw[ZCA]at hq;have:=List.map_eq_nil_iff.mp hq;subst this;rfl
theorem ZiI:∀(fuel n:Nat) (M:Tb) (k:Option Int) (found:List (List Int)) (o6 o7:Option B),Zbw o6=false->Zbw o7=false->(∀c∈found,c∈L/\Zs M c=false)->found.length<=128->M.length<=128*n->n<=(L.filter λc=>Zs M c).length->130<=n+fuel->(found≠[]->∃i,k=some i) ->
  ∃R p4 p5 p6 p7,Za0 (tV (op2 gGt (Za8 (Zo 5)) (eC (.int 0)))) (Zdl ap) fuel [some (.pl w.d),some (.pl (.dict (Zg (Zx wf L)))),some (.pl (fnD t cs)),some (.ot (encM M)),some (.pl (oI k)),some (.ol (found.map tupI)),o6,o7]=some (.nx [some (.pl w.d),some (.pl (.dict (Zg (Zx wf L)))),some (.pl (fnD t cs)),some (.ot (encM R)),p4,p5,p6,p7])/\Zkf wf cb L M k found R
 | 0,n,M,k,found,o6,o7,_,_,_,_,_,ht,hfu,_=>by have:=ZyH (λc=>Zs M c) L;omega
 | fuel+1,n,M,k,found,o6,o7,h6,h7,hfo,hfl,hM,ht,hfu,hks=>by
  have htl:=ZyH (λc=>Zs M c) L
  by_cases hf:found=[]
  ·subst hf
   refine⟨M,some (.pl (oI k)),some (.ol []),o6,o7,?_,.done⟩;unfold Za0;have e:(tV (op2 gGt (Za8 (Zo 5)) (eC (.int 0)))) [some (.pl w.d),some (.pl (.dict (Zg (Zx wf L)))),some (.pl (fnD t cs)),some (.ot (encM M)),some (.pl (oI k)),some (.ol (([]:List (List Int)).map tupI)),o6,o7]=some false:=by simp
   rw[e];rfl
  ·obtain⟨i,rfl⟩:=hks hf
   have e:(tV (op2 gGt (Za8 (Zo 5)) (eC (.int 0)))) [some (.pl w.d),some (.pl (.dict (Zg (Zx wf L)))),some (.pl (fnD t cs)),some (.ot (encM M)),some (.pl (oI (some i))),some (.ol (found.map tupI)),o6,o7]=some true:=by have:0<found.length:=ZBy.mpr hf;simp;omega
   obtain⟨p6,p7,g6,g7,ht1⟩:=ZqK hnd hlen hys ha (w:=w) (M:=M) (k:=i) (found:=found) h6 h7 hfl (by omega);have hml:(Zby found i M).length<=M.length+found.length:=Zgx i found M;have hlk:∀k,Zm (Zby found i M) k=if k∈found then some i else Zm M k:=λk=>Zgw i k found M
   have hcnt:(L.filter λc=>Zs M c).length<(L.filter λc=>Zs (Zby found i M) c).length:=by
    refine ZdU (λx _ hx=>?_) ?_
    ·unfold Zs at hx ⊢
     rw[hlk];split
     ·rfl
     ·exact hx
    ·obtain⟨c,cs,rfl⟩:=ZBR hf
     refine⟨c,(hfo c (Zx3 ..)).1,?_,(hfo c (Zx3 ..)).2⟩;unfold Zs;rw[hlk,if_pos (Zx3 ..)];rfl
   have hol:(Zfr (ZaU wf cb L (Zby found i M))).length<=128:=by
    have h1:(Zfr (ZaU wf cb L (Zby found i M))).length<=(ZaU wf cb L (Zby found i M)).length:=by unfold Zfr;rw[Zx1];exact ZyH ..
    have h2:=Zp1 (wf:=wf) (cb:=cb) (L:=L) (M:=Zby found i M);omega
   obtain⟨R,q4,q5,q6,q7,g,J⟩:=ZiI fuel (n+1) (Zby found i M) (Zce (ZaU wf cb L (Zby found i M))) (Zfr (ZaU wf cb L (Zby found i M))) p6 p7 g6 g7 (λc hc=>ZsI hc) hol (by omega) (by omega) (by omega) Zsq;refine⟨R,q4,q5,q6,q7,?_,.step hf J⟩;unfold Za0;rw[e];dsimp only;show(match Zdl ap [some (.pl w.d),some (.pl (.dict (Zg (Zx wf L)))),some (.pl (fnD t cs)),some (.ot (encM M)),some (.pl (dI i)),some (.ol (found.map tupI)),o6,o7]with | some (.nx r')=>_ | some (.ct r')=>_ | some (.bk r')=>_ | some (.rt d)=>_ | none=>_)=_;rw[ht1];exact g
include hv hcr
theorem Zpp:∃R,ZcZ ap [w.d,.dict (Zg (Zx wf L)),fnD t cs]=some (.dict (Zg (encM R)))/\Zkf wf cb L [] (some 0) (L.filter λc=>ZZ w c) R:=by
 have hlb:L.length<1000000:=by omega
 have hfl:(L.filter λc=>ZZ w c).length<=128:=ZyO (ZyH _ _) hlen;obtain⟨R,p4,p5,p6,p7,g,J⟩:=ZiI hnd hlen hys ha (w:=w) 100000 0 [] (some 0) (L.filter λc=>ZZ w c) none none rfl rfl (λc hc=>⟨(Zyx.mp hc).1,rfl⟩) hfl (by simp) (Zzr _) (by omega) λ_=>⟨0,rfl⟩;refine⟨R,?_,J⟩;have hw:ZaS 1 [some (.pl w.d),some (.hd (Zg (Zx wf L))),some (.pl (fnD t cs)),some (.ot (encM [])),some (.pl (dI 0)),none,none,none]=some (L.map tupI):=by show(ZeT (Zg (Zx wf L))).map _=_;rw[dec_enc,<-ZiL wf L];rfl
 have hgo:∀r:HM.Env,r[0]?=some (some (.pl w.d))->Zay (tV (Zl ZbF (Zd (Zc 1) (Zd (Zc 0) Zn)))) (Zc 0) r (L.map tupI)=some ((L.filter λc=>ZZ w c).map tupI):=λr r0=>by
  rw[ZbB tupI (λc=>ZZ w c) tupI]
  ·intro c hc
   have:=ZpD (w:=w) (c:=c) (by have:=(hcr c hc).len; have:=hv.m2; omega);simp[r0,this]
  ·intro c _ _
   simp
 have hc:ZM (ZaS 1) (tV (Zl ZbF (Zd (Zc 1) (Zd (Zc 0) Zn)))) (Zc 0) [some (.pl w.d),some (.hd (Zg (Zx wf L))),some (.pl (fnD t cs)),some (.ot (encM [])),some (.pl (dI 0)),none,none,none]=some (.ol ((L.filter λc=>ZZ w c).map tupI)):=by unfold ZM;rw[hw];dsimp only;rw[if_pos (by rw[Zx1]; exact hlb),hgo _ rfl];rfl
 have hh:ZeA 1 (ZQ 5 (ZM (ZaS 1) (tV (Zl ZbF (Zd (Zc 1) (Zd (Zc 0) Zn)))) (Zc 0))) [some (.pl w.d),some (.pl (.dict (Zg (Zx wf L)))),some (.pl (fnD t cs)),some (.ot (encM [])),some (.pl (dI 0)),none,none,none]=some (.nx [some (.pl w.d),some (.pl (.dict (Zg (Zx wf L)))),some (.pl (fnD t cs)),some (.ot (encM [])),some (.pl (dI 0)),some (.ol ((L.filter λc=>ZZ w c).map tupI)),none,none]):=by show(match ZQ 5 _ [some (.pl w.d),some (.hd (Zg (Zx wf L))),some (.pl (fnD t cs)),some (.ot (encM [])),some (.pl (dI 0)),none,none,none]with | some (.nx r')=>_ | some (.rt d)=>_ | _=>none)=_;unfold ZQ;rw[hc];rfl
 show Z4 (Ze0 ap [some (.pl w.d),some (.pl (.dict (Zg (Zx wf L)))),some (.pl (fnD t cs)),none,none,none,none,none])=_;have e:Ze0 ap [some (.pl w.d),some (.pl (.dict (Zg (Zx wf L)))),some (.pl (fnD t cs)),none,none,none,none,none]=some (.rt (.dict (Zg (encM R)))):=by unfold Ze0;refine Z7 (P:=λq=>q=_) (r':=[some (.pl w.d),some (.pl (.dict (Zg (Zx wf L)))),some (.pl (fnD t cs)),some (.ot (encM [])),none,none,none,none]) rfl ?_;refine Z7 (P:=λq=>q=_) (r':=[some (.pl w.d),some (.pl (.dict (Zg (Zx wf L)))),some (.pl (fnD t cs)),some (.ot (encM [])),some (.pl (dI 0)),none,none,none]) rfl ?_;refine Z7 (P:=λq=>q=_) hh ?_;refine Z7 (P:=λq=>q=_) g ?_;simp
 rw[e];rfl
end
end HG5
namespace HG5
open PySem HM HG
def ap:AP:=λt cs ds=>match t with
 | 0=>if cs.isEmpty then Zc0 ds else none
 | 1=>ZkA 1 2 (Zl Za4 (Zd (Zc 1) (Zd (Zc 2) (Zd (Zc 0) Zn)))) cs ds
 | _=>none
end HG5
namespace HG5
open PySem HM HG HG4
inductive Zlh(w:Wk)(ls b:List Int):List Int->Prop where
 | beg {p:List Int} (h:p∈Zp w ls b):Zlh w ls b p
 | step {c p:List Int} {d:Nat} (r:Zlh w ls b c) (hd:d<w.deeds.length) (hc:Zao w c d=true) (h:p∈Zp w ls (ZJ w c d)):Zlh w ls b p
def Zls(w:Wk)(ls c:List Int)(d:Int):Wy:=(dI d,ZF w ls (ZJ w c d))
def wfV(w:Wk)(ls:List Int):Wf:=λc=>(doV w c).map (Zls w ls c)
abbrev Zfp(w:Wk)(ls:List Int)(L:List (List Int)):List (List Ky × D):=Zx (wfV w ls) L
theorem ZrE(w:Wk)(ls c:List Int):ZmM w ls c=.list ((wfV w ls c).map wyD):=by unfold ZmM wfV;rw[Zyn];rfl
theorem ZxP(w:Wk)(ls c:List Int)(d:Int):wyP (Zls w ls c d)=Zp w ls (ZJ w c d):=rfl
abbrev OkC(w:Wk)(c:List Int):Prop:=Cr w.many c/\c≠[]
structure ApD(ap:AP):Prop where
 d0:∀ds,ap 0 [] ds=Zc0 ds
 l1:∀cs ds,ap 1 cs ds=ZkA 1 2 (Zl Za4 (Zd (Zc 1) (Zd (Zc 2) (Zd (Zc 0) Zn)))) cs ds
section
variable{w:Wk}(hv:Wk.V w)(h7:w.many<=7){ls:List Int}(hl:Cr w.looks.length ls)
include hv h7
theorem ZwY:ZqZ (wfV w ls) (OkC w):=by
 refine⟨λc hc y hy p hp=>?_,λc hc=>?_,λc hc y hy=>?_,λC hn hC=>?_⟩
 ·obtain⟨d,hd,rfl⟩:=Zyf.mp hy
  obtain⟨d0,d1,_⟩:=ZeP hd;have:=ZfI (Zeb hv hc.1 d0 d1) (show p∈Zp w ls (ZJ w c d) from hp);exact⟨this.1,this.2.1⟩
 ·unfold wfV
  rw[Zx1];have:=Zk7 w c;have:=hv.d2;omega
 ·obtain⟨d,hd,rfl⟩:=Zyf.mp hy
  obtain⟨d0,d1,_⟩:=ZeP hd;have:=split_len (w:=w) (ls:=ls) (c:=ZJ w c d);have:=(Zeb hv hc.1 d0 d1).len;show(ZF w ls (ZJ w c d)).length<=8;omega
 ·have h1:=ZhU hn λc hc=>(hC c hc).1
  have h2:2 ^ w.many<=2 ^ 7:=ZBu (by decide) h7;have h3:2 ^ 7=128:=rfl;omega
omit hv h7 in
theorem ZvD{b c:List Int}(r:Zle (wfV w ls) (Zp w ls b) c):Zlh w ls b c:=by
 induction r with
 | beg h=>exact .beg h
 | @step c p y _ hy hp ih=>obtain⟨d,hd,rfl⟩:=Zyf.mp hy;obtain⟨d0,d1,d2⟩:=ZeP hd;have e:((d.toNat:Nat):Int)=d:=ZBx d0;exact .step (d:=d.toNat) ih (by omega) (by rw[e]; exact d2) (by rw[e]; exact hp)
include hl
theorem Zlr{ap:AP}(A:ApD ap){b:List Int}(hb:Cr w.many b):∃L,ZaA ap [w.d,tupI ls,tupI b]=some (.dict (Zg (Zfp w ls L)))/\L.Nodup/\L.length<=128/\(∀c∈L,Cr w.many c/\c≠[])/\(∀c∈L,Zlh w ls b c)/\Zcb w ls L/\∀p∈Zp w ls b,p∈L:=by
 have hp:=Ziy hv hl hb;have hsl:=split_len (w:=w) (ls:=ls) (c:=b);have hbl:=hb.len;have hci:=ZeH (ZF w ls b) (by omega);have hpl:(Zp w ls b).length<=100:=by unfold Zp; rw[Zx1]; omega
 have O:=ZwY hv h7 (ls:=ls);have ha:∀c,OkC w c->ap 1 [w.d,tupI ls] [tupI c]=some (.list ((wfV w ls c).map wyD)):=λc hc=>by rw[A.l1,<-ZrE];unfold ZkA;rw[if_pos ⟨rfl,rfl,by rw[Zzi,Zd7 19]; rfl⟩];exact ZoU hv hl hc.1
 obtain⟨L,e,J⟩:=ZqD O ha (B:=Zp w ls b) (λc h=>⟨(ZfI hb h).1,(ZfI hb h).2.1⟩) hpl;refine⟨L,?_,J.nd,O.cs L J.nd J.cr,J.cr,λc hc=>ZvD (J.rc c hc),λc hc d hd can p hp=>?_,λp hp=>?_⟩
 ·show Z4 (ZeI ap [some (.pl w.d),some (.pl (tupI ls)),some (.pl (tupI b))])=_
  have h1:Zl ZD (Zd (Zl ZaK (Zd (Zc 0) (Zd (Zc 1) (Zd (Zc 2) Zn)))) Zn) [some (.pl w.d),some (.pl (tupI ls)),some (.pl (tupI b))]=some (.list ((Zp w ls b).map tupI)):=by unfold Zl Zd;show(match(match ZaK [w.d,tupI ls,tupI b]with | some x=>(Zn _).map (x::·) | none=>none)with | some ds=>ZD ds | none=>none)=_;rw[hp];exact hci
  have hn1:[w.d,tupI ls].all (noF 20)=true:=by rw[Zzi,Zzi,ZwL,Zd7 19];rfl
  have hn2:noF 20 (.dict (Zg (Zfp w ls L)))=true:=Zw1 (n:=14) λc _ y hy=>by obtain⟨d,_,rfl⟩:=Zyf.mp hy;exact ZuQ _ _
  unfold ZeI ZC Zh2;rw[h1];show Z4 (Zze Out.rt (if[w.d,tupI ls].all (noF 20)=true then(match ZbN ap [.list ((Zp w ls b).map tupI),fnD 1 [w.d,tupI ls]]with | some d=>if noF 20 d=true then some d else none | none=>none)else none))=_;rw[if_pos hn1,e];dsimp only;rw[if_pos hn2];rfl
 ·rcases J.cl c hc (Zls w ls c d) (Zyf.mpr ⟨(d:Int),ZpH hd can,rfl⟩) p hp with h | h
  ·exact h
  ·simp at h
 ·rcases J.bg p hp with h | h
  ·exact h
  ·simp at h
end
def Zcd(ps:List (List Int))(M:Tb):Option Int:=if ps.all (Zs M)then(ps.filterMap λp=>Zm M p).max? else none
def cbD:Cb:=λy M=>(Zcd (wyP y) M).map (·+1)
theorem Zia{α β:Type}{f:α->Option β}:∀{xs:List α},((xs.filterMap f).length=xs.length↔xs.all (λx=>(f x).isSome)=true)
 | []=>by simp
 | x::xs=>by
  have ih:=Zia (f:=f) (xs:=xs);have hl:(xs.filterMap f).length<=xs.length:=ZCd f xs;rw[Zzf,Zzi];cases h:f x with
  | none=>simp; omega
  | some y=>simpa using ih
theorem Zf7{g:Gs}(hg:g.length<1000)(h0:g≠[]){M:Tb}:ZO [.list (g.map Zai),.dict (Zg (encM M))]=some (oI (Zcd (g.map (·.2)) M)):=by
 have hci:=ZeH g (by omega);have hlen:((g.map (·.2)).map tupI).length<big:=by rw[Zx1,Zx1]; show _<1000000; omega
 have h1:Zah (bOf (Zl ZD (Zd (Zc 0) Zn))) [some (.pl (.list (g.map Zai))),some (.pl (.dict (Zg (encM M)))),none]=some ((g.map (·.2)).map tupI):=by unfold Zah bOf;show(match Zze B.pl (ZD [.list (g.map Zai)])with | some x=>Zbe x | none=>none)=_;rw[hci];rfl
 have h2:Zay (tV (ZnY (Zc 0) (Zo 2))) (Zbx (Zo 2) (Zc 0)) [some (.pl (.list (g.map Zai))),some (.pl (.dict (Zg (encM M)))),none] ((g.map (·.2)).map tupI)=some (((g.map (·.2)).filterMap λp=>Zm M p).map dI):=by
  rw[ZbB tupI (Zs M) (λp=>dI ((Zm M p).getD 0))]
  ·congr 1
   generalize g.map (·.2)=ps
   induction ps with
   | nil=>rfl
   | cons p ps ih =>
    rw[ZzF,Zzf];unfold Zs at ih ⊢;cases hq:Zm M p with
    | none=>rw[if_neg (by simp)]; exact ih
    | some k=>rw[if_pos (by rfl),Zx6,Zx6,ih,hq]; rfl
  ·intro p _
   have hk:ZaV (tupI p)=some (Zac p):=ZaB p;simp[dec_enc,hk,Zcm,Zs]
  ·intro p _ hp
   have hk:ZaV (tupI p)=some (Zac p):=ZaB p;unfold Zs at hp;obtain⟨k,hk'⟩:=ZyL.mp hp;have hlk:=Zcm M p;rw[hk']at hlk;simp[dec_enc,hk,hlk,hk']
 have hfl:=Zia (f:=λp=>Zm M p) (xs:=g.map (·.2));rw[Zx1]at hfl;have hall:(g.map (·.2)).all (λx=>(Zm M x).isSome)=(g.map (·.2)).all (Zs M):=rfl;rw[hall]at hfl;generalize hN:(g.map (·.2)).filterMap (λp=>Zm M p)=ns at *;show Z4 (ZdV [some (.pl (.list (g.map Zai))),some (.pl (.dict (Zg (encM M)))),none])=_;unfold ZdV;refine Z7 (P:=λq=>Z4 q=_) (r':=[some (.pl (.list (g.map Zai))),some (.pl (.dict (Zg (encM M)))),some (.ol (ns.map dI))]) ?_ ?_
 ·unfold ZQ ZM
  rw[h1];dsimp only;rw[if_pos hlen,h2];rfl
 ·have h3:op2 gEq (Za8 (Zo 2)) (Za8 (Zo 0)) [some (.pl (.list (g.map Zai))),some (.pl (.dict (Zg (encM M)))),some (.ol (ns.map dI))]=some (.bool (decide (ns.length=g.length))):=by
   show gEq (.int ((ns.map dI).length:Int)) (.int ((g.map Zai).length:Int))=_;rw[Zx1,Zx1]
   by_cases e:ns.length=g.length
   ·rw[e,ZdZ (Zgn 1 _) (by decide)]
    simp
   ·rw[Zhe (Zgn 1 _) (Zgn 1 _) (by decide) (by decide) (λz=>e (by injection z with z; omega))]
    simp[e]
  have h4:ZkF (Zo 2) [some (.pl (.list (g.map Zai))),some (.pl (.dict (Zg (encM M)))),some (.ol (ns.map dI))]=ns.max?.map λi=>ZyG i:=by show(match ZaI (ns.map dI)with | some ns=>ns.max?.map λi=>ZyG i | none=>none)=_;rw[Zcu]
  unfold ZC eIf tV;rw[h3];unfold Zcd;rw[hN]
  by_cases e:ns.length=g.length
  ·rw[if_pos (hfl.mp e),decide_eq_true e]
   show Z4 (Zze Out.rt (ZkF (Zo 2) _))=_;rw[h4];have hne:ns≠[]:=λz=>by rw[z]at e;exact h0 (ZAy e.symm)
   cases hq:ns.max? with
   | none=>rw[ZCB]at hq; exact absurd hq hne
   | some m=>rfl
  ·rw[if_neg λz=>e (hfl.mpr z),decide_eq_false e]
   rfl
theorem ZpA{y:Wy}(hy:y.2.length<1000)(h0:y.2≠[])(M:Tb):Zc0 [wyD y,.dict (Zg (encM M))]=some (oI (cbD y M)):=by
 have h:=Zf7 hy h0 (M:=M);have h':ZO [.list (y.2.map Zai),.dict (Zg (encM M))]=some (oI (Zcd (wyP y) M)):=h;show Z4 (ZgD [some (.pl (wyD y)),some (.pl (.dict (Zg (encM M)))),none])=_;unfold ZgD cbD;refine Z7 (P:=λq=>Z4 q=_) (r':=[some (.pl (wyD y)),some (.pl (.dict (Zg (encM M)))),some (.pl (oI (Zcd (wyP y) M)))]) ?_ ?_
 ·unfold Z9 Zl
  show Zze _ (ZO [.list (y.2.map Zai),.dict (Zg (encM M))])=_;rw[h'];rfl
 ·cases Zcd (wyP y) M<;>rfl
def ZhV(w:Wk)(ls:List Int)(L:List (List Int))(M:Tb):Prop:=∃t,ZeL w ls L t M/\ZaY w ls L M=[]
theorem Zqt{ps:List (List Int)}{M:Tb}{m:Int}(h:Zcd ps M=some m):(∀p∈ps,∃k,Zm M p=some k/\k<=m)/\∃p∈ps,Zm M p=some m:=by
 unfold Zcd at h;split at h
 ·rename_i ha
  obtain⟨m1,m2⟩:=ZCy.mp h;refine⟨λp hp=>?_,?_⟩
  ·have hh:=Zx9.mp ha p hp
   unfold Zs at hh;obtain⟨k,hk⟩:=ZyL.mp hh;exact⟨k,hk,m2 _ (Zzl.mpr ⟨p,hp,hk⟩)⟩
  ·obtain⟨p,hp,e⟩:=Zzl.mp m1
   exact⟨p,hp,e⟩
 ·cases h
theorem Zks{ps:List (List Int)}{M:Tb}(h0:ps≠[])(h:Zcd ps M=none):ps.all (Zs M)=false:=by
 cases hq:ps.all (Zs M)with
 | false=>rfl
 | true=>unfold Zcd at h;rw[hq,if_pos rfl,ZCB]at h;obtain⟨p,r,rfl⟩:=ZBR h0;have hh:=Zx9.mp hq p (Zx3 ..);unfold Zs at hh;obtain⟨k,hk⟩:=ZyL.mp hh;rw[Zzf,hk]at h;cases h
section
variable{w:Wk}{ls:List Int}{L:List (List Int)}(hL:Zcb w ls L)(hne:∀c∈L,c≠[])
include hL hne
theorem ZqR{t:Nat}{M:Tb}(T:ZeL w ls L t M){c:List Int}(hc:c∈L)(hn:Zs M c=false):ZcL cbD (wfV w ls c) M=if Zdq w ls c M then some ((t+1:Nat):Int)else none:=by
 have known:∀{p:List Int} {k:Int},Zm M p=some k->∃n:Nat,k=(n:Int)/\n<=t/\Win w ls n p=true:=λ{p k} h=>by
  rw[T.look]at h;split at h
  ·obtain⟨n,h1,h2,h3,_⟩:=Zkt h
   exact⟨n,h1,h2,h3⟩
  ·cases h
 have val:∀y∈wfV w ls c,∀k,cbD y M=some k->k=((t+1:Nat):Int)/\Zdq w ls c M=true:=λy hy k hk=>by
  obtain⟨d,hd,rfl⟩:=Zyf.mp hy;obtain⟨d0,d1,d2⟩:=ZeP hd;have e:((d.toNat:Nat):Int)=d:=ZBx d0;obtain⟨m,h1,h2⟩:=Zx2.mp hk;have h1:Zcd (Zp w ls (ZJ w c d)) M=some m:=h1;obtain⟨w1,p,hp,w2⟩:=Zqt h1;obtain⟨n,rfl,hnt,_⟩:=known w2;refine⟨?_,Zy9.mpr ⟨d.toNat,Zyq.mpr (by omega),?_⟩⟩
  ·subst h2
   by_cases hlt:n<t
   ·-- then the crowd would be known already
    have hw:Win w ls (n+1) c=true:=by show(ZZ w c||_)=true;rw[ZzJ];refine .inr (Zy9.mpr ⟨d.toNat,Zyq.mpr (by omega),?_⟩);rw[e,d2,ZCG];refine Zx9.mpr λq hq=>?_;obtain⟨k,k1,k2⟩:=w1 q hq;obtain⟨n',rfl,_,hw'⟩:=known k1;exact Zhg (by omega) hw'
    have:Zs M c=true:=by unfold Zs;rw[T.look,if_pos hc,Zcn];exact Zhg (by omega) hw
    rw[hn]at this;cases this
   ·show(n:Int)+1=_
    omega
  ·rw[e,d2,ZCG]
   refine Zx9.mpr λq hq=>?_;obtain⟨k,k1,_⟩:=w1 q hq;unfold Zs;rw[k1];rfl
 have all_eq:∀k∈(wfV w ls c).filterMap (λy=>cbD y M),k=((t+1:Nat):Int)/\Zdq w ls c M=true:=λk hk=>by obtain⟨y,hy,e⟩:=Zzl.mp hk;exact val y hy k e
 unfold ZcL;cases hcan:Zdq w ls c M with
 | false =>
  have:(wfV w ls c).filterMap (λy=>cbD y M)=[]:=List.eq_nil_iff_forall_not_mem.mpr λk hk=>by have:=(all_eq k hk).2;rw[hcan]at this;cases this
  rw[this];rfl
 | true =>
  obtain⟨d,hd,hq⟩:=Zy9.mp hcan;rw[Zyk]at hq;have hd':=Zyq.mp hd;have hy:Zls w ls c (d:Int)∈wfV w ls c:=Zyf.mpr ⟨(d:Int),ZpH hd' hq.1,rfl⟩;have hpn:Zp w ls (ZJ w c d)≠[]:=ZhD (ZnW (hne c hc) hq.1);have hk:∃k,cbD (Zls w ls c d) M=some k:=by
   unfold cbD;cases hw:Zcd (wyP (Zls w ls c d)) M with
   | none=>have:=Zks hpn hw;rw[show(Zp w ls (ZJ w c d)).all (Zs M)=true from hq.2]at this;cases this
   | some m=>exact⟨m+1,rfl⟩
  obtain⟨k,hk⟩:=hk;have hm:k∈(wfV w ls c).filterMap (λy=>cbD y M):=Zzl.mpr ⟨_,hy,hk⟩;cases hmin:((wfV w ls c).filterMap λy=>cbD y M).min? with
  | none=>rw[ZCA]at hmin; rw[hmin]at hm; simp at hm
  | some m=>have:=(ZBl.mp hmin).1;rw[(all_eq m this).1];rfl
theorem ZtI{t:Nat}{M:Tb}(T:ZeL w ls L t M):ZaU (wfV w ls) cbD L M=(ZaY w ls L M).map λc=>(c,((t+1:Nat):Int)):=by
 unfold ZaU ZaY;have key:∀K:List (List Int),(∀c∈K,c∈L)->(K.filterMap λc=>if Zs M c then none else(ZcL cbD (wfV w ls c) M).map λk=>(c,k))=(K.filter λc=>!Zs M c&&Zdq w ls c M).map λc=>(c,((t+1:Nat):Int)):=by
  intro K
  induction K with
  | nil=>intro _; rfl
  | cons c K ih =>
   intro hK;have ih:=ih λx hx=>hK x (Zx4 _ hx);rw[Zzf,ZzF];cases hh:Zs M c with
   | true=>simpa using ih
   | false =>
    have hle:=ZqR hL hne T (hK c (Zx3 ..)) hh;rw[hle];cases hcan:Zdq w ls c M with
    | false=>simpa [hcan]using ih
    | true=>simpa [hcan]using ih
 exact key L λ_ h=>h
theorem Zuk{M R:Tb}{k:Option Int}{found:List (List Int)}(r:Zkf (wfV w ls) cbD L M k found R):∀t:Nat,(found=[]->ZeL w ls L t M/\ZaY w ls L M=[])->(found≠[]->k=some (t:Int)/\ZeL w ls L t (Zby found t M))->ZhV w ls L R:=by
 induction r with
 | done=>intro t h _; exact⟨t,h rfl⟩
 | @step M R k found hf _ ih =>
  intro t _ h;obtain⟨hk,T⟩:=h hf;cases hk;have ho:=ZtI hL hne T;have hmin:∀ms:List (List Int),Zfr (ms.map λc=>(c,((t+1:Nat):Int)))=ms/\(ms≠[]->Zce (ms.map λc=>(c,((t+1:Nat):Int)))=some ((t+1:Nat):Int)):=λms=>by
   cases ms with
   | nil=>exact⟨rfl,λz=>absurd rfl z⟩
   | cons c ms =>
    have hO:Zce ((c::ms).map λc=>(c,((t+1:Nat):Int)))=some ((t+1:Nat):Int):=by unfold Zce;rw[Zyn];refine ZBl.mpr ⟨Zyf.mpr ⟨c,Zx3 ..,rfl⟩,λb hb=>?_⟩;obtain⟨c',_,rfl⟩:=Zyf.mp hb;exact Int.le_refl _
    refine⟨?_,λ_=>hO⟩;unfold Zfr;rw[hO];have:∀xs:List (List Int),((xs.map λc=>(c,((t+1:Nat):Int))).filter λp=>some p.2==some ((t+1:Nat):Int)).map (·.1)=xs:=by
     intro xs
     induction xs with
     | nil=>rfl
     | cons x xs ih=>simp at ih ⊢; exact ih
    exact this _
  obtain⟨m1,m2⟩:=hmin (ZaY w ls L (Zby found t M));rw[ho,m1]at ih;refine ih (if ZaY w ls L (Zby found t M)=[]then t else t+1) (λe=>?_) λe=>?_
  ·rw[if_pos e]
   exact⟨T,e⟩
  ·rw[if_neg e]
   exact⟨m2 e,Zj9 hL T⟩
theorem Ztl(hv:Wk.V w){R:Tb}(r:Zkf (wfV w ls) cbD L [] (some 0) (L.filter λc=>ZZ w c) R):ZhV w ls L R:=by
 refine Zuk hL hne r 0 (λe=>?_) λ_=>⟨rfl,Zj2⟩;have T:ZeL w ls L 0 (M0 w L):=Zj2;have e0:M0 w L=[]:=by unfold M0; rw[e]; rfl
 rw[e0]at T;refine⟨T,ZAx.mpr λc hc h=>?_⟩;rw[Zyk]at h;obtain⟨d,hd,hq⟩:=Zy9.mp h.2;rw[Zyk]at hq;obtain⟨p,hp⟩:=List.exists_mem_of_ne_nil _ (ZhD (w:=w) (ls:=ls) (ZnW (hne c hc) hq.1));have:=Zx9.mp hq.2 p hp;cases this
end
theorem Zou{w:Wk}(hv:Wk.V w){ap:AP}(A:ApD ap){ls:List Int}{L:List (List Int)}(hnd:L.Nodup)(hcr:∀c∈L,Cr w.many c/\c≠[])(hlen:L.length<=128)(hL:Zcb w ls L):∃M,Za5 ap [w.d,.dict (Zg (Zfp w ls L))]=some (.dict (Zg (encM M)))/\ZhV w ls L M:=by
 have hys:∀c∈L,(wfV w ls c).length<1000:=λc hc=>by unfold wfV;rw[Zx1];have:=Zk7 w c;have:=hv.d2;omega
 obtain⟨R,e,r⟩:=Zpp hv (ap:=ap) (wf:=wfV w ls) (t:=0) (cs:=[]) (cb:=cbD) hnd hlen (λc hc=>(hcr c hc).1) hys λc hc y hy M=>by
  rw[A.d0];obtain⟨d,hd,rfl⟩:=Zyf.mp hy;obtain⟨d0,d1,d2⟩:=ZeP hd;refine ZpA ?_ ?_ M
  ·have:=split_len (w:=w) (ls:=ls) (c:=ZJ w c d)
   have:=(Zeb hv (hcr c hc).1 d0 d1).len;have:=hv.m2;show(ZF w ls (ZJ w c d)).length<1000;omega
  ·exact λz=>ZhD (w:=w) (ls:=ls) (ZnW (hcr c hc).2 d2) (by unfold Zp; rw[show ZF w ls (ZJ w c d)=[] from z]; rfl)
 refine⟨R,?_,Ztl hL (λc hc=>(hcr c hc).2) hv r⟩;show Z4 (ZfP ap [some (.pl w.d),some (.pl (.dict (Zg (Zfp w ls L))))])=_;unfold ZfP ZC Zl;show Z4 (Zze Out.rt (ZcZ ap [w.d,.dict (Zg (Zx (wfV w ls) L)),fnD 0 []]))=_;rw[e];rfl
end HG5
namespace HG5
open PySem HM HG HG4
theorem ZhV.cost{w:Wk}{ls:List Int}{L:List (List Int)}{M:Tb}(F:ZhV w ls L M){c:List Int}{k:Int}(h:Zm M c=some k):c∈L/\∃n:Nat,k=(n:Int)/\Win w ls n c=true/\∀m,m<n->Win w ls m c=false:=by
 obtain⟨t,T,_⟩:=F;rw[T.look]at h;split at h
 ·rename_i hc
  obtain⟨n,h1,_,h2,h3⟩:=Zkt h;exact⟨hc,n,h1,h2,h3⟩
 ·cases h
theorem ZhV.all{w:Wk}{ls:List Int}{L:List (List Int)}(hL:Zcb w ls L){M:Tb}(F:ZhV w ls L M){c:List Int}(hc:c∈L){n:Nat}(h:Win w ls n c=true):Zs M c=true:=by
 obtain⟨t,T,hm⟩:=F;have T':=Zj9 hL T;rw[hm]at T';have st:∀c∈L,Win w ls (t+1) c=true->Win w ls t c=true:=λc hc q=>by have e1:=T.look c;have e2:=T'.look c;rw[if_pos hc]at e1 e2;have e3:ZcQ w ls t c=ZcQ w ls (t+1) c:=e1.symm.trans e2;rw[<-Zcn,e3,Zcn];exact q
 have:=ZhF hL st n c hc h;unfold Zs;rw[T.look,if_pos hc,Zcn];exact this
def ZxX(w:Wk)(ls:List Int)(P:List (List Int))(d:D):Prop:=(∃n:Nat,d=.int n/\(∀p∈P,Win w ls n p=true)/\∀m,m<n->¬∀p∈P,Win w ls m p=true)\/(d=.none/\∀n,¬∀p∈P,Win w ls n p=true)
theorem Zxl:ApD ap:=⟨λ_=>rfl,λ_ _=>rfl⟩
end HG5
namespace HGT
open PySem HM
open HG
open HG5
def ZdW:SF :=
 (ZeA 0 (ZC (eOf (ZM (ZaS 0) (tV (Zbr (Zc 0) (Zo 2))) (Zc 0)))))
def ZU:List D->Option D:=fnOf 2 2 ZdW
def Zl4:SF :=
 (ZC (eIx (bOf (Zl ZU (Zd (Zl ZD (Zd (Zc 0) Zn)) (Zd (Zc 1) Zn)))) (eC (.int 0))))
def ZcT:List D->Option D:=fnOf 2 2 Zl4
def ZjS(ap:AP):SF :=
 (Zr (ZhW (Zl ZbE (Zd (Zc 0) Zn)))
  (Zr (ZhW (Zl Zae (Zd (Zc 0) (Zd (Zc 1) Zn))))
  (Zr (Z9 2 (Zl (ZaA ap) (Zd (Zc 0) (Zd (Zc 1) (Zd (Zl Zbg (Zd (Zc 0) Zn)) Zn)))))
  (ZC (eOf (Zc9 (bOf (Zl ZU (Zd (Zc 2) (Zd (Zl (Za5 ap) (Zd (Zc 0) (Zd (Zc 2) Zn))) Zn))))))))))
def ZfQ(ap:AP):List D->Option D:=fnOf 2 3 (ZjS ap)
def ZdP(ap:AP):SF :=
 (Zr (ZhW (Zl ZbE (Zd (Zc 0) Zn)))
  (Zr (ZhW (Zl Zae (Zd (Zc 0) (Zd (Zc 1) Zn))))
  (Zr (Z9 2 (Zl ZaK (Zd (Zc 0) (Zd (Zc 1) (Zd (Zl Zbg (Zd (Zc 0) Zn)) Zn)))))
  (Zr (Z9 3 (Zl (ZaA ap) (Zd (Zc 0) (Zd (Zc 1) (Zd (Zl Zbg (Zd (Zc 0) Zn)) Zn)))))
  (Zr (Z9 4 (Zl (Za5 ap) (Zd (Zc 0) (Zd (Zc 3) Zn))))
  (Zr (sIf (tV (op2 ZeG (Zl ZO (Zd (Zc 2) (Zd (Zc 4) Zn))) (eC .none))) (ZC (eC .none)) ZaD)
  (ZC (ZeR (Zd (Zl ZcT (Zd (Zc 2) (Zd (Zc 4) Zn))) (Zd (eOf (Zc9 (bOf (Zl ZU (Zd (Zc 3) (Zd (Zc 4) Zn)))))) Zn))))))))))
def Zc1(ap:AP):List D->Option D:=fnOf 2 5 (ZdP ap)
end HGT
namespace HGT
open PySem HM HG4
open HG
open HG5
theorem Zmw{ts us:List (List Int)}(h:us.Perm ts):Zco us=Zco ts:=by
 have fx0:HP.FX:=HP.FX0;refine HP.ZoG ((ZaT us).trans h) ?_;have e:Zco us=Zco us:=rfl;have:=ZAs (le:=λa b:List Int=>!HM.lexLt b a) (λa b c h1 h2=>by
  simp only[Bool.not_eq_true']at *;cases q:HM.lexLt c a with
  | false=>rfl
  | true =>
   rcases HP.Zi4 c b a q with z | z
   ·rw[h2]at z; cases z
   ·rw[h1]at z; cases z) (λa b=>by
  cases q:HM.lexLt b a with
  | false=>simp
  | true =>
   cases q2:HM.lexLt a b with
   | false=>simp
   | true=>have:=HP.lex_trans _ _ _ q q2; rw[HP.lex_irrefl]at this; cases this) us
 exact this.imp λh=>by simpa using h
theorem Zjo{w:Wk}{ls:List Int}{L:List (List Int)}(hL:Zcb w ls L)(hb:∀p∈Zp w ls w.beg,p∈L){c:List Int}(h:Rch w ls c):c∈L:=by
 induction h with
 | beg h=>exact hb _ h
 | step _ hd hc h ih=>exact hL _ ih _ hd hc _ h
theorem Zs6{w:Wk}{ls:List Int}{c:List Int}(h:Zlh w ls w.beg c):Rch w ls c:=by
 induction h with
 | beg h=>exact .beg h
 | step _ hd hc h ih=>exact .step ih hd hc h
def Zs7(w:Wk)(ls c:List Int):Prop:=Rch w ls c/\∀n,Win w ls n c=false
theorem ZhI{w:Wk}{ls:List Int}{L:List (List Int)}(hL:Zcb w ls L){M:Tb}(F:ZhV w ls L M){c:List Int}(hc:c∈L):(!Zs M c)=true↔∀n,Win w ls n c=false:=by
 constructor
 ·intro h n
  cases q:Win w ls n c with
  | false=>rfl
  | true=>rw[F.all hL hc q]at h; cases h
 ·intro h
  cases q:Zs M c with
  | false=>rfl
  | true=>unfold Zs at q;obtain⟨k,hk⟩:=ZyL.mp q;obtain⟨_,n,_,h2,_⟩:=F.cost hk;rw[h n]at h2;cases h2
theorem Zgf(w:Wk)(ls:List Int){L:List (List Int)}(hL:L.length<1000000)(M:Tb):ZU [.dict (Zg (Zfp w ls L)),.dict (Zg (encM M))]=some (.list ((L.filter λc=>!Zs M c).map tupI)):=by
 show Z4 (ZdW [some (.pl (.dict (Zg (Zfp w ls L)))),some (.pl (.dict (Zg (encM M))))])=_;have hw:ZaS 0 [some (.hd (Zg (Zfp w ls L))),some (.pl (.dict (Zg (encM M))))]=some (L.map tupI):=by show(ZeT (Zg (Zfp w ls L))).map _=_;rw[dec_enc,<-ZiL (wfV w ls) L];rfl
 have hc:=without_go (L:=L) (M:=M) [some (.hd (Zg (Zfp w ls L))),some (.pl (.dict (Zg (encM M))))] rfl;have hb:(L.map tupI).length<big:=by rw[Zx1]; exact hL
 show Z4 (match ZC _ [some (.hd (Zg (Zfp w ls L))),some (.pl (.dict (Zg (encM M))))]with | some (.nx r')=>_ | some (.rt d)=>_ | _=>none)=_;unfold ZC eOf ZM;rw[hw];dsimp only;rw[if_pos hb,hc];rfl
where
 without_go {L:List (List Int)} {M:Tb} (r:HM.Env) (h:r[1]?=some (some (.pl (.dict (Zg (encM M)))))):Zay (tV (Zbr (Zc 0) (Zo 2))) (Zc 0) r (L.map tupI)=some ((L.filter λc=>!Zs M c).map tupI):=by
  rw[ZbB tupI (λc=>!Zs M c) tupI]
  ·intro c _
   have hk:ZaV (tupI c)=some (Zac c):=ZaB c;have hlk:=Zcm M c;unfold Zs;cases hq:Zm M c with
   | none=>rw[hq]at hlk; simp[h,dec_enc,hk,hlk]
   | some k=>rw[hq]at hlk; simp[h,dec_enc,hk,hlk]
  ·intro c _ _
   simp
theorem Zob{L:List (List Int)}(hL:L.length<1000000)(M:Tb):ZU [.list (L.map tupI),.dict (Zg (encM M))]=some (.list ((L.filter λc=>!Zs M c).map tupI)):=by
 show Z4 (ZdW [some (.pl (.list (L.map tupI))),some (.pl (.dict (Zg (encM M))))])=_;have hc:=Zgf.without_go (L:=L) (M:=M) [some (.pl (.list (L.map tupI))),some (.pl (.dict (Zg (encM M))))] rfl;have hb:(L.map tupI).length<big:=by rw[Zx1]; exact hL
 show Z4 (ZC _ [some (.pl (.list (L.map tupI))),some (.pl (.dict (Zg (encM M))))])=_;have hw:ZaS 0 [some (.pl (.list (L.map tupI))),some (.pl (.dict (Zg (encM M))))]=some (L.map tupI):=rfl;unfold ZC eOf ZM;rw[hw];dsimp only;rw[if_pos hb,hc];rfl
theorem Zmx{g:Gs}(hg:g.length<1000000)(M:Tb){p:List Int}{ps:List (List Int)}(h:(g.map (·.2)).filter (λc=>!Zs M c)=p::ps):ZcT [.list (g.map Zai),.dict (Zg (encM M))]=some (tupI p):=by
 have h1:=ZeH g hg;have h2:=Zob (L:=g.map (·.2)) (by rw[Zx1]; exact hg) M;rw[h]at h2;show Z4 (ZC (eIx (bOf (Zl ZU (Zd (Zl ZD (Zd (Zc 0) Zn)) (Zd (Zc 1) Zn)))) (eC (.int 0))) [some (.pl (.list (g.map Zai))),some (.pl (.dict (Zg (encM M))))])=_;have h3:Zl ZU (Zd (Zl ZD (Zd (Zc 0) Zn)) (Zd (Zc 1) Zn)) [some (.pl (.list (g.map Zai))),some (.pl (.dict (Zg (encM M))))]=some (.list ((p::ps).map tupI)):=by show(match(match ZD [.list (g.map Zai)]with | some x=>(some [ZCR (Zg (encM M))]).map (x::·) | none=>none)with | some ds=>ZU ds | none=>none)=_;rw[h1];exact h2
 have h4:atD ((p::ps).map tupI) ((0:Nat):Int)=some (tupI p):=Zc7 rfl;unfold ZC eIx bOf;rw[h3];show Z4 (Zze Out.rt (atD ((p::ps).map tupI) ((0:Nat):Int)))=_;rw[h4];rfl
structure Known(ap:AP)(w:Wk)(ls:List Int)(L:List (List Int))(M:Tb):Prop where
 co:ZaA ap [w.d,tupI ls,tupI w.beg]=some (.dict (Zg (Zfp w ls L)))
 de:Za5 ap [w.d,.dict (Zg (Zfp w ls L))]=some (.dict (Zg (encM M)))
 nd:L.Nodup
 len:L.length<=128
 cr:∀c∈L,Cr w.many c/\c≠[]
 mem:∀c,c∈L↔Rch w ls c
 cl:Zcb w ls L
 fin:ZhV w ls L M
section
variable{ap:AP}{w:Wk}(hv:Wk.V w)(h7:w.many<=7){ls:List Int}(hl:Cr w.looks.length ls)
include hv h7 hl
theorem known(A:ApD ap):∃L M,Known ap w ls L M:=by obtain⟨L,hco,hnd,hlen,hcr,hrc,hL,hbg⟩:=Zlr hv h7 hl A hv.bc;obtain⟨M,hde,F⟩:=Zou hv A hnd hcr hlen hL;exact⟨L,M,hco,hde,hnd,hlen,hcr,λc=>⟨λh=>Zs6 (hrc c h),λh=>Zjo hL hbg h⟩,hL,F⟩
omit h7 hl in
theorem Known.len5{L:List (List Int)}{M:Tb}(K:Known ap w ls L M)(h5:w.many<=5):L.length<=32:=by have h1:=ZhU K.nd λc hc=>(K.cr c hc).1;have h2:2 ^ w.many<=2 ^ 5:=ZBu (by decide) h5;have h3:2 ^ 5=32:=rfl;omega
omit hv h7 hl in
theorem Known.trap{L:List (List Int)}{M:Tb}(K:Known ap w ls L M)(c:List Int):c∈L.filter (λc=>!Zs M c)↔Zs7 w ls c:=by
 rw[Zyx]
 constructor
 ·rintro ⟨h1,h2⟩
  exact⟨(K.mem c).mp h1,(ZhI K.cl K.fin h1).mp h2⟩
 ·rintro ⟨h1,h2⟩
  have:=(K.mem c).mpr h1;exact⟨this,(ZhI K.cl K.fin this).mpr h2⟩
def ZhE(L:List (List Int))(M:Tb):List (List Int):=Zco (L.filter λc=>!Zs M c)
omit h7 hl in
theorem Known.sorted{L:List (List Int)}{M:Tb}(K:Known ap w ls L M)(h5:w.many<=5):ZdF ((L.filter λc=>!Zs M c).map tupI)=some ((ZhE L M).map tupI):=by have h1:=K.len5 hv h5;have h2:=ZyH (λc=>!Zs M c) L;exact ZhP _ (by omega) (.inr λk hk=>(K.cr k (Zyx.mp hk).1).2)
omit h7 in
theorem ZtP{L:List (List Int)}{M:Tb}(K:Known ap w ls L M)(h5:w.many<=5):ZfQ ap [w.d,tupI ls]=some (.list ((ZhE L M).map tupI)):=by have hc1:=ZkR hv;have hc2:=Zgc hv hl;have hb:=ZjK w;have h1:=K.co;have h2:=K.de;have h3:=Zgf w ls (L:=L) (by have:=K.len; omega) M;have h4:=K.sorted hv h5;show Z4 (ZjS ap [some (.pl w.d),some (.pl (tupI ls)),none])=_;simp[ZjS,hc1,hc2,hb,h1,h2,h3,h4,Z4,-Zyn,-ZBv]
omit h7 in
theorem Zpx{L:List (List Int)}{M:Tb}(K:Known ap w ls L M)(h5:w.many<=5):((Zp w ls w.beg).all (Zs M)=true->Zc1 ap [w.d,tupI ls]=some .none/\∃n:Int,Zdm ap [w.d,tupI ls]=some (.int n)) /\
  ∀p ps,(Zp w ls w.beg).filter (λc=>!Zs M c)=p::ps->Zc1 ap [w.d,tupI ls]=some (.tuple [tupI p,.list ((ZhE L M).map tupI)])/\Zdm ap [w.d,tupI ls]=some .none:=by
 have hc1:=ZkR hv;have hc2:=Zgc hv hl;have hb:=ZjK w;have h1:=K.co;have h2:=K.de;have h3:=Zgf w ls (L:=L) (by have:=K.len; omega) M;have h4:=K.sorted hv h5;have hpa:=Ziy hv hl hv.bc;have hsl:=split_len (w:=w) (ls:=ls) (c:=w.beg);have hbl:=hv.bc.len;have hm2:=hv.m2;have hsn:ZF w ls w.beg≠[]:=λe=>ZhD (w:=w) (ls:=ls) hv.b1 (by unfold Zp; rw[e]; rfl);have hmd:=Zf7 (g:=ZF w ls w.beg) (by omega) hsn (M:=M);have hf:Zdm ap [w.d,tupI ls]=ZO [.list ((ZF w ls w.beg).map Zai),.dict (Zg (encM M))]:=by
  show Z4 (Zio ap [some (.pl w.d),some (.pl (tupI ls)),none,none])=_;have:∀q:Option D,Z4 (q.map Out.rt)=q:=λq=>by cases q<;>rfl
  simp[Zio,hc1,hc2,hb,h1,h2,hpa,this]
 constructor
 ·intro hall
  have hne:((ZF w ls w.beg).map (·.2))≠[]:=λe=>hsn (List.map_eq_nil_iff.mp e);obtain⟨m,hm⟩:∃m,Zcd ((ZF w ls w.beg).map (·.2)) M=some m:=by
   cases q:Zcd ((ZF w ls w.beg).map (·.2)) M with
   | none=>have:=Zks hne q; rw[show((ZF w ls w.beg).map (·.2)).all (Zs M)=true from hall]at this; cases this
   | some m=>exact⟨m,rfl⟩
  rw[hm]at hmd;have hmd:ZO [.list ((ZF w ls w.beg).map Zai),.dict (Zg (encM M))]=some (.int m):=hmd;refine⟨?_,m,by rw[hf,hmd]⟩;show Z4 (ZdP ap [some (.pl w.d),some (.pl (tupI ls)),none,none,none])=_;simp[ZdP,hc1,hc2,hb,h1,h2,hpa,hmd,Z4]
 ·intro p ps hfl
  have hall:((ZF w ls w.beg).map (·.2)).all (Zs M)=false:=by
   cases q:((ZF w ls w.beg).map (·.2)).all (Zs M)with
   | false=>rfl
   | true =>
    have hp:p∈(Zp w ls w.beg).filter λc=>!Zs M c:=by rw[hfl]; exact Zx3 ..
    obtain⟨a1,a2⟩:=Zyx.mp hp;rw[Zx9.mp q p a1]at a2;cases a2
  have hmd:ZO [.list ((ZF w ls w.beg).map Zai),.dict (Zg (encM M))]=some .none:=by rw[hmd];unfold Zcd;rw[hall];rfl
  have hft:=Zmx (g:=ZF w ls w.beg) (by omega) M hfl;refine⟨?_,by rw[hf,hmd]⟩;show Z4 (ZdP ap [some (.pl w.d),some (.pl (tupI ls)),none,none,none])=_;simp[ZdP,hc1,hc2,hb,h1,h2,hpa,hmd,hft,h3,h4,Z4,-Zyn,-ZBv]
end
end HGT
namespace HG12
open PySem HM
open HG
open HG5
open HGT
def ZmW(ap:AP):SF :=
 (Zr (Z9 1 (Zl Za2 (Zd (Zc 0) (Zd (eC (.int 1)) Zn))))
  (Zr (Z9 2 (Zl ZcD (Zd (Zc 1) (Zd (Zl Zaf (Zd (Zc 0) (Zd (eC (.int 0)) Zn))) Zn))))
  (Zr (Z9 3 (Zl Zdj (Zd (Zc 1) (Zd (Zc 2) Zn))))
  (Zr (ZQ 4 (Zc9 (ZM (Zah (bOf (Zl Zcl (Zd (Zc 1) (Zd (Zc 2) Zn))))) (tV (Zbr (Zc 0) (Zo 4))) (Zc 0))))
  (Zr (Z9 5 (Zl (ZfQ ap) (Zd (Zc 1) (Zd (Zc 2) Zn))))
  (Zr (ZdH 4 (sIf (tOr (ZeS (tV (Zft (Zc 5) .list))) (tV (op2 gNe (Zc 5) (Zc 4)))) (ZC (eC (.bool false))) ZaD))
  (Zr (ZQ 6 (ZeD (Zah (bOf (Zl Zan (Zd (Zc 1) (Zd (Zc 2) (Zd (eIx (Zo 1) (eC (.int 3))) Zn)))))) (tV (ZnC (Zc 1) (Zo 6))) (Zc 1)))
  (Zr (Z9 7 (Zl (Zc1 ap) (Zd (Zc 1) (Zd (Zc 2) Zn))))
  (Zr (sIf (tV (op2 gNe (op2 Zny (Zc 7) (eC .none)) (op2 ZeG (Zl (Zdm ap) (Zd (Zc 1) (Zd (Zc 2) Zn))) (eC .none)))) (ZC (eC (.bool false))) ZaD)
  (Zr (ZdH 6 (sIf (tV (op2 gEq (Zc 6) (eOf (ZeC Zn)))) (ZC (op2 Zny (Zc 7) (eC .none))) ZaD))
  (ZdH 4 (ZC (Zgi (Zft (Zc 7) .tuple) (op2 gEq (Zc 7) (ZeR (Zd (eIx (Zo 6) (eC (.int 0))) (Zd (Zc 4) Zn)))))))))))))))))
def ZfR(ap:AP):List D->Option D:=fnOf 1 8 (ZmW ap)
end HG12
namespace HG12
open PySem HM HG4
open HG
open HG5
open HGT
theorem ZlS{w:Wk}{ls:List Int}{L:List (List Int)}(hL:Zcb w ls L){M:Tb}(T:ZeL w ls L L.length M){c:List Int}(hc:c∈L):(!Zs M c)=true↔∀n,Win w ls n c=false:=by
 have e:Zs M c=Win w ls L.length c:=by unfold Zs;rw[T.look,if_pos hc,Zcn]
 rw[e]
 constructor
 ·intro h n
  cases q:Win w ls n c with
  | false=>rfl
  | true=>rw[Zuj hL hc q]at h; cases h
 ·intro h
  rw[h];rfl
theorem Zk6(L:List (List Int)):nbD 2 (.list (L.map tupI))=true:=ZrG λd hd=>by obtain⟨c,_,rfl⟩:=Zyf.mp hd;exact Zc6 0 c
theorem Zka(ns:List Int)(h:ns.length<=63):ZfR ap [.list (ns.map dI)]=some (.bool true):=by
 have hv:=Wk.Ok.v (ZvH ns 1);have h5:(wkV ns 1).many<=5:=(Zi5 ns 1).2;have hw:=ZtJ ns 1 h;have hc0:=Zd6 ns 0;have hlk:=ZtQ hv (Zy ns 0);have hl:=Zvw (wkV ns 1).looks.length (Zy ns 0);generalize wkV ns 1=w at *;generalize lkV w.looks.length (Zy ns 0)=ls at *;have h7:w.many<=7:=by omega
 have hw':Za2 [.list (ns.map dI),.int 1]=some w.d:=hw;have hc':Zaf [.list (ns.map dI),.int 0]=some (.int (Zy ns 0)):=hc0;obtain⟨L,M,K⟩:=known hv h7 hl Zxl;obtain⟨L1,M1,hco,I1,hL1,hb1,T1⟩:=Zod hv h7 hl;obtain⟨L2,hall,I2,hL2,hb2⟩:=Zku hv h7 hl;have hlen2:=I2.len h7;have hfil:Zay (tV (Zbr (Zc 0) (Zo 4))) (Zc 0) [some (.pl (.list (ns.map dI))),some (.pl w.d),some (.pl (tupI ls)),some (.pl (.dict (Zg (encM M1)))),none,none,none,none] (L2.map tupI)=some ((L2.filter λc=>!Zs M1 c).map tupI):=by
  rw[ZbB tupI (λc=>!Zs M1 c) tupI]
  ·intro c _
   have hk:ZaV (tupI c)=some (Zac c):=ZaB c;have hlk:=Zcm M1 c;unfold Zs;cases hq:Zm M1 c with
   | none=>rw[hq]at hlk; simp[dec_enc,hk,hlk]
   | some k=>rw[hq]at hlk; simp[dec_enc,hk,hlk]
  ·intro c _ _
   simp
 have hmem:∀c,c∈L2.filter (λc=>!Zs M1 c)↔Zs7 w ls c:=λc=>by
  rw[Zyx]
  constructor
  ·rintro ⟨q1,q2⟩
   have hr:=I2.rch c q1;exact⟨hr,(ZlS hL1 T1 (Zjo hL1 hb1 hr)).mp q2⟩
  ·rintro ⟨q1,q2⟩
   exact⟨Zjo hL2 hb2 q1,(ZlS hL1 T1 (Zjo hL1 hb1 q1)).mpr q2⟩
 have hperm:(L2.filter λc=>!Zs M1 c).Perm (L.filter λc=>!Zs M c):=(List.perm_ext_iff_of_nodup (I2.nd.filter _) (K.nd.filter _)).mpr λc=>(hmem c).trans (K.trap c).symm;have hsort:ZdF ((L2.filter λc=>!Zs M1 c).map tupI)=some ((ZhE L M).map tupI):=by have h1:=K.len5 hv h5;have h2:=ZyH (λc=>!Zs M c) L;have h3:=hperm.length_eq;rw[ZhP _ (by omega) (.inr λk hk=>(I2.cr k (Zyx.mp hk).1).2),Zmw hperm];rfl
 have hmemT:∀c,c∈ZhE L M↔Zs7 w ls c:=λc=>by unfold ZhE;rw[(ZaT _).mem_iff];exact K.trap c
 have htr:=ZtP hv hl K h5;obtain⟨y1,y2⟩:=Zpx hv hl K h5;generalize ZhE L M=T at *;show Z4 (ZmW ap [some (.pl (.list (ns.map dI))),none,none,none,none,none,none,none])=_;unfold ZmW;refine Z7 (P:=λq=>Z4 q=_) (r':=[some (.pl (.list (ns.map dI))),some (.pl w.d),none,none,none,none,none,none]) (by simp[hw']) ?_;refine Z7 (P:=λq=>Z4 q=_) (r':=[some (.pl (.list (ns.map dI))),some (.pl w.d),some (.pl (tupI ls)),none,none,none,none,none]) (by simp[hc',hlk]) ?_;refine Z7 (P:=λq=>Z4 q=_) (r':=[some (.pl (.list (ns.map dI))),some (.pl w.d),some (.pl (tupI ls)),some (.pl (.dict (Zg (encM M1)))),none,none,none,none]) (by simp[hco]) ?_;refine Z7 (P:=λq=>Z4 q=_) (r':=[some (.pl (.list (ns.map dI))),some (.pl w.d),some (.pl (tupI ls)),some (.pl (.dict (Zg (encM M1)))),some (.ol (T.map tupI)),none,none,none]) ?_ ?_
 ·have hi:Zah (bOf (Zl Zcl (Zd (Zc 1) (Zd (Zc 2) Zn)))) [some (.pl (.list (ns.map dI))),some (.pl w.d),some (.pl (tupI ls)),some (.pl (.dict (Zg (encM M1)))),none,none,none,none]=some (L2.map tupI):=by
   simp[hall]
  unfold ZQ Zc9 ZM;rw[hi];dsimp only;rw[if_pos (by rw[Zx1]; show _<1000000; omega),hfil];show Zze _ (Zze _ (ZdF ((L2.filter λc=>!Zs M1 c).map tupI)))=_;rw[hsort];rfl
 refine Z7 (P:=λq=>Z4 q=_) (r':=[some (.pl (.list (ns.map dI))),some (.pl w.d),some (.pl (tupI ls)),some (.pl (.dict (Zg (encM M1)))),some (.ol (T.map tupI)),some (.pl (.list (T.map tupI))),none,none]) (by simp[htr]) ?_;refine Z7 (P:=λq=>Z4 q=_) (r':=[some (.pl (.list (ns.map dI))),some (.pl w.d),some (.pl (tupI ls)),some (.pl (.dict (Zg (encM M1)))),some (.pl (.list (T.map tupI))),some (.pl (.list (T.map tupI))),none,none]) ?_ ?_
 ·have hne:=ZsK (Zk6 T) (by decide)
  simp[hne,-gNe,-Zyn]
 refine Z7 (P:=λq=>Z4 q=_) (r':=[some (.pl (.list (ns.map dI))),some (.pl w.d),some (.pl (tupI ls)),some (.pl (.dict (Zg (encM M1)))),some (.pl (.list (T.map tupI))),some (.pl (.list (T.map tupI))),some (.ol (((Zp w ls w.beg).filter λc=>!Zs M c).map tupI)),none]) ?_ ?_
 ·have hs:=ZeF hv hl hv.bc
  have hsl:=split_len (w:=w) (ls:=ls) (c:=w.beg);have hbl:=hv.bc.len;have hi:Zah (bOf (Zl Zan (Zd (Zc 1) (Zd (Zc 2) (Zd (eIx (Zo 1) (eC (.int 3))) Zn))))) [some (.pl (.list (ns.map dI))),some (.pl w.d),some (.pl (tupI ls)),some (.pl (.dict (Zg (encM M1)))),some (.pl (.list (T.map tupI))),some (.pl (.list (T.map tupI))),none,none]=some ((ZF w ls w.beg).map Zai):=by show(match Zze B.pl (Zan [w.d,tupI ls,tupI w.beg])with | some x=>Zbe x | none=>none)=_;rw[hs];rfl
  have e:=Zfb (c:=tV (ZnC (Zc 1) (Zo 6))) (e:=Zc 1) (r:=[some (.pl (.list (ns.map dI))),some (.pl w.d),some (.pl (tupI ls)),some (.pl (.dict (Zg (encM M1)))),some (.pl (.list (T.map tupI))),some (.pl (.list (T.map tupI))),none,none]) (λp:List Int × List Int=>tupI p.1) (λp=>tupI p.2) (λp=>T.contains p.2) (λp=>tupI p.2) (ZF w ls w.beg) (λp _=>by simp[Znz,-Zzn]) (λp _ _=>by simp);have e':((ZF w ls w.beg).map λp:List Int × List Int=>ZyT [tupI p.1,tupI p.2])=(ZF w ls w.beg).map Zai:=rfl;have e2:((ZF w ls w.beg).filter λp=>T.contains p.2).map (λp=>tupI p.2)=((Zp w ls w.beg).filter λc=>!Zs M c).map tupI:=by unfold Zp;rw[ZBv,Zyn];congr 1;refine List.filter_congr λp hp=>?_;have hpp:p.2∈Zp w ls w.beg:=Zyf.mpr ⟨p,hp,rfl⟩;have hr:Rch w ls p.2:=.beg hpp;show T.contains p.2=!Zs M p.2;apply ZAM.mpr;rw[List.contains_iff_mem,hmemT,ZhI K.cl K.fin ((K.mem _).mpr hr)];exact⟨λq=>q.2,λq=>⟨hr,q⟩⟩
  unfold ZQ ZeD;rw[hi];dsimp only;rw[if_pos (by rw[Zx1]; show _<1000000; omega),<-e',e,e2];rfl
 by_cases hA:(Zp w ls w.beg).all (Zs M)=true
 ·obtain⟨z1,n,z2⟩:=y1 hA
  have hfe:(Zp w ls w.beg).filter (λc=>!Zs M c)=[]:=by refine ZAx.mpr λp hp q=>?_;rw[Zx9.mp hA p hp]at q;cases q
  rw[hfe];have hg:gEq (.list []) (.list [])=some (.bool true):=ZdZ (Zk6 []) (by decide);refine Z7 (P:=λq=>Z4 q=_) (r':=[some (.pl (.list (ns.map dI))),some (.pl w.d),some (.pl (tupI ls)),some (.pl (.dict (Zg (encM M1)))),some (.pl (.list (T.map tupI))),some (.pl (.list (T.map tupI))),some (.ol (([]:List (List Int)).map tupI)),some (.pl .none)]) (by simp[z1]) ?_;refine Z7 (P:=λq=>Z4 q=_) (r':=[some (.pl (.list (ns.map dI))),some (.pl w.d),some (.pl (tupI ls)),some (.pl (.dict (Zg (encM M1)))),some (.pl (.list (T.map tupI))),some (.pl (.list (T.map tupI))),some (.ol (([]:List (List Int)).map tupI)),some (.pl .none)]) ?_ ?_
  ·have hn:gNe (.bool true) (.bool true)=some (.bool false):=rfl
   simp[z2,hn,-gNe]
  ·unfold Zr
   simp[hg,Z4,-gEq]
 ·have hA':∃p ps,(Zp w ls w.beg).filter (λc=>!Zs M c)=p::ps:=by
   cases q:(Zp w ls w.beg).filter (λc=>!Zs M c)with
   | cons p ps=>exact⟨p,ps,rfl⟩
   | nil =>
    exfalso;apply hA;refine Zx9.mpr λp hp=>?_;have:=ZAx.mp q p hp;cases hq:Zs M p with
    | true=>rfl
    | false=>rw[hq]at this; exact absurd rfl this
  obtain⟨p,ps,hf⟩:=hA';obtain⟨z1,z2⟩:=y2 p ps hf;rw[hf];have hg:gEq (.list ((p::ps).map tupI)) (.list [])=some (.bool false):=ZnS (p::ps);have hg2:gEq (.tuple [tupI p,.list (T.map tupI)]) (.tuple [tupI p,.list (T.map tupI)])=some (.bool true):=by
   refine ZdZ (n:=3) (ZvG λd hd=>?_) (by decide);rcases Zyo.mp hd with e | hd
   ·rw[e]; exact Zc6 1 p
   ·rw[Zym.mp hd]; exact Zk6 T
  have hat:atD ((p::ps).map tupI) ((0:Nat):Int)=some (tupI p):=Zc7 rfl;refine Z7 (P:=λq=>Z4 q=_) (r':=[some (.pl (.list (ns.map dI))),some (.pl w.d),some (.pl (tupI ls)),some (.pl (.dict (Zg (encM M1)))),some (.pl (.list (T.map tupI))),some (.pl (.list (T.map tupI))),some (.ol ((p::ps).map tupI)),some (.pl (.tuple [tupI p,.list (T.map tupI)]))]) (by simp[z1,-Zx6]) ?_;refine Z7 (P:=λq=>Z4 q=_) (r':=[some (.pl (.list (ns.map dI))),some (.pl w.d),some (.pl (tupI ls)),some (.pl (.dict (Zg (encM M1)))),some (.pl (.list (T.map tupI))),some (.pl (.list (T.map tupI))),some (.ol ((p::ps).map tupI)),some (.pl (.tuple [tupI p,.list (T.map tupI)]))]) ?_ ?_
  ·have hn:gNe (.bool false) (.bool false)=some (.bool false):=rfl
   simp[z2,hn,-gNe]
  refine Z7 (P:=λq=>Z4 q=_) (r':=[some (.pl (.list (ns.map dI))),some (.pl w.d),some (.pl (tupI ls)),some (.pl (.dict (Zg (encM M1)))),some (.pl (.list (T.map tupI))),some (.pl (.list (T.map tupI))),some (.pl (.list ((p::ps).map tupI))),some (.pl (.tuple [tupI p,.list (T.map tupI)]))]) ?_ ?_
  ·simp only[ZdH,Zje,ZyD,ZzZ,List.set_cons_succ,List.set_cons_zero]
   unfold sIf tV op2;show(match(match gEq (.list ((p::ps).map tupI)) (.list [])with | some (.bool b)=>some b | _=>none)with | some true=>_ | some false=>_ | none=>none)=_;rw[hg];rfl
  ·show Z4 (ZC _ [some (.pl (.list (ns.map dI))),some (.pl w.d),some (.pl (tupI ls)),some (.pl (.dict (Zg (encM M1)))),some (.pl (.list (T.map tupI))),some (.pl (.list (T.map tupI))),some (.pl (.list ((p::ps).map tupI))),some (.pl (.tuple [tupI p,.list (T.map tupI)]))])=_
   have ht:ZeR (Zd (eIx (Zo 6) (eC (.int 0))) (Zd (Zc 4) Zn)) [some (.pl (.list (ns.map dI))),some (.pl w.d),some (.pl (tupI ls)),some (.pl (.dict (Zg (encM M1)))),some (.pl (.list (T.map tupI))),some (.pl (.list (T.map tupI))),some (.pl (.list ((p::ps).map tupI))),some (.pl (.tuple [tupI p,.list (T.map tupI)]))]=some (.tuple [tupI p,.list (T.map tupI)]):=by show Zze _ (match atD ((p::ps).map tupI) ((0:Nat):Int)with | some x=>_ | none=>none)=_;rw[hat];rfl
   unfold ZC Zgi op2;rw[ht];show Z4 (Zze Out.rt (gEq (.tuple [tupI p,.list (T.map tupI)]) (.tuple [tupI p,.list (T.map tupI)])))=_;rw[hg2];rfl
end HG12
namespace HT
open PySem PySem.Spec PyProof.Rows L2 HP HM
open HG
open HG4
open HG5
open HGT
open HG12
def top(i:Nat):Stmt:=PySem.Challenge.pw_halfseen_k12_traps.main.body.getD i (.Pass ⟨0,0,0,0⟩)
abbrev ZfS:Stmt:=top 9
abbrev Zip:Stmt:=top 10
abbrev ZfT:Stmt:=top 11
abbrev Zfw:Stmt:=top 12
abbrev Zfx:Stmt:=top 13
abbrev Zek:Stmt:=top 14
abbrev Zel:Stmt:=top 15
abbrev ZgE:Stmt:=top 16
abbrev ZfU:Stmt:=top 17
abbrev ZgF:Stmt:=top 18
abbrev ZgG:Stmt:=top 19
abbrev ZgH:Stmt:=top 20
abbrev Zhq:Stmt:=top 21
abbrev Zhr:Stmt:=top 22
abbrev ZdX:Stmt:=top 23
abbrev Zfy:Stmt:=top 24
abbrev Zdx:Stmt:=top 26
abbrev ZdR:Stmt:=top 27
abbrev Ziq:Stmt:=top 28
abbrev Zgr:Stmt:=top 29
abbrev Ze1:Stmt:=top 30
abbrev ZcF:Stmt:=top 32
abbrev Zem:Stmt:=top 33
abbrev ZcU:Stmt:=top 34
abbrev Zfi:Stmt:=top 35
abbrev Zc2:Stmt:=top 36
abbrev ZcO:Stmt:=top 37
abbrev Zen:Stmt:=top 38
abbrev ZV:Stmt:=top 39
abbrev Ze2:Stmt:=top 40
abbrev ZfV:Stmt:=top 41
abbrev Zir:Stmt:=top 42
abbrev ZcP:Stmt:=top 44
abbrev Zfj:Stmt:=top 45
abbrev ZjT:Stmt:=top 46
abbrev ZgI:Stmt:=top 47
abbrev ZgJ:Stmt:=top 49
abbrev Zhs:Stmt:=top 50
abbrev Zeo:Stmt:=top 51
abbrev ZgK:Stmt:=top 52
abbrev ZgL:Stmt:=top 53
abbrev Zep:Stmt:=top 54
abbrev Zeq:Stmt:=top 55
abbrev Zht:Stmt:=top 56
abbrev Zdn:Stmt:=top 57
abbrev Zdy:Stmt:=top 58
abbrev Zer:Stmt:=top 59
abbrev ZfW:Stmt:=top 60
abbrev Zcv:Stmt:=top 61
abbrev Zes:Stmt:=top 62
structure Txt(K:Zx0)(mg:Str->Option Value):Prop where
 n_len:mg "len" = none
 n_tuple:mg "tuple" = none
 n_list:mg "list" = none
 n_set:mg "set" = none
 n_sorted:mg "sorted" = none
 n_range:mg "range" = none
 n_all:mg "all" = none
 n_isinstance:mg "isinstance" = none
 n_int:mg "int" = none
 n_bool:mg "bool" = none
 n_max:mg "max" = none
 n_min:mg "min" = none
 c_MOST_STATES:∃t,mg "MOST_STATES" = some (.int 8 t)
 c_MOST_DEEDS:∃t,mg "MOST_DEEDS" = some (.int 5 t)
 c_MOST_LOOKS:∃t,mg "MOST_LOOKS" = some (.int 4 t)
 c_MOST_SEEN:∃t,mg "MOST_SEEN" = some (.int 9 t)
section
variable[FX]{P:Program}{w:World}{K:Zx0}{mg:Str->Option Value}{base:Heap}{k:Nat}
theorem ZmX:Zw ["_law_script","_law_k"] ["_law_script","_law_k"] (Ze ZgJ):=⟨rfl,rfl,rfl,by decide +kernel,rfl,by decide +kernel,by decide +kernel⟩
theorem ZmY(T:Txt K mg){f:Addr}{fd:FuncData}(Fn:Fun K "_law_cell" "_law_cell" ZgJ f fd)(hm:mg "_law_cell" = some (.ref f))(hb:Binds K fd ["_law_script","_law_k"] []):Callee P w K mg base (k+1) "_law_cell" Zaf :=
 Zu Fn ZmX hm hb λcdv A outer s H E hr=>by
  have hu:=ZH hr;exact(Zf (ZaH (Zav cLt (Za 1) (ZbH T.n_len (Zt 0))) (Zj (ZA (Z1 (Zt 0) (Za 1)))) Z0)
  (Zj (ZA Zk)))
theorem Zo0:Zw ["_law_cell_here","_law_prime","_law_many"] ["_law_cell_here","_law_prime","_law_many"] (Ze Zhs):=⟨rfl,rfl,rfl,by decide +kernel,rfl,by decide +kernel,by decide +kernel⟩
theorem Zo1(T:Txt K mg){f:Addr}{fd:FuncData}(Fn:Fun K "_law_mix" "_law_mix" Zhs f fd)(hm:mg "_law_mix" = some (.ref f))(hb:Binds K fd ["_law_cell_here","_law_prime","_law_many"] []):Callee P w K mg base (k+1) "_law_mix" ZK :=
 Zu Fn Zo0 hm hb λcdv A outer s H E hr=>by have hu:=ZH hr;exact(Zj (ZA (ZI oMod (ZI oMod (ZI ZeK (Za 0) Zk) (Za 1)) (Za 2))))
theorem Zfk:Zw ["_law_cell_here","_law_many","_law_least","_law_found"] ["_law_cell_here","_law_many","_law_least"] (Ze Zeo):=⟨rfl,rfl,rfl,by decide +kernel,rfl,by decide +kernel,by decide +kernel⟩
theorem Zl5(T:Txt K mg)(ZL:Callee P w K mg base k "_law_mix" ZK){f:Addr}{fd:FuncData}(Fn:Fun K "_law_crowd" "_law_crowd" Zeo f fd)(hm:mg "_law_crowd" = some (.ref f))(hb:Binds K fd ["_law_cell_here","_law_many","_law_least"] []):Callee P w K mg base (k+1) "_law_crowd" ZbI :=
 Zu Fn Zfk hm hb λcdv A outer s H E hr=>by
  have hu:=ZH hr;exact(Zf (Zee 3 Zfk.nd rfl rfl (N:=["_law_state","_law_cell_here","_law_many","_law_least","_law_found"]) (ZG (sc:=Ze Zeo) (XN:=["_law_cell_here","_law_many","_law_least","_law_found"])) (ZbW T.n_range (Za 1)) (λ_ _ _ _ _=>(Zb2 (Zav cLt (Zi ZL hr (Zb (ZI ZbP (ZI ZbP (Za 1) (ZI ZeK (ZI ZeK Zk (Za 0)) (Za 0))) (ZI ZeK Zk (Za 0))) (Zb Zk (Zb Zk Zh)))) Zk))) (λ_ _ _ _ _=>(Za 0)))
  (Zf (ZaH (Zav cLt (ZbH T.n_len (Zt 3)) (Za 2)) (Zj (Zam 3 Zfk.nd (Zb5 (Zb (Zi ZL hr (Zb (Za 0) (Zb Zk (Zb (Za 1) Zh)))) Zh)))) Z0)
  (Zj (ZA (Zal T.n_tuple (Zt 3))))))
theorem ZcG:Zw ["_law_cell_here","_law_many","_law_found","_law_state","_law_seed","_law_way","_law_row"] ["_law_cell_here","_law_many"] (Ze ZgK):=⟨rfl,rfl,rfl,by decide +kernel,rfl,by decide +kernel,by decide +kernel⟩
theorem ZmZ(T:Txt K mg)(ZL:Callee P w K mg base k "_law_mix" ZK){f:Addr}{fd:FuncData}(Fn:Fun K "_law_deed" "_law_deed" ZgK f fd)(hm:mg "_law_deed" = some (.ref f))(hb:Binds K fd ["_law_cell_here","_law_many"] []):Callee P w K mg base (k+1) "_law_deed" ZcW :=
 Zu Fn ZcG hm hb λcdv A outer s H E hr=>by
  have hu:=ZH hr;exact(Zf (Zam 2 ZcG.nd (Zb5 Zh))
  (Zf (Zbj 3 ZcG.nd rfl rfl (ZbW T.n_range (Za 1)) (Zf (ZN 4 ZcG.nd (ZI ZbP (ZI ZbP (Za 0) (ZI ZeK (ZI ZeK Zk (Za 3)) (Za 3))) (ZI ZeK Zk (Za 3))))
  (Zf (ZN 5 ZcG.nd (Zi ZL hr (Zb (Za 4) (Zb Zk (Zb Zk Zh)))))
  (Zf (Zam 6 ZcG.nd (ZsA (Zi ZL hr (Zb (Za 4) (Zb Zk (Zb (Za 1) Zh)))) Zb0))
  (Zf (ZaH (Zav cLt (Za 5) Zk) (Zj (ZfL hu 6 (Zi ZL hr (Zb (Za 4) (Zb Zk (Zb (Za 1) Zh)))) Zb0)) Z0)
  (Zf (Zd2 2 (Zal T.n_tuple (ZaW (Zdf T.n_sorted rfl (Zt 6)))))
  (Zj (ZaH (Zav (cEq hr) (Za 5) Zk) (Zj (Zub 2 Zu7 (ZdN Zh))) Z0))))))))
  (Zj (ZA (Zal T.n_tuple (Zt 2))))))
theorem Zb8:Zw ["_law_cell_here","_law_many","_law_left","_law_right","_law_state","_law_ahead","_law_behind","_law_slips"] ["_law_cell_here","_law_many"] (Ze ZgL):=⟨rfl,rfl,rfl,by decide +kernel,rfl,by decide +kernel,by decide +kernel⟩
theorem Zm0(T:Txt K mg)(ZL:Callee P w K mg base k "_law_mix" ZK){f:Addr}{fd:FuncData}(Fn:Fun K "_law_walk" "_law_walk" ZgL f fd)(hm:mg "_law_walk" = some (.ref f))(hb:Binds K fd ["_law_cell_here","_law_many"] []):Callee P w K mg base (k+1) "_law_walk" ZcX :=
 Zu Fn Zb8 hm hb λcdv A outer s H E hr=>by
  have hu:=ZH hr;exact(Zf (Zam 2 Zb8.nd (Zb5 Zh))
  (Zf (Zam 3 Zb8.nd (Zb5 Zh))
  (Zf (Zbj 4 Zb8.nd rfl rfl (ZbW T.n_range (Za 1)) (Zf (ZN 5 Zb8.nd (Zu9 T.n_max rfl (ZI Zto (Za 4) Zk) Zk))
  (Zf (ZN 6 Zb8.nd (Zva T.n_min rfl (ZI ZbP (Za 4) Zk) (ZI Zto (Za 1) Zk)))
  (Zf (ZN 7 Zb8.nd (Ze5 (cEq hr) (Zi ZL hr (Zb (ZI ZbP (Za 0) (ZI ZeK Zk (Za 4))) (Zb Zk (Zb Zk Zh)))) Zk))
  (Zf (Zd2 2 (Zal T.n_tuple (ZaW (Zie T.n_sorted T.n_set rfl (ZaW (Zkk (ZaW (Zb5 (Zb (Za 5) Zh))) (ZaW (Zvb (ZaW (Zb5 (Zb (Za 4) Zh))) (Zsz T.n_int (Za 7))))))))))
  (Zj (Zd2 3 (ZdN (Zb (Za 6) Zh)))))))))
  (Zj (ZA (ZdN (Zb (Zal T.n_tuple (Zt 2)) (Zb (Zal T.n_tuple (Zt 3)) Zh))))))))
theorem Z5:Zw ["_law_script","_law_at","_law_cell_here","_law_many","_law_deeds","_law_k","_law_looks_here","_law_seed","_law_most","_law_begin","_law_goal"] ["_law_script","_law_at"] (Ze Zep):=⟨rfl,rfl,rfl,by decide +kernel,rfl,by decide +kernel,by decide +kernel⟩
theorem Zl6(T:Txt K mg)(Za6:Callee P w K mg base k "_law_cell" Zaf)(Zet:Callee P w K mg base k "_law_crowd" ZbI)(ZL:Callee P w K mg base k "_law_mix" ZK)(ZgM:Callee P w K mg base k "_law_deed" ZcW)(ZgN:Callee P w K mg base k "_law_walk" ZcX){f:Addr}{fd:FuncData}(Fn:Fun K "_law_works" "_law_works" Zep f fd)(hm:mg "_law_works" = some (.ref f))(hb:Binds K fd ["_law_script","_law_at"] []):Callee P w K mg base (k+1) "_law_works" Za2 :=
 Zu Fn Z5 hm hb λcdv A outer s H E hr=>by
  have hu:=ZH hr;exact(Zf (ZN 2 Z5.nd (Zi Za6 hr (Zb (Za 0) (Zb (Za 1) Zh))))
  (Zf (ZN 3 Z5.nd (ZI ZbP Zk (Zi ZL hr (Zb (Za 2) (Zb Zk (Zb Zk Zh))))))
  (Zf (ZaH (Zav cGt (ZbH T.n_len (Zt 0)) Zk) (Zj (ZN 3 Z5.nd (ZI ZbP Zk (Zi ZL hr (Zb (Za 2) (Zb Zk (Zb Zk Zh))))))) Z0)
  (Zf (Zam 4 Z5.nd (Zb5 Zh))
  (Zf (Zbj 5 Z5.nd rfl rfl (ZbW T.n_range (ZI ZbP Zk (Zi ZL hr (Zb (Za 2) (Zb Zk (Zb Zk Zh)))))) (Zj (Zd2 4 (Zi ZgM hr (Zb (ZI ZbP (Zi Za6 hr (Zb (Za 0) (Zb (ZI ZbP (ZI ZbP (Za 1) Zk) (Za 5)) Zh))) (ZI ZeK Zk (Za 5))) (Zb (Za 3) Zh))))))
  (Zf (ZaH (Zav (cEq hr) (Zi ZL hr (Zb (Za 2) (Zb Zk (Zb Zk Zh)))) Zk) (Zj (Zam 4 Z5.nd (Zkk (ZaW (Zid T.n_list (ZaJ (Zi ZgN hr (Zb (Zi Za6 hr (Zb (Za 0) (Zb (ZI ZbP (Za 1) Zk) Zh))) (Zb (Za 3) Zh)))))) (ZaW (Zvc (Zt 4) Zur (ZuZ Zk)))))) Z0)
  (Zf (Zam 6 Z5.nd (Zb5 Zh))
  (Zf (Zbj 5 Z5.nd rfl rfl (ZbW T.n_range (Zi ZL hr (Zb (Za 2) (Zb Zk (Zb Zk Zh))))) (Zf (ZN 7 Z5.nd (ZI ZbP (Zi Za6 hr (Zb (Za 0) (Zb (ZI ZbP (ZI ZbP (Za 1) Zk) (Za 5)) Zh))) (ZI ZeK Zk (Za 5))))
  (Zf (ZN 8 Z5.nd (ZI ZbP Zk (Zi ZL hr (Zb (Za 7) (Zb Zk (Zb Zk Zh))))))
  (Zj (Zd2 6 (Zal T.n_tuple (ZaW (Zaq rfl rfl (N:=["_law_state","_law_script","_law_at","_law_cell_here","_law_many","_law_deeds","_law_k","_law_looks_here","_law_seed","_law_most","_law_begin","_law_goal"]) (ZG (sc:=Ze Zep) (XN:=["_law_script","_law_at","_law_cell_here","_law_many","_law_deeds","_law_k","_law_looks_here","_law_seed","_law_most","_law_begin","_law_goal"])) (ZbW T.n_range (Za 3)) (λ_ _ _ _ _=>Zbz) (λ_ _ _ _ _=>(Zi ZL hr (Zb (ZI ZbP (Za 8) (ZI ZeK (ZI ZeK Zk (Za 0)) (Za 0))) (Zb Zk (Zb (Za 9) Zh)))))))))))))
  (Zf (ZN 9 Z5.nd (Zi Zet hr (Zb (Zi Za6 hr (Zb (Za 0) (Zb (ZI ZbP (Za 1) Zk) Zh))) (Zb (Za 3) (Zb Zk Zh)))))
  (Zf (ZaH (Zav (cEq hr) (Zi ZL hr (Zb (Za 2) (Zb Zk (Zb Zk Zh)))) Zk) (Zj (ZN 9 Z5.nd (ZoY T.n_tuple T.n_range rfl (Za 3)))) Z0)
  (Zf (ZN 10 Z5.nd (Zi Zet hr (Zb (Zi Za6 hr (Zb (Za 0) (Zb (ZI ZbP (Za 1) Zk) Zh))) (Zb (Za 3) (Zb Zk Zh)))))
  (Zj (ZA (ZdN (Zb (Za 3) (Zb (Zal T.n_tuple (Zt 4)) (Zb (Zal T.n_tuple (Zt 6)) (Zb (Za 9) (Zb (Za 10) Zh)))))))))))))))))))
theorem Zl7:Zw ["_law_works_here","_law_cell_here"] ["_law_works_here","_law_cell_here"] (Ze Zeq):=⟨rfl,rfl,rfl,by decide +kernel,rfl,by decide +kernel,by decide +kernel⟩
theorem Zl8(T:Txt K mg)(ZL:Callee P w K mg base k "_law_mix" ZK){f:Addr}{fd:FuncData}(Fn:Fun K "_law_looks" "_law_looks" Zeq f fd)(hm:mg "_law_looks" = some (.ref f))(hb:Binds K fd ["_law_works_here","_law_cell_here"] []):Callee P w K mg base (k+1) "_law_looks" ZcD :=
 Zu Fn Zl7 hm hb λcdv A outer s H E hr=>by have hu:=ZH hr;exact(Zj (ZA (Zal T.n_tuple (ZaW (Zaq rfl rfl (N:=["_law_look","_law_works_here","_law_cell_here"]) (ZG (sc:=Ze Zeq) (XN:=["_law_works_here","_law_cell_here"])) (ZbW T.n_range (ZbH T.n_len (ZaJ (Z1 (Zt 0) Zk)))) (λ_ _ _ _ _=>(Zb2 (Zav cGt (Zi ZL hr (Zb (ZI ZbP (Za 2) (ZI ZeK Zk (Za 0))) (Zb Zk (Zb Zk Zh)))) Zk))) (λ_ _ _ _ _=>(Za 0)))))))
theorem ZdS:Zw ["_law_works_here","_law_looks_here","_law_crowd_here","_law_found","_law_state","_law_seen"] ["_law_works_here","_law_looks_here","_law_crowd_here"] (Ze Zdn):=⟨rfl,rfl,rfl,by decide +kernel,rfl,by decide +kernel,by decide +kernel⟩
theorem Zl9(T:Txt K mg){f:Addr}{fd:FuncData}(Fn:Fun K "_law_split" "_law_split" Zdn f fd)(hm:mg "_law_split" = some (.ref f))(hb:Binds K fd ["_law_works_here","_law_looks_here","_law_crowd_here"] []):Callee P w K mg base (k+1) "_law_split" Zan :=
 Zu Fn ZdS hm hb λcdv A outer s H E hr=>by
  have hu:=ZH hr;exact(Zf (Zam 3 ZdS.nd Zra)
  (Zf (Zbj 4 ZdS.nd rfl rfl (ZW (Za 2)) (Zf (ZN 5 ZdS.nd (Zal T.n_tuple (ZaW (Zaq rfl rfl (N:=["_law_look","_law_works_here","_law_looks_here","_law_crowd_here","_law_found","_law_state","_law_seen"]) (ZG (sc:=Ze Zdn) (XN:=["_law_works_here","_law_looks_here","_law_crowd_here","_law_found","_law_state","_law_seen"])) (ZW (Za 1)) (λ_ _ _ _ _=>Zbz) (λ_ _ _ _ _=>(Z1 (ZaJ (Z1 (ZaJ (Z1 (Zt 1) Zk)) (Za 0))) (Za 5)))))))
  (Zf (ZaH (ZsB hu (Za 5) (Zt 3)) (Zj (Zrc hu 3 (Za 5))) Z0)
  (Zj (ZsC hu 3 (Za 5) (Za 4))))))
  (Zj (ZA (ZcN (Zaq rfl rfl (N:=["_law_seen","_law_works_here","_law_looks_here","_law_crowd_here","_law_found","_law_state"," "]) (ZG (sc:=Ze Zdn) (XN:=["_law_works_here","_law_looks_here","_law_crowd_here","_law_found","_law_state","_law_seen"])) (ZW (ZcN (Zdf T.n_sorted rfl (Zt 3)))) (λ_ _ _ _ _=>Zbz) (λ_ _ _ _ _=>(ZdN (Zb (Za 0) (Zb (Zal T.n_tuple (Zrb hu 4 (Za 0))) Zh))))))))))
theorem Ze3:Zw ["_law_works_here","_law_crowd_here","_law_deed_here","_law_found","_law_state"] ["_law_works_here","_law_crowd_here","_law_deed_here"] (Ze Zht):=⟨rfl,rfl,rfl,by decide +kernel,rfl,by decide +kernel,by decide +kernel⟩
theorem Zo2(T:Txt K mg){f:Addr}{fd:FuncData}(Fn:Fun K "_law_led" "_law_led" Zht f fd)(hm:mg "_law_led" = some (.ref f))(hb:Binds K fd ["_law_works_here","_law_crowd_here","_law_deed_here"] []):Callee P w K mg base (k+1) "_law_led" ZbT :=
 Zu Fn Ze3 hm hb λcdv A outer s H E hr=>by
  have hu:=ZH hr;exact(Zf (Zam 3 Ze3.nd (Zb5 Zh))
  (Zf (Zbj 4 Ze3.nd rfl rfl (ZW (Za 1)) (Zf (ZaH (Zav (cEq hr) (Z1 (ZaJ (Z1 (ZaJ (Z1 (Zt 0) Zk)) (Za 2))) (Za 4)) (ZdN Zh)) (Zj (ZA Zb1)) Z0)
  (Zj (Zam 3 Ze3.nd (Zkk (Zt 3) (ZaW (Zid T.n_list (ZaJ (Z1 (ZaJ (Z1 (ZaJ (Z1 (Zt 0) Zk)) (Za 2))) (Za 4))))))))))
  (Zj (ZA (Zal T.n_tuple (ZaW (Zie T.n_sorted T.n_set rfl (Zt 3))))))))
theorem ZbY:Zw ["_law_works_here","_law_looks_here","_law_found","_law_at","_law_deed_here","_law_other","_law_some"] ["_law_works_here","_law_looks_here"] (Ze Zdy):=⟨rfl,rfl,rfl,by decide +kernel,rfl,by decide +kernel,by decide +kernel⟩
theorem Zo3(T:Txt K mg)(Za7:Callee P w K mg base k "_law_split" Zan)(Zdz:Callee P w K mg base k "_law_led" ZbT){f:Addr}{fd:FuncData}(Fn:Fun K "_law_all" "_law_all" Zdy f fd)(hm:mg "_law_all" = some (.ref f))(hb:Binds K fd ["_law_works_here","_law_looks_here"] []):Callee P w K mg base (k+1) "_law_all" Zcl :=
 Zu Fn ZbY hm hb λcdv A outer s H E hr=>by
  have hu:=ZH hr;exact(Zf (Zam 2 ZbY.nd (ZmT rfl rfl (N:=["_law_seen","_law_part","_law_works_here","_law_looks_here","_law_found","_law_at","_law_deed_here","_law_other","_law_some"]) (ZG (sc:=Ze Zdy) (XN:=["_law_works_here","_law_looks_here","_law_found","_law_at","_law_deed_here","_law_other","_law_some"])) (ZW (Zi Za7 hr (Zb (Za 0) (Zb (Za 1) (Zb (Z1 (Zt 0) Zk) Zh))))) (λ_ _ _ _ _=>Zbz) (λ_ _ _ _ _=>(Za 1))))
  (Zf (ZN 3 ZbY.nd Zk)
  (Zf (ZjR 100000 rfl (Zav cLt (Za 3) (ZbH T.n_len (Zt 2))) (Zf (Zbj 4 ZbY.nd rfl rfl (ZbW T.n_range (ZbH T.n_len (ZaJ (Z1 (Zt 0) Zk)))) (Zf (ZN 5 ZbY.nd (Zi Zdz hr (Zb (Za 0) (Zb (Z1 (Zt 2) (Za 3)) (Zb (Za 4) Zh)))))
  (Zj (ZaH (Zav Zi2 (Za 5) Zb1) (Zf (Zjz 6 ZbY.nd rfl rfl (N:=["_law_seen","_law_part","_law_works_here","_law_looks_here","_law_found","_law_at","_law_deed_here","_law_other","_law_some"]) (ZG (sc:=Ze Zdy) (XN:=["_law_works_here","_law_looks_here","_law_found","_law_at","_law_deed_here","_law_other","_law_some"])) (ZW (Zi Za7 hr (Zb (Za 0) (Zb (Za 1) (Zb (Za 5) Zh))))) (λ_ _ _ _ _=>Zbz) (λ_ _ _ _ _=>(Za 1)))
  (Zj (Zcz 6 (Zam 2 ZbY.nd (Zkk (Zt 2) (ZaW (Zaq rfl rfl (N:=["_law_part","_law_works_here","_law_looks_here","_law_found","_law_at","_law_deed_here","_law_other","_law_some"]) (ZG (sc:=Ze Zdy) (XN:=["_law_works_here","_law_looks_here","_law_found","_law_at","_law_deed_here","_law_other","_law_some"])) (ZW (Za 6)) (λ_ _ _ _ _=>(Zb2 (Zre hr (Za 0) (Zt 3)))) (λ_ _ _ _ _=>(Za 0))))))))) Z0))))
  (Zj (ZN 3 ZbY.nd (ZI ZbP (Za 3) Zk)))))
  (Zj (Zcz 2 (ZA (Za 2)))))))
theorem Zma:Zw ["_law_works_here","_law_crowd_here"] ["_law_works_here","_law_crowd_here"] (Ze Zer):=⟨rfl,rfl,rfl,by decide +kernel,rfl,by decide +kernel,by decide +kernel⟩
theorem Zmb(T:Txt K mg){f:Addr}{fd:FuncData}(Fn:Fun K "_law_there" "_law_there" Zer f fd)(hm:mg "_law_there" = some (.ref f))(hb:Binds K fd ["_law_works_here","_law_crowd_here"] []):Callee P w K mg base (k+1) "_law_there" ZcE :=
 Zu Fn Zma hm hb λcdv A outer s H E hr=>by have hu:=ZH hr;exact(Zj (ZA (Ze5 (cEq hr) (ZcN (Zaq rfl rfl (N:=["_law_state","_law_works_here","_law_crowd_here"]) (ZG (sc:=Ze Zer) (XN:=["_law_works_here","_law_crowd_here"])) (ZW (Za 1)) (λ_ _ _ _ _=>(Zb2 (Zrd (Za 0) (ZaJ (Z1 (Zt 1) Zk))))) (λ_ _ _ _ _=>(Za 0)))) (ZcN (Zb5 Zh)))))
theorem Zdo:Zw ["_law_works_here","_law_looks_here","_law_crowd_here","_law_costs_here","_law_deed_here","_law_other"] ["_law_works_here","_law_looks_here","_law_crowd_here","_law_costs_here"] (Ze Zcv):=⟨rfl,rfl,rfl,by decide +kernel,rfl,by decide +kernel,by decide +kernel⟩
theorem Zis(T:Txt K mg)(Zdz:Callee P w K mg base k "_law_led" ZbT)(Za7:Callee P w K mg base k "_law_split" Zan){f:Addr}{fd:FuncData}(Fn:Fun K "_law_can_within" "_law_can_within" Zcv f fd)(hm:mg "_law_can_within" = some (.ref f))(hb:Binds K fd ["_law_works_here","_law_looks_here","_law_crowd_here","_law_costs_here"] []):Callee P w K mg base (k+1) "_law_can_within" ZbQ :=
 Zu Fn Zdo hm hb λcdv A outer s H E hr=>by
  have hu:=ZH hr;exact(Zf (Zbj 4 Zdo.nd rfl rfl (ZbW T.n_range (ZbH T.n_len (ZaJ (Z1 (Zt 0) Zk)))) (Zf (ZN 5 Zdo.nd (Zi Zdz hr (Zb (Za 0) (Zb (Za 2) (Zb (Za 4) Zh)))))
  (Zj (ZaH (Zav Zi2 (Za 5) Zb1) (Zj (ZaH (Zav (cEq hr) (ZcN (ZmT rfl rfl (N:=["_law_seen","_law_part","_law_works_here","_law_looks_here","_law_crowd_here","_law_costs_here","_law_deed_here","_law_other"]) (ZG (sc:=Ze Zcv) (XN:=["_law_works_here","_law_looks_here","_law_crowd_here","_law_costs_here","_law_deed_here","_law_other"])) (ZW (Zi Za7 hr (Zb (Za 0) (Zb (Za 1) (Zb (Za 5) Zh))))) (λ_ _ _ _ _=>(Zb2 (Zd3 hu (Za 1) (Zt 5)))) (λ_ _ _ _ _=>(Za 1)))) (ZcN (Zb5 Zh))) (Zj (ZA Zb0)) Z0)) Z0))))
  (Zj (ZA Zb0)))
theorem Zbt:Zw ["_law_works_here","_law_looks_here","_law_crowds","_law_costs_here","_law_crowd_here","_law_turn","_law_more"] ["_law_works_here","_law_looks_here"] (Ze ZfW):=⟨rfl,rfl,rfl,by decide +kernel,rfl,by decide +kernel,by decide +kernel⟩
theorem Zmc(T:Txt K mg)(ZdA:Callee P w K mg base k "_law_all" Zcl)(ZfX:Callee P w K mg base k "_law_there" ZcE)(ZdG:Callee P w K mg base k "_law_can_within" ZbQ){f:Addr}{fd:FuncData}(Fn:Fun K "_law_costs" "_law_costs" ZfW f fd)(hm:mg "_law_costs" = some (.ref f))(hb:Binds K fd ["_law_works_here","_law_looks_here"] []):Callee P w K mg base (k+1) "_law_costs" Zdj :=
 Zu Fn Zbt hm hb λcdv A outer s H E hr=>by
  have hu:=ZH hr;exact(Zf (ZN 2 Zbt.nd (Zi ZdA hr (Zb (Za 0) (Zb (Za 1) Zh))))
  (Zf (Zam 3 Zbt.nd ZmG)
  (Zf (Zbj 4 Zbt.nd rfl rfl (ZW (Za 2)) (Zj (ZaH (Zb4 (Zi ZfX hr (Zb (Za 0) (Zb (Za 4) Zh)))) (Zj (ZfL hu 3 (Za 4) Zk)) Z0)))
  (Zf (Zbj 5 Zbt.nd rfl rfl (Zq9 T.n_range Zk (ZI ZbP (ZbH T.n_len (Zt 2)) Zk)) (Zf (Zam 6 Zbt.nd (Zb5 Zh))
  (Zf (Zbj 4 Zbt.nd rfl rfl (ZW (Za 2)) (Zj (ZaH (ZmP (Zu8 (Zd3 hu (Za 4) (Zt 3)) (Zua (Zb4 (ZsE ZdG hr (ZfM (Za 0) (ZfM (Za 1) (ZfM (Za 4) (ZmU (Zt 3) (Zrf Zh)))))))))) (Zj (Zd2 6 (Za 4))) Z0)))
  (Zj (Zcz 6 (Zbj 4 Zbt.nd rfl rfl (ZW (Za 6)) (Zj (ZfL hu 3 (Za 4) (Za 5)))))))))
  (Zj (Zcz 3 (ZA (Za 3))))))))
theorem Zmd:Zw ["thing","least","most"] ["thing","least","most"] (Ze ZfS):=⟨rfl,rfl,rfl,by decide +kernel,rfl,by decide +kernel,by decide +kernel⟩
theorem Zme(T:Txt K mg){f:Addr}{fd:FuncData}(Fn:Fun K "is_number" "is_number" ZfS f fd)(hm:mg "is_number" = some (.ref f))(hb:Binds K fd ["thing","least","most"] []):Callee P w K mg base (k+1) "is_number" Za1 :=
 Zu Fn Zmd hm hb λcdv A outer s H E hr=>by
  have hu:=ZH hr;exact(Zf (ZaH (ZmP (ZmF (Zb4 (ZoW T.n_isinstance T.n_bool (Za 0))) (Zki (ZdM (Zb4 (Zqc T.n_isinstance T.n_int (Za 0))))))) (Zj (ZA Zb0)) Z0)
  (Zj (ZA (ZmQ cLe cLe (Za 1) (Za 0) (Za 2)))))
theorem ZdT:Zw ["thing","many","least","number"] ["thing","many"] (Ze ZfT):=⟨rfl,rfl,rfl,by decide +kernel,rfl,by decide +kernel,by decide +kernel⟩
theorem Zmf(T:Txt K mg)(Zbk:Callee P w K mg base k "is_number" Za1){f:Addr}{fd:FuncData}(Fn:Fun K "is_rising" "is_rising" ZfT f fd)(hm:mg "is_rising" = some (.ref f))(hb:Binds K fd ["thing","many"] []):Callee P w K mg base (k+1) "is_rising" Z6 :=
 Zu Fn ZdT hm hb λcdv A outer s H E hr=>by
  have hu:=ZH hr;exact(Zf (ZaH (ZdM (Zb4 (ZfK T.n_isinstance T.n_tuple (Za 0)))) (Zj (ZA Zb0)) Z0)
  (Zf (ZN 2 ZdT.nd Zk)
  (Zf (Zbj 3 ZdT.nd rfl rfl (ZW (Za 0)) (Zf (ZaH (ZdM (Zb4 (Zi Zbk hr (Zb (Za 3) (Zb (Za 2) (Zb (ZI Zto (Za 1) Zk) Zh)))))) (Zj (ZA Zb0)) Z0)
  (Zj (ZN 2 ZdT.nd (ZI ZbP (Za 3) Zk)))))
  (Zj (ZA Zb0)))))
theorem Zm1:Zw ["thing","many"] ["thing","many"] (Ze ZgE):=⟨rfl,rfl,rfl,by decide +kernel,rfl,by decide +kernel,by decide +kernel⟩
theorem Zm2(T:Txt K mg)(Zax:Callee P w K mg base k "is_rising" Z6){f:Addr}{fd:FuncData}(Fn:Fun K "is_crowd" "is_crowd" ZgE f fd)(hm:mg "is_crowd" = some (.ref f))(hb:Binds K fd ["thing","many"] []):Callee P w K mg base (k+1) "is_crowd" ZcV :=
 Zu Fn Zm1 hm hb λcdv A outer s H E hr=>by have hu:=ZH hr;exact(Zj (ZA (Ze7 (Zi Zax hr (Zb (Za 0) (Zb (Za 1) Zh))) (Ze6 (Ze5 cGt (ZbH T.n_len (Zt 0)) Zk)))))
theorem Zqf:Zw ["thing","least","most"] ["thing","least","most"] (Ze Zip):=⟨rfl,rfl,rfl,by decide +kernel,rfl,by decide +kernel,by decide +kernel⟩
theorem Zqg(T:Txt K mg){f:Addr}{fd:FuncData}(Fn:Fun K "is_row" "is_row" Zip f fd)(hm:mg "is_row" = some (.ref f))(hb:Binds K fd ["thing","least","most"] []):Callee P w K mg base (k+1) "is_row" ZaX :=
 Zu Fn Zqf hm hb λcdv A outer s H E hr=>by have hu:=ZH hr;exact(Zj (ZA (Ze7 (ZfK T.n_isinstance T.n_tuple (Za 0)) (Ze6 (ZmQ cLe cLe (Za 1) (ZbH T.n_len (Zt 0)) (Za 2))))))
theorem Zo4:Zw ["thing","many"] ["thing","many"] (Ze Zfw):=⟨rfl,rfl,rfl,by decide +kernel,rfl,by decide +kernel,by decide +kernel⟩
theorem Zo5(T:Txt K mg)(ZaL:Callee P w K mg base k "is_row" ZaX)(Zax:Callee P w K mg base k "is_rising" Z6){f:Addr}{fd:FuncData}(Fn:Fun K "is_deed" "is_deed" Zfw f fd)(hm:mg "is_deed" = some (.ref f))(hb:Binds K fd ["thing","many"] []):Callee P w K mg base (k+1) "is_deed" Zcj :=
 Zu Fn Zo4 hm hb λcdv A outer s H E hr=>by have hu:=ZH hr;exact(Zj (ZA (Ze7 (Zi ZaL hr (Zb (Za 0) (Zb (Za 1) (Zb (Za 1) Zh)))) (Ze6 (Zg4 T.n_all rfl (ZaW (Zaq rfl rfl (N:=["crowd","thing","many"]) (ZG (sc:=Ze Zfw) (XN:=["thing","many"])) (ZW (Za 0)) (λ_ _ _ _ _=>Zbz) (λ_ _ _ _ _=>(Zi Zax hr (Zb (Za 0) (Zb (Za 2) Zh)))))))))))
theorem Zmg:Zw ["thing","many"] ["thing","many"] (Ze Zek):=⟨rfl,rfl,rfl,by decide +kernel,rfl,by decide +kernel,by decide +kernel⟩
theorem Zmh(T:Txt K mg)(ZaL:Callee P w K mg base k "is_row" ZaX)(Zhu:Callee P w K mg base k "is_deed" Zcj){f:Addr}{fd:FuncData}(Fn:Fun K "are_deeds" "are_deeds" Zek f fd)(hm:mg "are_deeds" = some (.ref f))(hb:Binds K fd ["thing","many"] []):Callee P w K mg base (k+1) "are_deeds" ZcA :=
 Zu Fn Zmg hm hb λcdv A outer s H E hr=>by have hu:=ZH hr;exact(Zj (ZA (Ze7 (Zi ZaL hr (Zb (Za 0) (Zb Zk (Zb (Zi1 T.c_MOST_DEEDS) Zh)))) (Ze6 (Zg4 T.n_all rfl (ZaW (Zaq rfl rfl (N:=["deed","thing","many"]) (ZG (sc:=Ze Zek) (XN:=["thing","many"])) (ZW (Za 0)) (λ_ _ _ _ _=>Zbz) (λ_ _ _ _ _=>(Zi Zhu hr (Zb (Za 0) (Zb (Za 2) Zh)))))))))))
theorem Zo6:Zw ["thing","many"] ["thing","many"] (Ze Zfx):=⟨rfl,rfl,rfl,by decide +kernel,rfl,by decide +kernel,by decide +kernel⟩
theorem Zo7(T:Txt K mg)(ZaL:Callee P w K mg base k "is_row" ZaX)(Zbk:Callee P w K mg base k "is_number" Za1){f:Addr}{fd:FuncData}(Fn:Fun K "is_look" "is_look" Zfx f fd)(hm:mg "is_look" = some (.ref f))(hb:Binds K fd ["thing","many"] []):Callee P w K mg base (k+1) "is_look" Zck :=
 Zu Fn Zo6 hm hb λcdv A outer s H E hr=>by have hu:=ZH hr;exact(Zj (ZA (Ze7 (Zi ZaL hr (Zb (Za 0) (Zb (Za 1) (Zb (Za 1) Zh)))) (Ze6 (Zg4 T.n_all rfl (ZaW (Zaq rfl rfl (N:=["told","thing","many"]) (ZG (sc:=Ze Zfx) (XN:=["thing","many"])) (ZW (Za 0)) (λ_ _ _ _ _=>Zbz) (λ_ _ _ _ _=>(Zi Zbk hr (Zb (Za 0) (Zb Zk (Zb (Zi1 T.c_MOST_SEEN) Zh))))))))))))
theorem Zmi:Zw ["thing","many"] ["thing","many"] (Ze Zel):=⟨rfl,rfl,rfl,by decide +kernel,rfl,by decide +kernel,by decide +kernel⟩
theorem Zmj(T:Txt K mg)(ZaL:Callee P w K mg base k "is_row" ZaX)(Zhv:Callee P w K mg base k "is_look" Zck){f:Addr}{fd:FuncData}(Fn:Fun K "are_looks" "are_looks" Zel f fd)(hm:mg "are_looks" = some (.ref f))(hb:Binds K fd ["thing","many"] []):Callee P w K mg base (k+1) "are_looks" ZcB :=
 Zu Fn Zmi hm hb λcdv A outer s H E hr=>by have hu:=ZH hr;exact(Zj (ZA (Ze7 (Zi ZaL hr (Zb (Za 0) (Zb Zk (Zb (Zi1 T.c_MOST_LOOKS) Zh)))) (Ze6 (Zg4 T.n_all rfl (ZaW (Zaq rfl rfl (N:=["look","thing","many"]) (ZG (sc:=Ze Zel) (XN:=["thing","many"])) (ZW (Za 0)) (λ_ _ _ _ _=>Zbz) (λ_ _ _ _ _=>(Zi Zhv hr (Zb (Za 0) (Zb (Za 2) Zh)))))))))))
theorem Zh8:Zw ["thing","many"] ["thing"] (Ze ZfU):=⟨rfl,rfl,rfl,by decide +kernel,rfl,by decide +kernel,by decide +kernel⟩
theorem Zmk(T:Txt K mg)(ZgO:Callee P w K mg base k "is_crowd" ZcV)(Zax:Callee P w K mg base k "is_rising" Z6)(ZaL:Callee P w K mg base k "is_row" ZaX)(Zbk:Callee P w K mg base k "is_number" Za1)(ZfY:Callee P w K mg base k "are_deeds" ZcA)(ZfZ:Callee P w K mg base k "are_looks" ZcB){f:Addr}{fd:FuncData}(Fn:Fun K "are_works" "are_works" ZfU f fd)(hm:mg "are_works" = some (.ref f))(hb:Binds K fd ["thing"] []):Callee P w K mg base (k+1) "are_works" ZcC :=
 Zu Fn Zh8 hm hb λcdv A outer s H E hr=>by
  have hu:=ZH hr;exact(Zf (ZaH (ZmP (ZmF (ZdM (Zb4 (Zi ZaL hr (Zb (Za 0) (Zb Zk (Zb Zk Zh)))))) (Zki (ZdM (Zb4 (Zi Zbk hr (Zb (Z1 (Zt 0) Zk) (Zb Zk (Zb (Zi1 T.c_MOST_STATES) Zh))))))))) (Zj (ZA Zb0)) Z0)
  (Zf (ZN 1 Zh8.nd (Z1 (Zt 0) Zk))
  (Zf (ZaH (ZmP (ZmF (ZdM (Zb4 (Zi ZfY hr (Zb (Z1 (Zt 0) Zk) (Zb (Za 1) Zh))))) (Zki (ZdM (Zb4 (Zi ZfZ hr (Zb (Z1 (Zt 0) Zk) (Zb (Za 1) Zh)))))))) (Zj (ZA Zb0)) Z0)
  (Zj (ZA (Ze7 (Zi ZgO hr (Zb (Z1 (Zt 0) Zk) (Zb (Za 1) Zh))) (Ze6 (Zi Zax hr (Zb (Z1 (Zt 0) Zk) (Zb (Za 1) Zh))))))))))
theorem Zo8:Zw ["works"] ["works"] (Ze Zhr):=⟨rfl,rfl,rfl,by decide +kernel,rfl,by decide +kernel,by decide +kernel⟩
theorem Zo9(T:Txt K mg)(Zf0:Callee P w K mg base k "are_works" ZcC){f:Addr}{fd:FuncData}(Fn:Fun K "checked" "checked" Zhr f fd)(hm:mg "checked" = some (.ref f))(hb:Binds K fd ["works"] []):Callee P w K mg base (k+1) "checked" ZbE :=
 Zu Fn Zo8 hm hb λcdv A outer s H E hr=>by
  have hu:=ZH hr;exact(Zf (ZaH (ZdM (Zb4 (Zi Zf0 hr (Zb (Za 0) Zh)))) (Zj ZmR) Z0)
  (Zj (ZA (Za 0))))
theorem Zm3:Zw ["works"] ["works"] (Ze ZgG):=⟨rfl,rfl,rfl,by decide +kernel,rfl,by decide +kernel,by decide +kernel⟩
theorem Zm4(T:Txt K mg){f:Addr}{fd:FuncData}(Fn:Fun K "looks_of" "looks_of" ZgG f fd)(hm:mg "looks_of" = some (.ref f))(hb:Binds K fd ["works"] []):Callee P w K mg base (k+1) "looks_of" ZbX :=
 Zu Fn Zm3 hm hb λcdv A outer s H E hr=>by have hu:=ZH hr;exact(Zj (ZA (Z1 (Zt 0) Zk)))
theorem Zjq:Zw ["works","looks"] ["works","looks"] (Ze ZdX):=⟨rfl,rfl,rfl,by decide +kernel,rfl,by decide +kernel,by decide +kernel⟩
theorem Zjr(T:Txt K mg)(Zax:Callee P w K mg base k "is_rising" Z6)(Zc3:Callee P w K mg base k "looks_of" ZbX){f:Addr}{fd:FuncData}(Fn:Fun K "checked_looks" "checked_looks" ZdX f fd)(hm:mg "checked_looks" = some (.ref f))(hb:Binds K fd ["works","looks"] []):Callee P w K mg base (k+1) "checked_looks" Zae :=
 Zu Fn Zjq hm hb λcdv A outer s H E hr=>by
  have hu:=ZH hr;exact(Zf (ZaH (ZdM (Zb4 (Zi Zax hr (Zb (Za 1) (Zb (ZbH T.n_len (ZaJ (Zi Zc3 hr (Zb (Za 0) Zh)))) Zh))))) (Zj ZmR) Z0)
  (Zj (ZA (Za 1))))
theorem Zh9:Zw ["rows"] ["rows"] (Ze ZcF):=⟨rfl,rfl,rfl,by decide +kernel,rfl,by decide +kernel,by decide +kernel⟩
theorem ZkU(T:Txt K mg){f:Addr}{fd:FuncData}(Fn:Fun K "crowds_in" "crowds_in" ZcF f fd)(hm:mg "crowds_in" = some (.ref f))(hb:Binds K fd ["rows"] []):Zd8 P w K mg base (k+1) "crowds_in" ZD :=
 ZqH Fn Zh9 hm hb rfl (λr b h=>Ztq _ _ _ r b h) λcdv A outer s H E hr=>by have hu:=ZH hr;exact(Zaq rfl rfl (N:=["row","rows"]) (ZG (sc:=Ze ZcF) (XN:=["rows"])) (ZW (Za 0)) (λ_ _ _ _ _=>Zbz) (λ_ _ _ _ _=>(Z1 (Zt 0) Zk)))
theorem Zml(T:Txt K mg){f:Addr}{fd:FuncData}(Fn:Fun K "crowds_in" "crowds_in" ZcF f fd)(hm:mg "crowds_in" = some (.ref f))(hb:Binds K fd ["rows"] []):Callee P w K mg base (k+1) "crowds_in" ZD :=
 Zu Fn Zh9 hm hb λcdv A outer s H E hr=>by have hu:=ZH hr;exact(Zj (ZA (ZcN (Zaq rfl rfl (N:=["row","rows"]) (ZG (sc:=Ze ZcF) (XN:=["rows"])) (ZW (Za 0)) (λ_ _ _ _ _=>Zbz) (λ_ _ _ _ _=>(Z1 (Zt 0) Zk))))))
theorem Zfu:Zw ["rows","costs","known"] ["rows","costs"] (Ze ZcO):=⟨rfl,rfl,rfl,by decide +kernel,rfl,by decide +kernel,by decide +kernel⟩
theorem Zjs(T:Txt K mg)(ZaM:Callee P w K mg base k "crowds_in" ZD){f:Addr}{fd:FuncData}(Fn:Fun K "cost_at_worst" "cost_at_worst" ZcO f fd)(hm:mg "cost_at_worst" = some (.ref f))(hb:Binds K fd ["rows","costs"] []):Callee P w K mg base (k+1) "cost_at_worst" ZO :=
 Zu Fn Zfu hm hb λcdv A outer s H E hr=>by
  have hu:=ZH hr;exact(Zf (Zee 2 Zfu.nd rfl rfl (N:=["part","rows","costs","known"]) (ZG (sc:=Ze ZcO) (XN:=["rows","costs","known"])) (ZW (Zi ZaM hr (Zb (Za 0) Zh))) (λ_ _ _ _ _=>(Zb2 (Zvf hu (Za 0) (Zt 2)))) (λ_ _ _ _ _=>(Zg5 hu (Zt 2) (Za 0))))
  (Zj (ZA (ZtZ (Zav (cEq hr) (ZbH T.n_len (Zt 2)) (ZbH T.n_len (Zt 0))) (Zuc T.n_max rfl (Zt 2)) Zb1))))
theorem Zit:Zw ["way","depths","most"] ["way","depths"] (Ze Ze2):=⟨rfl,rfl,rfl,by decide +kernel,rfl,by decide +kernel,by decide +kernel⟩
theorem Zm5(T:Txt K mg)(Zar:Callee P w K mg base k "cost_at_worst" ZO){f:Addr}{fd:FuncData}(Fn:Fun K "deeds_by" "deeds_by" Ze2 f fd)(hm:mg "deeds_by" = some (.ref f))(hb:Binds K fd ["way","depths"] []):Callee P w K mg base (k+1) "deeds_by" Zc0 :=
 Zu Fn Zit hm hb λcdv A outer s H E hr=>by
  have hu:=ZH hr;exact(Zf (ZN 2 Zit.nd (Zi Zar hr (Zb (Z1 (Zt 0) Zk) (Zb (Za 1) Zh))))
  (Zj (ZA (ZtZ (Zav Zs9 (Za 2) Zb1) Zb1 (ZI ZbP (Za 2) Zk)))))
theorem Zpa:Zw ["works","looks","state"] ["works","looks","state"] (Ze Zfy):=⟨rfl,rfl,rfl,by decide +kernel,rfl,by decide +kernel,by decide +kernel⟩
theorem Zpb(T:Txt K mg)(Zc3:Callee P w K mg base k "looks_of" ZbX){f:Addr}{fd:FuncData}(Fn:Fun K "seen_in" "seen_in" Zfy f fd)(hm:mg "seen_in" = some (.ref f))(hb:Binds K fd ["works","looks","state"] []):Callee P w K mg base (k+1) "seen_in" Zdv :=
 Zu Fn Zpa hm hb λcdv A outer s H E hr=>by have hu:=ZH hr;exact(Zj (ZA (Zal T.n_tuple (ZaW (Zaq rfl rfl (N:=["look","works","looks","state"]) (ZG (sc:=Ze Zfy) (XN:=["works","looks","state"])) (ZW (Za 1)) (λ_ _ _ _ _=>Zbz) (λ_ _ _ _ _=>(Z1 (ZaJ (Z1 (ZaJ (Zi Zc3 hr (Zb (Za 1) Zh))) (Za 0))) (Za 3))))))))
theorem Zhw:Zw ["works","looks","crowd","found","state"] ["works","looks","crowd"] (Ze Zgr):=⟨rfl,rfl,rfl,by decide +kernel,rfl,by decide +kernel,by decide +kernel⟩
theorem Zqh(T:Txt K mg)(Zhx:Callee P w K mg base k "seen_in" Zdv){f:Addr}{fd:FuncData}(Fn:Fun K "parted" "parted" Zgr f fd)(hm:mg "parted" = some (.ref f))(hb:Binds K fd ["works","looks","crowd"] []):Callee P w K mg base (k+1) "parted" ZaK :=
 Zu Fn Zhw hm hb λcdv A outer s H E hr=>by
  have hu:=ZH hr;exact(Zf (Zam 3 Zhw.nd Zra)
  (Zf (Zbj 4 Zhw.nd rfl rfl (ZW (Za 2)) (Zj (ZsD hu 3 (Zi Zhx hr (Zb (Za 0) (Zb (Za 1) (Zb (Za 4) Zh)))) (Za 4) ⟨rfl,rfl,rfl,rfl⟩)))
  (Zj (ZA (ZcN (Zaq rfl rfl (N:=["seen","works","looks","crowd","found","state"]) (ZG (sc:=Ze Zgr) (XN:=["works","looks","crowd","found","state"])) (ZW (ZcN (Zdf T.n_sorted rfl (Zt 3)))) (λ_ _ _ _ _=>Zbz) (λ_ _ _ _ _=>(ZdN (Zb (Za 0) (Zb (Zal T.n_tuple (Zrb hu 4 (Za 0))) Zh))))))))))
theorem Zm6:Zw ["works"] ["works"] (Ze ZgF):=⟨rfl,rfl,rfl,by decide +kernel,rfl,by decide +kernel,by decide +kernel⟩
theorem Zm7(T:Txt K mg){f:Addr}{fd:FuncData}(Fn:Fun K "deeds_of" "deeds_of" ZgF f fd)(hm:mg "deeds_of" = some (.ref f))(hb:Binds K fd ["works"] []):Callee P w K mg base (k+1) "deeds_of" Zbf :=
 Zu Fn Zm6 hm hb λcdv A outer s H E hr=>by have hu:=ZH hr;exact(Zj (ZA (Z1 (Zt 0) Zk)))
theorem Zgs:Zw ["works","crowd","deed","leads"] ["works","crowd","deed"] (Ze Zdx):=⟨rfl,rfl,rfl,by decide +kernel,rfl,by decide +kernel,by decide +kernel⟩
theorem Zko(T:Txt K mg)(ZbG:Callee P w K mg base k "deeds_of" Zbf){f:Addr}{fd:FuncData}(Fn:Fun K "can_be_done" "can_be_done" Zdx f fd)(hm:mg "can_be_done" = some (.ref f))(hb:Binds K fd ["works","crowd","deed"] []):Callee P w K mg base (k+1) "can_be_done" Zb3 :=
 Zu Fn Zgs hm hb λcdv A outer s H E hr=>by
  have hu:=ZH hr;exact(Zf (ZN 3 Zgs.nd (Z1 (ZaJ (Zi ZbG hr (Zb (Za 0) Zh))) (Za 2)))
  (Zj (ZA (Zg4 T.n_all rfl (ZaW (Zaq rfl rfl (N:=["state","works","crowd","deed","leads"]) (ZG (sc:=Ze Zdx) (XN:=["works","crowd","deed","leads"])) (ZW (Za 1)) (λ_ _ _ _ _=>Zbz) (λ_ _ _ _ _=>(Ze5 cGt (ZbH T.n_len (ZaJ (Z1 (Zt 4) (Za 0)))) Zk))))))))
theorem ZkV:Zw ["works","crowd"] ["works","crowd"] (Ze ZdR):=⟨rfl,rfl,rfl,by decide +kernel,rfl,by decide +kernel,by decide +kernel⟩
theorem ZkW(T:Txt K mg)(ZeJ:Callee P w K mg base k "can_be_done" Zb3)(ZbG:Callee P w K mg base k "deeds_of" Zbf){f:Addr}{fd:FuncData}(Fn:Fun K "deeds_with" "deeds_with" ZdR f fd)(hm:mg "deeds_with" = some (.ref f))(hb:Binds K fd ["works","crowd"] []):Callee P w K mg base (k+1) "deeds_with" Zcf :=
 Zu Fn ZkV hm hb λcdv A outer s H E hr=>by have hu:=ZH hr;exact(Zj (ZA (ZcN (Zaq rfl rfl (N:=["deed","works","crowd"]) (ZG (sc:=Ze ZdR) (XN:=["works","crowd"])) (ZbW T.n_range (ZbH T.n_len (ZaJ (Zi ZbG hr (Zb (Za 0) Zh))))) (λ_ _ _ _ _=>(Zb2 (Zb4 (Zi ZeJ hr (Zb (Za 1) (Zb (Za 2) (Zb (Za 0) Zh))))))) (λ_ _ _ _ _=>(Za 0))))))
theorem Zeu:Zw ["works","crowd","deed","leads","found","state","target"] ["works","crowd","deed"] (Ze Ziq):=⟨rfl,rfl,rfl,by decide +kernel,rfl,by decide +kernel,by decide +kernel⟩
theorem Zqi(T:Txt K mg)(ZbG:Callee P w K mg base k "deeds_of" Zbf){f:Addr}{fd:FuncData}(Fn:Fun K "led_to" "led_to" Ziq f fd)(hm:mg "led_to" = some (.ref f))(hb:Binds K fd ["works","crowd","deed"] []):Callee P w K mg base (k+1) "led_to" Zdg :=
 Zu Fn Zeu hm hb λcdv A outer s H E hr=>by
  have hu:=ZH hr;exact(Zf (ZN 3 Zeu.nd (Z1 (ZaJ (Zi ZbG hr (Zb (Za 0) Zh))) (Za 2)))
  (Zf (Zam 4 Zeu.nd ZwB)
  (Zf (Zbj 5 Zeu.nd rfl rfl (ZW (Za 1)) (Zj (Zbj 6 Zeu.nd rfl rfl (ZW (Z1 (Zt 3) (Za 5))) (Zj (ZfL hu 4 (Za 6) Zb0)))))
  (Zj (ZA (Zal T.n_tuple (ZaW (Zdf T.n_sorted rfl (Zt 4)))))))))
theorem Zmm:Zw ["works","looks","crowd"] ["works","looks","crowd"] (Ze Zen):=⟨rfl,rfl,rfl,by decide +kernel,rfl,by decide +kernel,by decide +kernel⟩
theorem Zmn(T:Txt K mg)(Zbu:Callee P w K mg base k "parted" ZaK)(Zfl:Callee P w K mg base k "deeds_with" Zcf)(Ziu:Callee P w K mg base k "led_to" Zdg){f:Addr}{fd:FuncData}(Fn:Fun K "ways_with" "ways_with" Zen f fd)(hm:mg "ways_with" = some (.ref f))(hb:Binds K fd ["works","looks","crowd"] []):Callee P w K mg base (k+1) "ways_with" Za4 :=
 Zu Fn Zmm hm hb λcdv A outer s H E hr=>by have hu:=ZH hr;exact(Zj (ZA (ZcN (Zaq rfl rfl (N:=["deed","works","looks","crowd"]) (ZG (sc:=Ze Zen) (XN:=["works","looks","crowd"])) (ZW (Zi Zfl hr (Zb (Za 0) (Zb (Za 2) Zh)))) (λ_ _ _ _ _=>Zbz) (λ_ _ _ _ _=>(ZdN (Zb (Za 0) (Zb (Zi Zbu hr (Zb (Za 1) (Zb (Za 2) (Zb (Zi Ziu hr (Zb (Za 1) (Zb (Za 3) (Zb (Za 0) Zh)))) Zh)))) Zh))))))))
theorem Zb9:Zw ["crowds","ways_for","reach","waiting","crowd","way"] ["crowds","ways_for"] (Ze Zem):=⟨rfl,rfl,rfl,by decide +kernel,rfl,by decide +kernel,by decide +kernel⟩
theorem ZjU(T:Txt K mg)(ZaM:Callee P w K mg base k "crowds_in" ZD)(Zf1:Zd8 P w K mg base k "crowds_in" ZD)(CV:Zd5 P w K mg base k ap){f:Addr}{fd:FuncData}(Fn:Fun K "reached_from" "reached_from" Zem f fd)(hm:mg "reached_from" = some (.ref f))(hb:Binds K fd ["crowds","ways_for"] []):Callee P w K mg base (k+1) "reached_from" (ZbN ap) :=
 Zu Fn Zb9 hm hb λcdv A outer s H E hr=>by
  have hu:=ZH hr;exact(Zf (Zam 2 Zb9.nd ZmG)
  (Zf (Zam 3 Zb9.nd (Zid T.n_list (Zt 0)))
  (Zf (ZjR 100000 rfl (Zav cGt (ZbH T.n_len (Zt 3)) Zk) (Zf (Zvg 4 3 Zb9.nd)
  (Zj (ZaH (Zd3 hu (Za 4) (Zt 2)) (Zf (ZfL hu 2 (Za 4) (ZmV CV hr 1 (Zb (Za 4) Zh)))
  (Zj (Zbj 5 Zb9.nd rfl rfl (ZW (Zg5 hu (Zt 2) (Za 4))) (Zj (Zrg 3 (ZaW (ZsF Zf1 hr (Zb (Z1 (Zt 5) Zk) Zh)))))))) Z0))))
  (Zj (Zcz 2 (ZA (Za 2)))))))
theorem Zkp:Zw ["works","looks","crowd"] ["works","looks","crowd"] (Ze ZV):=⟨rfl,rfl,rfl,by decide +kernel,rfl,by decide +kernel,by decide +kernel⟩
theorem ZvF:ZqX ["works","looks","crowd"] (Ze ZV) (Zlu ZV) ["works","looks"] [0,1]=true:=by decide +kernel
theorem Zkq(T:Txt K mg)(Zev:Callee P w K mg base k "reached_from" (ZbN ap))(ZaM:Callee P w K mg base k "crowds_in" ZD)(Zbu:Callee P w K mg base k "parted" ZaK)(Zdp:Callee P w K mg base k "ways_with" Za4){c T:Addr}(hc:ZzE K c T=true)(ht:(T,("coming_from.<locals>.<lambda>":Str))∈FX.tl)(hq:∀q,(T,q)∈FX.tl->q=("coming_from.<locals>.<lambda>":Str))(bm:BMod base mg)(good:∀F p cs,Clo K F p (Zwb ZV) (Ztd ZV) (Zlu ZV) ["works","looks"] cs->FX.fv 1 cs F p){f:Addr}{fd:FuncData}(Fn:Zqw K "coming_from" "coming_from" ZV f fd c)(hm:mg "coming_from" = some (.ref f))(hb:Binds K fd ["works","looks","crowd"] []):Callee P w K mg base (k+1) "coming_from" (ZaA ap) :=
 ZqV Fn Zkp hm hb λA outer s H E hr=>by have hu:=ZH hr;exact(Zj (ZA (Zqd Zev hr (ZsO ZvF hc ht hq bm good) (Zi ZaM hr (Zb (Zi Zbu hr (Zb (Za 0) (Zb (Za 1) (Zb (Za 2) Zh)))) Zh)))))
theorem Zm8:Zw ["works"] ["works"] (Ze ZgH):=⟨rfl,rfl,rfl,by decide +kernel,rfl,by decide +kernel,by decide +kernel⟩
theorem Zm9(T:Txt K mg){f:Addr}{fd:FuncData}(Fn:Fun K "begin_of" "begin_of" ZgH f fd)(hm:mg "begin_of" = some (.ref f))(hb:Binds K fd ["works"] []):Callee P w K mg base (k+1) "begin_of" Zbg :=
 Zu Fn Zm8 hm hb λcdv A outer s H E hr=>by have hu:=ZH hr;exact(Zj (ZA (Z1 (Zt 0) Zk)))
theorem Zjt:Zw ["crowds","depths"] ["crowds","depths"] (Ze ZcP):=⟨rfl,rfl,rfl,by decide +kernel,rfl,by decide +kernel,by decide +kernel⟩
theorem Zju(T:Txt K mg){f:Addr}{fd:FuncData}(Fn:Fun K "without_depth" "without_depth" ZcP f fd)(hm:mg "without_depth" = some (.ref f))(hb:Binds K fd ["crowds","depths"] []):Callee P w K mg base (k+1) "without_depth" ZU :=
 Zu Fn Zjt hm hb λcdv A outer s H E hr=>by have hu:=ZH hr;exact(Zj (Zg6 0 (ZA (ZcN (Zaq rfl rfl (N:=["crowd","crowds","depths"]) (ZG (sc:=Ze ZcP) (XN:=["crowds","depths"])) (Zg7 0) (λ_ _ _ _ _=>(Zb2 (Zd3 hu (Za 0) (Zt 2)))) (λ_ _ _ _ _=>(Za 0)))))))
theorem Zg9:Zw ["ways","costs","cost_by","told"] ["ways","costs","cost_by"] (Ze ZcU):=⟨rfl,rfl,rfl,by decide +kernel,rfl,by decide +kernel,by decide +kernel⟩
theorem ZkX(T:Txt K mg)(CV:Zd5 P w K mg base k ap){f:Addr}{fd:FuncData}(Fn:Fun K "least_cost" "least_cost" ZcU f fd)(hm:mg "least_cost" = some (.ref f))(hb:Binds K fd ["ways","costs","cost_by"] []):Callee P w K mg base (k+1) "least_cost" (ZbO ap) :=
 Zu Fn Zg9 hm hb λcdv A outer s H E hr=>by
  have hu:=ZH hr;exact(Zf (Zee 3 Zg9.nd rfl rfl (N:=["way","ways","costs","cost_by","told"]) (ZG (sc:=Ze ZcU) (XN:=["ways","costs","cost_by","told"])) (ZW (Za 0)) (λ_ _ _ _ _=>Zbz) (λ_ _ _ _ _=>(ZmV CV hr 3 (Zb (Za 0) (Zb (Za 2) Zh)))))
  (Zj (Zcz 3 (ZA (ZpG T.n_min rfl (ZaW (Zaq rfl rfl (N:=["cost","ways","costs","cost_by","told"]) (ZG (sc:=Ze ZcU) (XN:=["ways","costs","cost_by","told"])) (ZW (Za 3)) (λ_ _ _ _ _=>(Zb2 (Zav Zi2 (Za 0) Zb1))) (λ_ _ _ _ _=>(Za 0)))))))))
theorem ZdB:Zw ["reach","costs","cost_by","found","crowd","cost"] ["reach","costs","cost_by"] (Ze Zfi):=⟨rfl,rfl,rfl,by decide +kernel,rfl,by decide +kernel,by decide +kernel⟩
theorem Zkw(T:Txt K mg)(Zfm:Callee P w K mg base k "least_cost" (ZbO ap)){f:Addr}{fd:FuncData}(Fn:Fun K "next_costs" "next_costs" Zfi f fd)(hm:mg "next_costs" = some (.ref f))(hb:Binds K fd ["reach","costs","cost_by"] []):Zec P w K mg base (k+1) "next_costs" (Zbv ap) :=
 ZqM Fn ZdB hm hb λcdv A outer s H E hr=>by
  have hu:=ZH hr;exact(ZnO (Zam 3 ZdB.nd ZmG)
  (ZnO (Zg6 0 (Zbj 4 ZdB.nd rfl rfl (Zg7 0) (Zj (ZaH (Zd3 hu (Za 4) (Zt 1)) (Zf (ZN 5 ZdB.nd (Zi Zfm hr (Zb (Zg5 hu (Zt 0) (Za 4)) (Zb (Za 1) (Zb (Za 2) Zh)))))
  (Zj (ZaH (Zav Zi2 (Za 5) Zb1) (Zj (ZfL hu 3 (Za 4) (Za 5))) Z0))) Z0))))
  (ZuU 3)))
theorem Zpc:Zw ["works"] ["works"] (Ze Zhq):=⟨rfl,rfl,rfl,by decide +kernel,rfl,by decide +kernel,by decide +kernel⟩
theorem Zpd(T:Txt K mg){f:Addr}{fd:FuncData}(Fn:Fun K "goal_of" "goal_of" Zhq f fd)(hm:mg "goal_of" = some (.ref f))(hb:Binds K fd ["works"] []):Callee P w K mg base (k+1) "goal_of" Zdw :=
 Zu Fn Zpc hm hb λcdv A outer s H E hr=>by have hu:=ZH hr;exact(Zj (ZA (Z1 (Zt 0) Zk)))
theorem Zna:Zw ["works","crowd"] ["works","crowd"] (Ze Ze1):=⟨rfl,rfl,rfl,by decide +kernel,rfl,by decide +kernel,by decide +kernel⟩
theorem Znb(T:Txt K mg)(Zhy:Callee P w K mg base k "goal_of" Zdw){f:Addr}{fd:FuncData}(Fn:Fun K "is_there" "is_there" Ze1 f fd)(hm:mg "is_there" = some (.ref f))(hb:Binds K fd ["works","crowd"] []):Callee P w K mg base (k+1) "is_there" ZbF :=
 Zu Fn Zna hm hb λcdv A outer s H E hr=>by have hu:=ZH hr;exact(Zj (ZA (Zg4 T.n_all rfl (ZaW (Zaq rfl rfl (N:=["state","works","crowd"]) (ZG (sc:=Ze Ze1) (XN:=["works","crowd"])) (ZW (Za 1)) (λ_ _ _ _ _=>Zbz) (λ_ _ _ _ _=>(Zvd (Za 0) (ZaJ (Zi Zhy hr (Zb (Za 1) Zh))))))))))
theorem ZbJ:Zw ["works","reach","cost_by","costs","cost","found","crowd","offered"] ["works","reach","cost_by"] (Ze Zc2):=⟨rfl,rfl,rfl,by decide +kernel,rfl,by decide +kernel,by decide +kernel⟩
theorem Znc(T:Txt K mg)(ZgP:Callee P w K mg base k "is_there" ZbF)(Gf_next_costs:Zec P w K mg base k "next_costs" (Zbv ap)){f:Addr}{fd:FuncData}(Fn:Fun K "costs_of" "costs_of" Zc2 f fd)(hm:mg "costs_of" = some (.ref f))(hb:Binds K fd ["works","reach","cost_by"] []):Callee P w K mg base (k+1) "costs_of" (ZcZ ap) :=
 Zu Fn ZbJ hm hb λcdv A outer s H E hr=>by
  have hu:=ZH hr;exact(Zf (Zam 3 ZbJ.nd ZmG)
  (Zf (ZN 4 ZbJ.nd Zk)
  (Zf (Zg6 1 (Zee 5 ZbJ.nd rfl rfl (N:=["crowd","works","reach","cost_by","costs","cost","found"," ","offered"]) (ZG (sc:=Ze Zc2) (XN:=["works","reach","cost_by","costs","cost","found","crowd","offered"])) (Zg7 1) (λ_ _ _ _ _=>(Zb2 (Zb4 (Zi ZgP hr (Zb (Za 1) (Zb (Za 0) Zh)))))) (λ_ _ _ _ _=>(Za 0))))
  (Zf (ZjR 100000 rfl (Zav cGt (ZbH T.n_len (Zt 5)) Zk) (Zf (Zcz 5 (Zbj 6 ZbJ.nd rfl rfl (ZW (Za 5)) (Zj (ZfL hu 3 (Za 6) (Za 4)))))
  (Zf (Zam 7 ZbJ.nd (ZsG Gf_next_costs hr (ZfM (Za 1) (ZmU (Zt 3) (ZfM (Za 2) (Zrf Zh))))))
  (Zf (Zcz 7 (Zg6 7 (ZN 4 ZbJ.nd (ZpG T.n_min rfl (ZaW (Zaq rfl rfl (N:=["crowd","works","reach","cost_by","costs","cost","found"," ","offered"]) (ZG (sc:=Ze Zc2) (XN:=["works","reach","cost_by","costs","cost","found","crowd","offered"])) (Zg7 7) (λ_ _ _ _ _=>Zbz) (λ_ _ _ _ _=>(Zg5 hu (Zt 8) (Za 0)))))))))
  (Zj (Zcz 7 (Zg6 7 (Zee 5 ZbJ.nd rfl rfl (N:=["crowd","works","reach","cost_by","costs","cost","found"," ","offered"]) (ZG (sc:=Ze Zc2) (XN:=["works","reach","cost_by","costs","cost","found","crowd","offered"])) (Zg7 7) (λ_ _ _ _ _=>(Zb2 (Zav (cEq hr) (Zg5 hu (Zt 8) (Za 0)) (Za 5)))) (λ_ _ _ _ _=>(Za 0))))))))))
  (Zj (Zcz 3 (ZA (Za 3))))))))
theorem Zmo:Zw ["works","coming"] ["works","coming"] (Ze ZfV):=⟨rfl,rfl,rfl,by decide +kernel,rfl,by decide +kernel,by decide +kernel⟩
theorem Zmp(T:Txt K mg)(ZgQ:Callee P w K mg base k "costs_of" (ZcZ ap))(Vff_deeds_by:GFn mg "deeds_by" 0){f:Addr}{fd:FuncData}(Fn:Fun K "depths_of" "depths_of" ZfV f fd)(hm:mg "depths_of" = some (.ref f))(hb:Binds K fd ["works","coming"] []):Callee P w K mg base (k+1) "depths_of" (Za5 ap) :=
 Zu Fn Zmo hm hb λcdv A outer s H E hr=>by have hu:=ZH hr;exact(Zj (ZA (Zi ZgQ hr (Zb (Za 0) (Zb (Za 1) (Zb (Zvh Vff_deeds_by) Zh))))))
theorem ZlF:Zw ["works","looks","coming"] ["works","looks"] (Ze ZjT):=⟨rfl,rfl,rfl,by decide +kernel,rfl,by decide +kernel,by decide +kernel⟩
theorem Zrh(T:Txt K mg)(ZbU:Callee P w K mg base k "checked" ZbE)(Zas:Callee P w K mg base k "checked_looks" Zae)(ZaQ:Callee P w K mg base k "coming_from" (ZaA ap))(Zbh:Callee P w K mg base k "begin_of" Zbg)(Zat:Callee P w K mg base k "without_depth" ZU)(Zbl:Callee P w K mg base k "depths_of" (Za5 ap)){f:Addr}{fd:FuncData}(Fn:Fun K "traps" "traps" ZjT f fd)(hm:mg "traps" = some (.ref f))(hb:Binds K fd ["works","looks"] []):Callee P w K mg base (k+1) "traps" (ZfQ ap) :=
 Zu Fn ZlF hm hb λcdv A outer s H E hr=>by
  have hu:=ZH hr;exact(Zf (ZfH (Zi ZbU hr (Zb (Za 0) Zh)))
  (Zf (ZfH (Zi Zas hr (Zb (Za 0) (Zb (Za 1) Zh))))
  (Zf (ZN 2 ZlF.nd (Zi ZaQ hr (Zb (Za 0) (Zb (Za 1) (Zb (Zi Zbh hr (Zb (Za 0) Zh)) Zh)))))
  (Zj (ZA (ZcN (Zdf T.n_sorted rfl (ZaJ (Zi Zat hr (Zb (Za 2) (Zb (Zi Zbl hr (Zb (Za 0) (Zb (Za 2) Zh))) Zh)))))))))))
theorem ZkY:Zw ["rows","depths"] ["rows","depths"] (Ze Zfj):=⟨rfl,rfl,rfl,by decide +kernel,rfl,by decide +kernel,by decide +kernel⟩
theorem ZkZ(T:Txt K mg)(Zat:Callee P w K mg base k "without_depth" ZU)(ZaM:Callee P w K mg base k "crowds_in" ZD){f:Addr}{fd:FuncData}(Fn:Fun K "first_trap" "first_trap" Zfj f fd)(hm:mg "first_trap" = some (.ref f))(hb:Binds K fd ["rows","depths"] []):Callee P w K mg base (k+1) "first_trap" ZcT :=
 Zu Fn ZkY hm hb λcdv A outer s H E hr=>by have hu:=ZH hr;exact(Zj (ZA (Z1 (ZaJ (Zi Zat hr (Zb (Zi ZaM hr (Zb (Za 0) Zh)) (Zb (Za 1) Zh)))) Zk)))
theorem Zew:Zw ["works","looks","rows","coming","depths"] ["works","looks"] (Ze ZgI):=⟨rfl,rfl,rfl,by decide +kernel,rfl,by decide +kernel,by decide +kernel⟩
theorem Znd(T:Txt K mg)(ZbU:Callee P w K mg base k "checked" ZbE)(Zas:Callee P w K mg base k "checked_looks" Zae)(Zbu:Callee P w K mg base k "parted" ZaK)(ZaQ:Callee P w K mg base k "coming_from" (ZaA ap))(Zbl:Callee P w K mg base k "depths_of" (Za5 ap))(Zbh:Callee P w K mg base k "begin_of" Zbg)(Zar:Callee P w K mg base k "cost_at_worst" ZO)(Zfn:Callee P w K mg base k "first_trap" ZcT)(Zat:Callee P w K mg base k "without_depth" ZU){f:Addr}{fd:FuncData}(Fn:Fun K "why_none" "why_none" ZgI f fd)(hm:mg "why_none" = some (.ref f))(hb:Binds K fd ["works","looks"] []):Callee P w K mg base (k+1) "why_none" (Zc1 ap) :=
 Zu Fn Zew hm hb λcdv A outer s H E hr=>by
  have hu:=ZH hr;exact(Zf (ZfH (Zi ZbU hr (Zb (Za 0) Zh)))
  (Zf (ZfH (Zi Zas hr (Zb (Za 0) (Zb (Za 1) Zh))))
  (Zf (ZN 2 Zew.nd (Zi Zbu hr (Zb (Za 0) (Zb (Za 1) (Zb (Zi Zbh hr (Zb (Za 0) Zh)) Zh)))))
  (Zf (ZN 3 Zew.nd (Zi ZaQ hr (Zb (Za 0) (Zb (Za 1) (Zb (Zi Zbh hr (Zb (Za 0) Zh)) Zh)))))
  (Zf (ZN 4 Zew.nd (Zi Zbl hr (Zb (Za 0) (Zb (Za 3) Zh))))
  (Zf (ZaH (Zav Zi2 (Zi Zar hr (Zb (Za 2) (Zb (Za 4) Zh))) Zb1) (Zj (ZA Zb1)) Z0)
  (Zj (ZA (ZdN (Zb (Zi Zfn hr (Zb (Za 2) (Zb (Za 4) Zh))) (Zb (ZcN (Zdf T.n_sorted rfl (ZaJ (Zi Zat hr (Zb (Za 3) (Zb (Za 4) Zh)))))) Zh)))))))))))
theorem Zhz:Zw ["works","looks","begin","depths"] ["works","looks"] (Ze Zir):=⟨rfl,rfl,rfl,by decide +kernel,rfl,by decide +kernel,by decide +kernel⟩
theorem Zqj(T:Txt K mg)(ZbU:Callee P w K mg base k "checked" ZbE)(Zas:Callee P w K mg base k "checked_looks" Zae)(Zbh:Callee P w K mg base k "begin_of" Zbg)(Zbl:Callee P w K mg base k "depths_of" (Za5 ap))(Zar:Callee P w K mg base k "cost_at_worst" ZO)(ZaQ:Callee P w K mg base k "coming_from" (ZaA ap))(Zbu:Callee P w K mg base k "parted" ZaK){f:Addr}{fd:FuncData}(Fn:Fun K "fewest" "fewest" Zir f fd)(hm:mg "fewest" = some (.ref f))(hb:Binds K fd ["works","looks"] []):Callee P w K mg base (k+1) "fewest" (Zdm ap) :=
 Zu Fn Zhz hm hb λcdv A outer s H E hr=>by
  have hu:=ZH hr;exact(Zf (ZfH (Zi ZbU hr (Zb (Za 0) Zh)))
  (Zf (ZfH (Zi Zas hr (Zb (Za 0) (Zb (Za 1) Zh))))
  (Zf (ZN 2 Zhz.nd (Zi Zbh hr (Zb (Za 0) Zh)))
  (Zf (ZN 3 Zhz.nd (Zi Zbl hr (Zb (Za 0) (Zb (Zi ZaQ hr (Zb (Za 0) (Zb (Za 1) (Zb (Za 2) Zh)))) Zh))))
  (Zj (ZA (Zi Zar hr (Zb (Zi Zbu hr (Zb (Za 0) (Zb (Za 1) (Zb (Za 2) Zh)))) (Zb (Za 3) Zh)))))))))
theorem Zd4:Zw ["_law_script","_law_works_here","_law_looks_here","_law_costs_here","_law_due","_law_found","_law_first","_law_told"] ["_law_script"] (Ze Zes):=⟨rfl,rfl,rfl,by decide +kernel,rfl,by decide +kernel,by decide +kernel⟩
theorem Zud(T:Txt K mg)(Zf2:Callee P w K mg base k "_law_works" Za2)(Zf3:Callee P w K mg base k "_law_looks" ZcD)(Zf4:Callee P w K mg base k "_law_costs" Zdj)(ZjV:Callee P w K mg base k "traps" (ZfQ ap))(ZgR:Callee P w K mg base k "why_none" (Zc1 ap))(Za6:Callee P w K mg base k "_law_cell" Zaf)(Za7:Callee P w K mg base k "_law_split" Zan)(Ziv:Callee P w K mg base k "fewest" (Zdm ap))(ZdA:Callee P w K mg base k "_law_all" Zcl){f:Addr}{fd:FuncData}(Fn:Fun K "law" "law" Zes f fd):Zds P w K mg base CX0 (k+1) f fd ["_law_script"] (spD K 1 (ZfR ap)) :=
 ZpI Fn Zd4 λcdv A outer s H E hr=>by
  have hu:=ZH hr;exact(Zf (ZN 1 Zd4.nd (Zi Zf2 hr (Zb (Za 0) (Zb Zk Zh))))
  (Zf (ZN 2 Zd4.nd (Zi Zf3 hr (Zb (Za 1) (Zb (Zi Za6 hr (Zb (Za 0) (Zb Zk Zh))) Zh))))
  (Zf (ZN 3 Zd4.nd (Zi Zf4 hr (Zb (Za 1) (Zb (Za 2) Zh))))
  (Zf (Zam 4 Zd4.nd (Zdf T.n_sorted rfl (ZaW (Zaq rfl rfl (N:=["_law_crowd_here","_law_script","_law_works_here","_law_looks_here","_law_costs_here","_law_due","_law_found","_law_first","_law_told"]) (ZG (sc:=Ze Zes) (XN:=["_law_script","_law_works_here","_law_looks_here","_law_costs_here","_law_due","_law_found","_law_first","_law_told"])) (ZW (Zi ZdA hr (Zb (Za 1) (Zb (Za 2) Zh)))) (λ_ _ _ _ _=>(Zb2 (Zd3 hu (Za 0) (Zt 4)))) (λ_ _ _ _ _=>(Za 0))))))
  (Zf (ZN 5 Zd4.nd (Zi ZjV hr (Zb (Za 1) (Zb (Za 2) Zh))))
  (Zf (Zcz 4 (ZaH (ZmP (ZmF (ZdM (Zb4 (ZoX T.n_isinstance T.n_list (Za 5)))) (Zki (Zav (cNe hr) (Za 5) (Za 4))))) (Zj (ZA Zb0)) Z0))
  (Zf (Zjz 6 Zd4.nd rfl rfl (N:=["_law_seen","_law_part","_law_script","_law_works_here","_law_looks_here","_law_costs_here","_law_due","_law_found","_law_first","_law_told"]) (ZG (sc:=Ze Zes) (XN:=["_law_script","_law_works_here","_law_looks_here","_law_costs_here","_law_due","_law_found","_law_first","_law_told"])) (ZW (Zi Za7 hr (Zb (Za 1) (Zb (Za 2) (Zb (Z1 (Zt 1) Zk) Zh))))) (λ_ _ _ _ _=>(Zb2 (Zve hr (Za 1) (Zt 6)))) (λ_ _ _ _ _=>(Za 1)))
  (Zf (ZN 7 Zd4.nd (Zi ZgR hr (Zb (Za 1) (Zb (Za 2) Zh))))
  (Zf (ZaH (Zav (cNe hr) (Ze5 Zs9 (Za 7) Zb1) (Ze5 Zi2 (Zi Ziv hr (Zb (Za 1) (Zb (Za 2) Zh))) Zb1)) (Zj (ZA Zb0)) Z0)
  (Zf (Zcz 6 (ZaH (Zav (cEq hr) (Za 6) (ZcN (Zb5 Zh))) (Zj (ZA (Ze5 Zs9 (Za 7) Zb1))) Z0))
  (Zj (Zcz 4 (ZA (Ze7 (ZfK T.n_isinstance T.n_tuple (Za 7)) (Ze6 (Ze5 (cEq hr) (Za 7) (ZdN (Zb (Z1 (Zt 6) Zk) (Zb (Za 4) Zh)))))))))))))))))))
def FvI(K:Zx0)(t:Nat)(cs:List PyData)(F:Hp)(a:Addr):Prop :=
 (t=0/\cs=[]/\ZAm K ZyK "deeds_by" = some (some (.ref a)))\/(t=1/\Clo K F a (Zwb ZV) (Ztd ZV) (Zlu ZV) ["works","looks"] cs)
theorem ZvY:Zj3 (Zlu ZV) "part" ["works","looks"]:=⟨rfl,rfl,rfl,by decide +kernel,rfl,by decide +kernel,by decide +kernel⟩
theorem ZvB(T:Txt K mg)(Zdp:Callee P w K mg base k "ways_with" Za4)(qual:Str)(f:Addr)(cd:Value)(clos:List (Str × Addr))(A:Around)(outer:List PySem.Env)(s:Shared)(H:Hp)(hr:Zag k (A.deeper (ZAS qual (Zlu ZV) s.heap.objs.size f cd clos))) :
  XE (ZmH P w K mg base ["part","works","looks"] qual (Zlu ZV) f cd clos A outer s H) (Ztd ZV) (Zl Za4 (Zd (Zc 1) (Zd (Zc 2) (Zd (Zc 0) Zn)))):=by
 have hu:=ZH hr;exact(Zi Zdp hr (Zb (Za 1) (Zb (Za 2) (Zb (Za 0) Zh))))
theorem ZwW(T:Txt K mg)(V:∀t cs F a,FX.fv t cs F a->FvI K t cs F a){f0:Addr}{fd0:FuncData}(Fn0:Fun K "deeds_by" "deeds_by" Ze2 f0 fd0)(hm0:mg "deeds_by" = some (.ref f0))(hn0:∀a,ZAm K ZyK "deeds_by" = some (some (.ref a))->mg "deeds_by" = some (.ref a))(ZgS:Callee P w K mg base (k+1) "deeds_by" Zc0)(Lf_ways_with:Callee P w K mg base k "ways_with" Za4):Zd5 P w K mg base (k+1) ap:=by
 constructor
 ·intro t cs F a h A outer s H e0 sub
  rcases V t cs F a h with⟨rfl,rfl,hn⟩ | ⟨rfl,hC⟩
  ·exact Zuy Fn0 hm0 (hn0 a hn) e0
  ·exact ZvX hC e0 sub
 ·intro t cs F a h A outer s H e0 sub us vs ds d Q hr tb nt rv rs hap kk
  rcases V t cs F a h with⟨rfl,rfl,hn⟩ | ⟨rfl,hC⟩
  ·exact ZsY ZgS (hn0 a hn) e0 sub hr tb nt rv rs hap kk
  ·exact ZuR ZvY (λ_ _ _ _ _ _=>rfl) (ZvB T Lf_ways_with) hC e0 sub hr tb nt rv rs hap kk
def tlI:List (Addr × Str):=[(221,"coming_from.<locals>.<lambda>")]
@[reducible] def fxI(K:Zx0):FX where
 tl:=tlI
 fv:=FvI K
 sw:=λhF hob h=>by
  rcases h with h | h
  ·exact ZyY (h)
  ·exact ZyC ((⟨h.1,h.2.sw hF hob⟩))
 drop:=λh=>by
  rcases h with h | h
  ·exact ZyY (h)
  ·exact ZyC ((⟨h.1,h.2.drop⟩))
 mono:=λh s=>by
  rcases h with h | h
  ·exact ZyY (h)
  ·exact ZyC ((⟨h.1,h.2.mono s⟩))
structure Def(K:Zx0)(mg:Str->Option Value)(x:Str)(st:Stmt)(ps:List Str):Prop where
 ex:∃f fd,Fun K x x st f fd/\mg x=some (.ref f)/\Binds K fd ps []
theorem Zwp{h:Heap}{x:Str}{st:Stmt}{ps:List Str}{f:Addr}{oc:Value}{od an:Option Addr}{osl:Array (Option Value)}{kV doc pm cdv ct:Value}(X:K.In h)(G:h.Ns ZyK mg)(a:ZAm K ZyK x=some (some (.ref f)))
  (l:K.lookup f=some ⟨oc,od,.func (Zzj x x (Zci st) (ZaR st) (Ze st) .none kV doc pm an cdv ct),osl⟩) (c:Zz1 K cdv x=true) (kp:Zzp K (.ref f)=true)
  (b:∀(kV doc pm:Value) (an:Option Addr) (cdv ct:Value) (us:List Value),us.length=ps.length->bindArgs (Zzj x x (Zci st) (ZaR st) (Ze st) .none kV doc pm an cdv ct) ⟨us,[]⟩=pure (ps.zip us)):Def K mg x st ps :=
 ⟨f,_,ZnF l c kp,ZBf X G a,(ZnF l c kp).binds b⟩
structure ZvE(K:Zx0)(mg:Str->Option Value)(x:Str)(st:Stmt)(ps:List Str)(c T:Addr):Prop where
 ex:∃f fd,Zqw K x x st f fd c/\mg x=some (.ref f)/\Binds K fd ps []/\ZzE K c T=true
theorem ZuX{h:Heap}{x:Str}{st:Stmt}{ps:List Str}{f c T:Addr}{oc:Value}{od an:Option Addr}{osl:Array (Option Value)}{kV doc pm cdv ct:Value}(X:K.In h)(G:h.Ns ZyK mg)(a:ZAm K ZyK x=some (some (.ref f)))
  (l:K.lookup f=some ⟨oc,od,.func (Zzj x x (Zci st) (ZaR st) (Ze st) .none kV doc pm an cdv ct),osl⟩) (cc:Zz1 K cdv x=true) (kp:Zzp K (.ref f)=true)
  (b:∀(kV doc pm:Value) (an:Option Addr) (cdv ct:Value) (us:List Value),us.length=ps.length->bindArgs (Zzj x x (Zci st) (ZaR st) (Ze st) .none kV doc pm an cdv ct) ⟨us,[]⟩=pure (ps.zip us)) (e:cdv=.ref c) (hc:ZzE K c T=true):ZvE K mg x st ps c T:=by
 subst e;exact⟨f,_,ZuG l cc kp,ZBf X G a,.all (b kV doc pm an _ ct),hc⟩
def NsV(K:Zx0)(mg:Str->Option Value)(x:Str):Prop:=(∀a,ZAm K ZyK x=some (some (.ref a))->mg x=some (.ref a))/\∃f,ZAm K ZyK x=some (some (.ref f))
theorem ZvZ{h:Heap}{x:Str}{f:Addr}(X:K.In h)(G:h.Ns ZyK mg)(a:ZAm K ZyK x=some (some (.ref f))):NsV K mg x:=⟨λ_ e=>ZBf X G e,f,a⟩
end
structure Ds(K:Zx0)(mg:Str->Option Value):Prop where
 Zpe:Def K mg "_law_cell" ZgJ ["_law_script","_law_k"]
 Zqk:Def K mg "_law_mix" Zhs ["_law_cell_here","_law_prime","_law_many"]
 Zne:Def K mg "_law_crowd" Zeo ["_law_cell_here","_law_many","_law_least"]
 Zpf:Def K mg "_law_deed" ZgK ["_law_cell_here","_law_many"]
 Zpg:Def K mg "_law_walk" ZgL ["_law_cell_here","_law_many"]
 Znf:Def K mg "_law_works" Zep ["_law_script","_law_at"]
 Zng:Def K mg "_law_looks" Zeq ["_law_works_here","_law_cell_here"]
 Znh:Def K mg "_law_split" Zdn ["_law_works_here","_law_looks_here","_law_crowd_here"]
 Zql:Def K mg "_law_led" Zht ["_law_works_here","_law_crowd_here","_law_deed_here"]
 Zqm:Def K mg "_law_all" Zdy ["_law_works_here","_law_looks_here"]
 Zni:Def K mg "_law_there" Zer ["_law_works_here","_law_crowd_here"]
 Zjv:Def K mg "_law_can_within" Zcv ["_law_works_here","_law_looks_here","_law_crowd_here","_law_costs_here"]
 Znj:Def K mg "_law_costs" ZfW ["_law_works_here","_law_looks_here"]
 Znk:Def K mg "is_number" ZfS ["thing","least","most"]
 Znl:Def K mg "is_rising" ZfT ["thing","many"]
 Zph:Def K mg "is_crowd" ZgE ["thing","many"]
 Zri:Def K mg "is_row" Zip ["thing","least","most"]
 Zqn:Def K mg "is_deed" Zfw ["thing","many"]
 Znm:Def K mg "are_deeds" Zek ["thing","many"]
 Zqo:Def K mg "is_look" Zfx ["thing","many"]
 Znn:Def K mg "are_looks" Zel ["thing","many"]
 Zno:Def K mg "are_works" ZfU ["thing"]
 Zqp:Def K mg "checked" Zhr ["works"]
 Zpi:Def K mg "looks_of" ZgG ["works"]
 ZjW:Def K mg "checked_looks" ZdX ["works","looks"]
 Ziw:Def K mg "crowds_in" ZcF ["rows"]
 ZjX:Def K mg "cost_at_worst" ZcO ["rows","costs"]
 ZjH:Def K mg "deeds_by" Ze2 ["way","depths"]
 Zqq:Def K mg "seen_in" Zfy ["works","looks","state"]
 Zrj:Def K mg "parted" Zgr ["works","looks","crowd"]
 Zpj:Def K mg "deeds_of" ZgF ["works"]
 Zk0:Def K mg "can_be_done" Zdx ["works","crowd","deed"]
 Zmq:Def K mg "deeds_with" ZdR ["works","crowd"]
 Zrk:Def K mg "led_to" Ziq ["works","crowd","deed"]
 Znp:Def K mg "ways_with" Zen ["works","looks","crowd"]
 Zkr:Def K mg "reached_from" Zem ["crowds","ways_for"]
 Zk1:ZvE K mg "coming_from" ZV ["works","looks","crowd"] 225 221
 Zpk:Def K mg "begin_of" ZgH ["works"]
 ZjY:Def K mg "without_depth" ZcP ["crowds","depths"]
 Zmr:Def K mg "least_cost" ZcU ["ways","costs","cost_by"]
 Zms:Def K mg "next_costs" Zfi ["reach","costs","cost_by"]
 Zqr:Def K mg "goal_of" Zhq ["works"]
 Zpl:Def K mg "is_there" Ze1 ["works","crowd"]
 Zpm:Def K mg "costs_of" Zc2 ["works","reach","cost_by"]
 Znq:Def K mg "depths_of" ZfV ["works","coming"]
 ZsH:Def K mg "traps" ZjT ["works","looks"]
 Zmt:Def K mg "first_trap" Zfj ["rows","depths"]
 Zpn:Def K mg "why_none" ZgI ["works","looks"]
 Zrl:Def K mg "fewest" Zir ["works","looks"]
 Nf_deeds_by:NsV K mg "deeds_by"
section
variable[FX]{P:Program}{w:World}{K:Zx0}{mg:Str->Option Value}{base:Heap}{k:Nat}
theorem Zwg(T:Txt K mg)(hV:∀t cs F a,FX.fv t cs F a↔FvI K t cs F a)(hTL:FX.tl=tlI)(Dd:Ds K mg)(bm:BMod base mg){f:Addr}{fd:FuncData}(Fn:Fun K "law" "law" Zes f fd):Zds P w K mg base CX0 11 f fd ["_law_script"] (spD K 1 (ZfR ap)):=by
 have Vff_deeds_by:GFn mg "deeds_by" 0:=by obtain⟨h1,g,h2⟩:=Dd.Nf_deeds_by;exact⟨g,h1 g h2,λF=>(hV _ _ _ _).mpr (ZyY (⟨rfl,rfl,h2⟩))⟩
 have Za6:Callee P w K mg base 1 "_law_cell" Zaf:=by obtain⟨f,fd,F,m,b⟩:=Dd.Zpe.ex;exact ZmY T  F m b
 have ZL:Callee P w K mg base 1 "_law_mix" ZK:=by obtain⟨f,fd,F,m,b⟩:=Dd.Zqk.ex;exact Zo1 T  F m b
 have Zet:Callee P w K mg base 2 "_law_crowd" ZbI:=by obtain⟨f,fd,F,m,b⟩:=Dd.Zne.ex;exact Zl5 T (ZL.mono (by decide)) F m b
 have ZgM:Callee P w K mg base 2 "_law_deed" ZcW:=by obtain⟨f,fd,F,m,b⟩:=Dd.Zpf.ex;exact ZmZ T (ZL.mono (by decide)) F m b
 have ZgN:Callee P w K mg base 2 "_law_walk" ZcX:=by obtain⟨f,fd,F,m,b⟩:=Dd.Zpg.ex;exact Zm0 T (ZL.mono (by decide)) F m b
 have Zf2:Callee P w K mg base 3 "_law_works" Za2:=by obtain⟨f,fd,F,m,b⟩:=Dd.Znf.ex;exact Zl6 T (Za6.mono (by decide)) (Zet.mono (by decide)) (ZL.mono (by decide)) (ZgM.mono (by decide)) (ZgN.mono (by decide)) F m b
 have Zf3:Callee P w K mg base 2 "_law_looks" ZcD:=by obtain⟨f,fd,F,m,b⟩:=Dd.Zng.ex;exact Zl8 T (ZL.mono (by decide)) F m b
 have Za7:Callee P w K mg base 1 "_law_split" Zan:=by obtain⟨f,fd,F,m,b⟩:=Dd.Znh.ex;exact Zl9 T  F m b
 have Zdz:Callee P w K mg base 1 "_law_led" ZbT:=by obtain⟨f,fd,F,m,b⟩:=Dd.Zql.ex;exact Zo2 T  F m b
 have ZdA:Callee P w K mg base 2 "_law_all" Zcl:=by obtain⟨f,fd,F,m,b⟩:=Dd.Zqm.ex;exact Zo3 T (Za7.mono (by decide)) (Zdz.mono (by decide)) F m b
 have ZfX:Callee P w K mg base 1 "_law_there" ZcE:=by obtain⟨f,fd,F,m,b⟩:=Dd.Zni.ex;exact Zmb T  F m b
 have ZdG:Callee P w K mg base 2 "_law_can_within" ZbQ:=by obtain⟨f,fd,F,m,b⟩:=Dd.Zjv.ex;exact Zis T (Zdz.mono (by decide)) (Za7.mono (by decide)) F m b
 have Zf4:Callee P w K mg base 3 "_law_costs" Zdj:=by obtain⟨f,fd,F,m,b⟩:=Dd.Znj.ex;exact Zmc T (ZdA.mono (by decide)) (ZfX.mono (by decide)) (ZdG.mono (by decide)) F m b
 have Zbk:Callee P w K mg base 1 "is_number" Za1:=by obtain⟨f,fd,F,m,b⟩:=Dd.Znk.ex;exact Zme T  F m b
 have Zax:Callee P w K mg base 2 "is_rising" Z6:=by obtain⟨f,fd,F,m,b⟩:=Dd.Znl.ex;exact Zmf T (Zbk.mono (by decide)) F m b
 have ZgO:Callee P w K mg base 3 "is_crowd" ZcV:=by obtain⟨f,fd,F,m,b⟩:=Dd.Zph.ex;exact Zm2 T (Zax.mono (by decide)) F m b
 have ZaL:Callee P w K mg base 1 "is_row" ZaX:=by obtain⟨f,fd,F,m,b⟩:=Dd.Zri.ex;exact Zqg T  F m b
 have Zhu:Callee P w K mg base 3 "is_deed" Zcj:=by obtain⟨f,fd,F,m,b⟩:=Dd.Zqn.ex;exact Zo5 T (ZaL.mono (by decide)) (Zax.mono (by decide)) F m b
 have ZfY:Callee P w K mg base 4 "are_deeds" ZcA:=by obtain⟨f,fd,F,m,b⟩:=Dd.Znm.ex;exact Zmh T (ZaL.mono (by decide)) (Zhu.mono (by decide)) F m b
 have Zhv:Callee P w K mg base 2 "is_look" Zck:=by obtain⟨f,fd,F,m,b⟩:=Dd.Zqo.ex;exact Zo7 T (ZaL.mono (by decide)) (Zbk.mono (by decide)) F m b
 have ZfZ:Callee P w K mg base 3 "are_looks" ZcB:=by obtain⟨f,fd,F,m,b⟩:=Dd.Znn.ex;exact Zmj T (ZaL.mono (by decide)) (Zhv.mono (by decide)) F m b
 have Zf0:Callee P w K mg base 5 "are_works" ZcC:=by obtain⟨f,fd,F,m,b⟩:=Dd.Zno.ex;exact Zmk T (ZgO.mono (by decide)) (Zax.mono (by decide)) (ZaL.mono (by decide)) (Zbk.mono (by decide)) (ZfY.mono (by decide)) (ZfZ.mono (by decide)) F m b
 have ZbU:Callee P w K mg base 6 "checked" ZbE:=by obtain⟨f,fd,F,m,b⟩:=Dd.Zqp.ex;exact Zo9 T (Zf0.mono (by decide)) F m b
 have Zc3:Callee P w K mg base 1 "looks_of" ZbX:=by obtain⟨f,fd,F,m,b⟩:=Dd.Zpi.ex;exact Zm4 T  F m b
 have Zas:Callee P w K mg base 3 "checked_looks" Zae:=by obtain⟨f,fd,F,m,b⟩:=Dd.ZjW.ex;exact Zjr T (Zax.mono (by decide)) (Zc3.mono (by decide)) F m b
 have ZaM:Callee P w K mg base 1 "crowds_in" ZD:=by obtain⟨f,fd,F,m,b⟩:=Dd.Ziw.ex;exact Zml T  F m b
 have Zf1:Zd8 P w K mg base 1 "crowds_in" ZD:=by obtain⟨f,fd,F,m,b⟩:=Dd.Ziw.ex;exact ZkU T  F m b
 have Zar:Callee P w K mg base 2 "cost_at_worst" ZO:=by obtain⟨f,fd,F,m,b⟩:=Dd.ZjX.ex;exact Zjs T (ZaM.mono (by decide)) F m b
 have ZgS:Callee P w K mg base 3 "deeds_by" Zc0:=by obtain⟨f,fd,F,m,b⟩:=Dd.ZjH.ex;exact Zm5 T (Zar.mono (by decide)) F m b
 have Zhx:Callee P w K mg base 2 "seen_in" Zdv:=by obtain⟨f,fd,F,m,b⟩:=Dd.Zqq.ex;exact Zpb T (Zc3.mono (by decide)) F m b
 have Zbu:Callee P w K mg base 3 "parted" ZaK:=by obtain⟨f,fd,F,m,b⟩:=Dd.Zrj.ex;exact Zqh T (Zhx.mono (by decide)) F m b
 have ZbG:Callee P w K mg base 1 "deeds_of" Zbf:=by obtain⟨f,fd,F,m,b⟩:=Dd.Zpj.ex;exact Zm7 T  F m b
 have ZeJ:Callee P w K mg base 2 "can_be_done" Zb3:=by obtain⟨f,fd,F,m,b⟩:=Dd.Zk0.ex;exact Zko T (ZbG.mono (by decide)) F m b
 have Zfl:Callee P w K mg base 3 "deeds_with" Zcf:=by obtain⟨f,fd,F,m,b⟩:=Dd.Zmq.ex;exact ZkW T (ZeJ.mono (by decide)) (ZbG.mono (by decide)) F m b
 have Ziu:Callee P w K mg base 2 "led_to" Zdg:=by obtain⟨f,fd,F,m,b⟩:=Dd.Zrk.ex;exact Zqi T (ZbG.mono (by decide)) F m b
 have Zdp:Callee P w K mg base 4 "ways_with" Za4:=by obtain⟨f,fd,F,m,b⟩:=Dd.Znp.ex;exact Zmn T (Zbu.mono (by decide)) (Zfl.mono (by decide)) (Ziu.mono (by decide)) F m b
 obtain⟨f0,fd0,F0,m0,b0⟩:=Dd.ZjH.ex;have CV:Zd5 P w K mg base 5 ap:=ZwW (k:=4) T (λt cs F a h=>(hV t cs F a).mp h) F0 m0 Dd.Nf_deeds_by.1 (ZgS.mono (by decide)) (Zdp.mono (by decide));have Zev:Callee P w K mg base 6 "reached_from" (ZbN ap):=by obtain⟨f,fd,F,m,b⟩:=Dd.Zkr.ex;exact ZjU T (ZaM.mono (by decide)) (Zf1.mono (by decide)) (CV.mono (by decide)) F m b
 have ZaQ:Callee P w K mg base 7 "coming_from" (ZaA ap):=by obtain⟨f,fd,F,m,b,hc⟩:=Dd.Zk1.ex;exact Zkq T (Zev.mono (by decide)) (ZaM.mono (by decide)) (Zbu.mono (by decide)) (Zdp.mono (by decide)) hc (by rw[hTL]; decide) (by rw[hTL]; intro q h; simpa [tlI]using h) bm (λF p cs h=>(hV _ _ _ _).mpr (ZyC ((⟨rfl,h⟩)))) F m b
 have Zbh:Callee P w K mg base 1 "begin_of" Zbg:=by obtain⟨f,fd,F,m,b⟩:=Dd.Zpk.ex;exact Zm9 T  F m b
 have Zat:Callee P w K mg base 1 "without_depth" ZU:=by obtain⟨f,fd,F,m,b⟩:=Dd.ZjY.ex;exact Zju T  F m b
 have Zfm:Callee P w K mg base 6 "least_cost" (ZbO ap):=by obtain⟨f,fd,F,m,b⟩:=Dd.Zmr.ex;exact ZkX T  (CV.mono (by decide)) F m b
 have Gf_next_costs:Zec P w K mg base 7 "next_costs" (Zbv ap):=by obtain⟨f,fd,F,m,b⟩:=Dd.Zms.ex;exact Zkw T (Zfm.mono (by decide)) F m b
 have Zhy:Callee P w K mg base 1 "goal_of" Zdw:=by obtain⟨f,fd,F,m,b⟩:=Dd.Zqr.ex;exact Zpd T  F m b
 have ZgP:Callee P w K mg base 2 "is_there" ZbF:=by obtain⟨f,fd,F,m,b⟩:=Dd.Zpl.ex;exact Znb T (Zhy.mono (by decide)) F m b
 have ZgQ:Callee P w K mg base 8 "costs_of" (ZcZ ap):=by obtain⟨f,fd,F,m,b⟩:=Dd.Zpm.ex;exact Znc T (ZgP.mono (by decide)) (Gf_next_costs.mono (by decide)) F m b
 have Zbl:Callee P w K mg base 9 "depths_of" (Za5 ap):=by obtain⟨f,fd,F,m,b⟩:=Dd.Znq.ex;exact Zmp T (ZgQ.mono (by decide)) Vff_deeds_by F m b
 have ZjV:Callee P w K mg base 10 "traps" (ZfQ ap):=by obtain⟨f,fd,F,m,b⟩:=Dd.ZsH.ex;exact Zrh T (ZbU.mono (by decide)) (Zas.mono (by decide)) (ZaQ.mono (by decide)) (Zbh.mono (by decide)) (Zat.mono (by decide)) (Zbl.mono (by decide)) F m b
 have Zfn:Callee P w K mg base 2 "first_trap" ZcT:=by obtain⟨f,fd,F,m,b⟩:=Dd.Zmt.ex;exact ZkZ T (Zat.mono (by decide)) (ZaM.mono (by decide)) F m b
 have ZgR:Callee P w K mg base 10 "why_none" (Zc1 ap):=by obtain⟨f,fd,F,m,b⟩:=Dd.Zpn.ex;exact Znd T (ZbU.mono (by decide)) (Zas.mono (by decide)) (Zbu.mono (by decide)) (ZaQ.mono (by decide)) (Zbl.mono (by decide)) (Zbh.mono (by decide)) (Zar.mono (by decide)) (Zfn.mono (by decide)) (Zat.mono (by decide)) F m b
 have Ziv:Callee P w K mg base 10 "fewest" (Zdm ap):=by obtain⟨f,fd,F,m,b⟩:=Dd.Zrl.ex;exact Zqj T (ZbU.mono (by decide)) (Zas.mono (by decide)) (Zbh.mono (by decide)) (Zbl.mono (by decide)) (Zar.mono (by decide)) (ZaQ.mono (by decide)) (Zbu.mono (by decide)) F m b
 exact Zud (k:=10) T (Zf2.mono (by decide)) (Zf3.mono (by decide)) (Zf4.mono (by decide)) (ZjV.mono (by decide)) (ZgR.mono (by decide)) (Za6.mono (by decide)) (Za7.mono (by decide)) (Ziv.mono (by decide)) (ZdA.mono (by decide)) Fn
end
theorem all_mk{l:ZCn}{w:World}{K:Zx0}{h:Heap}{mg:Str->Option Value}{fa f4:Addr}{od4 an4:Option Addr}{sl4:Array (Option Value)}{oc4 kV4 dc4 pm4 cd4 ct4:Value}(X:K.In h)(G:h.Ns ZyK mg)(hfa:mg "law" = some (.ref fa))
  (T:Txt K mg) (Dd:Ds K mg) (a4:ZAm K ZyK "law" = some (some (.ref f4)))
  (l4:K.lookup f4=some ⟨oc4,od4,.func (Zzj "law" "law" (Zci Zes) (ZaR Zes) (Ze Zes) .none kV4 dc4 pm4 an4 cd4 ct4),sl4⟩) (c4:Zz1 K cd4 "law" = true) (k4:Zzp K (.ref f4)=true) :
  ∃fd:FuncData,(∀(s:Shared) (v:Value),BindsTo s fd ⟨[v],[]⟩ [("_law_script",v)])/\∀base:Heap,K.In base->base.Ns ZyK mg->BMod base mg->Zds l.prog w K mg base CX0 11 fa fd ["_law_script"] (@spD (fxI K) K 1 (ZfR ap)):=by
 have e:=hfa.symm.trans (ZBf X G a4);cases e;have fx0:FX:=FX0;exact⟨_,λs v=>.of_eq rfl,λbase _ _ bm=>@Zwg (fxI K) _ _ _ _ _ T (λ_ _ _ _=>Iff.rfl) rfl Dd bm _ _ (ZnF (st:=Zes) l4 c4 k4)⟩
theorem walk{l:ZCn}{q:Program}{loose:List Str}{XP:(Str->Option Value)->Heap->Prop}{YP:World->Heap->Prop}{d:DefRec}{K:Params->Zx0}(hn:l.most=some 63)(hdf:d.params.defaults=[])
  (Zka:∀ns:List Int,ns.length<=63->(ZfR ap) [.list (HM.ofInts ns)]=some (.bool true)) (hY:∀(w:World) (h:Heap),YP w h->(K w.params).In h) (hYT:∀(w:World) (h:Heap),YP w h->∀q∈([(225,221)]:List (Addr × Addr)),h.get? q.2=some (ZAD #[]))
  (hT:∀(w:World),∀q∈([(225,221)]:List (Addr × Addr)),ZzE (K w.params) q.1 q.2=true/\(K w.params).lookup q.2=none)
  (F:∀(w:World) (mg:Str->Option Value) (fa:Addr) (h:Heap),(K w.params).In h->h.Ns ZyK mg->mg d.name=some (.ref fa) ->
   ∃fd:FuncData,(∀(s:Shared) (u:Value),BindsTo s fd ⟨[u],[]⟩ [("_law_script",u)])/\∀base:Heap,(K w.params).In base->base.Ns ZyK mg->BMod base mg->Zds l.prog w (K w.params) mg base CX0 11 fa fd ["_law_script"] (@spD (fxI (K w.params)) (K w.params) 1 (ZfR ap))) :
  PySem.W.WalkO q loose XP YP l.row.toRowW d [] (λf vs=>PySem.call f vs) :=
 ZsT (n:=63) (k:=11) (x:="_law_script") (sp:=λw=>@spD (fxI (K w.params)) (K w.params) 1 (ZfR ap)) (tabs:=[(225,221)]) hn (by decide) hdf ⟨rfl,by decide,by decide⟩ hY hYT hT F λw H a ns hl hO hS=>@ZvM (fxI (K w.params)) _ _ _ _ _ _ hO (λT q h=>by
  have:∀p∈tlI,p.1∈([(225,221)]:List (Addr × Addr)).map (·.2):=by decide
  exact this _ h) hS (Zka ns hl)
section
variable{P:Program}{w:World}{K:Zx0}{mg:Str->Option Value}{base:Heap}{k:Nat}
abbrev Zxo{K:Zx0}{h:Heap}(_:K.In h)(mg:Str->Option Value):Prop:=Ds K mg
abbrev ZwH{K:Zx0}{h:Heap}(_:K.In h)(mg:Str->Option Value):Prop:=Txt K mg
theorem int_mk{mg:Str->Option Value}{n:Str}{v:Value}{k:Int}(h:mg n=some v)(e:∃t,v=.int k t):∃t,mg n=some (.int k t):=by obtain⟨t,rfl⟩:=e;exact⟨t,h⟩
end
end HT
theorem PySem.W.Fast.tw9045281240217529240:True:=trivial
theorem PySem.W.Fast.tw14489531776447567619:True:=trivial
theorem PySem.W.Fast.tw15076755556127400751:True:=trivial
theorem PySem.W.Fast.tw16906269510970496177:True:=trivial
theorem PySem.W.Fast.tw17312250172508337403:True:=trivial
theorem PySem.W.Fast.tw6925446038821235153:True:=trivial
theorem PySem.W.Fast.tw4096689992172265642:True:=trivial
theorem PySem.W.Fast.tw7332102102920855851:True:=trivial
theorem PySem.W.Fast.tw9345534520859845681:True:=trivial
theorem PySem.W.Fast.tw12828927769455997965:True:=trivial
theorem PySem.W.Fast.tw12605779513510544822:True:=trivial
open PySem PySem.W PyProof.Rows
set_option maxRecDepth 100000 in
set_option maxHeartbeats 0 in
theorem PySem.Challenge.cw_halfseen_k12_traps_holds : PySem.Challenge.rw_halfseen_k12_traps.Holds := by
 w_on; o_law; k_head; (case hw=>w_witness2)
 k_fill
 refine HT.walk (l:=PySem.Challenge.rw_halfseen_k12_traps) rfl rfl HG12.Zka (λw h Y=>PySem.W.km_in_of Y) (λw h Y q hq=>PySem.W.km_tabs_of Y _ (by clear Y; revert q; decide)) ?Tab ?F
 case Tab=>intro w q hq;cases Zym.mp hq;exact⟨by kernel_rfl,by kernel_rfl⟩
 case F =>
  intro w mg fa h KX G hmg;have fx0:HP.FX:=HP.FX0;have T:HT.ZwH KX mg:=by
   refine⟨?_,?_,?_,?_,?_,?_,?_,?_,?_,?_,?_,?_,?_,?_,?_,?_⟩
   all_goals first
    | (refine PySem.W.mg_none_of KX G ?z; (case z=>k_is))
    | (refine' HT.int_mk (ZBf KX G ?z) ?e; (case z=>k_is); (case e=>exact⟨_,rfl⟩))
  have Dd:HT.Zxo KX mg:=by
   refine⟨?_,?_,?_,?_,?_,?_,?_,?_,?_,?_,?_,?_,?_,?_,?_,?_,?_,?_,?_,?_,?_,?_,?_,?_,?_,?_,?_,?_,?_,?_,?_,?_,?_,?_,?_,?_,?_,?_,?_,?_,?_,?_,?_,?_,?_,?_,?_,?_,?_,?_⟩
   all_goals first
    | (refine' HT.Zwp KX G ?a ?l ?c ?k ?b; (case a=>k_is); (case l=>k_is); (case c=>k_is); (case k=>k_is); (case b=>first | exact λ_ _ _ _ _ _ us hl=>(match us,hl with | [_],_=>rfl) | exact λ_ _ _ _ _ _ us hl=>(match us,hl with | [_,_],_=>rfl) | exact λ_ _ _ _ _ _ us hl=>(match us,hl with | [_,_,_],_=>rfl) | exact λ_ _ _ _ _ _ us hl=>(match us,hl with | [_,_,_,_],_=>rfl)))
    | (refine' HT.ZuX KX G ?a ?l ?c ?k ?b ?e ?h; (case a=>k_is); (case l=>k_is); (case c=>k_is); (case k=>k_is); (case h=>kernel_rfl); (case e=>exact rfl); (case b=>first | exact λ_ _ _ _ _ _ us hl=>(match us,hl with | [_],_=>rfl) | exact λ_ _ _ _ _ _ us hl=>(match us,hl with | [_,_],_=>rfl) | exact λ_ _ _ _ _ _ us hl=>(match us,hl with | [_,_,_],_=>rfl) | exact λ_ _ _ _ _ _ us hl=>(match us,hl with | [_,_,_,_],_=>rfl)))
    | (refine' HT.ZvZ KX G ?z; (case z=>k_is))
  refine' HT.all_mk KX G hmg T Dd ?a4 ?l4 ?c4 ?k4
  (case a4=>k_is); (case l4=>k_is); (case c4=>k_is); (case k4=>k_is)