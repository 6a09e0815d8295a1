import PyProof.Rows.All
import Wide.All
import OpenK.AllK
import Wide.FinOn
import Lean
import PyProof.EqAt
import PyProof.EqKinds
import PyProof.TupleCall
import PyProof.P3Statements
import PyProof.P3Eq
import PyProof.NeData
import PyProof.IsiPairs
import PyProof.IsiHeapPairs
import KE.LcSums
import PyProof.IsiNone
import PyProof.DictRoadsH
import PyProof.Rows.SetFrom
import PyProof.DictWalks
import PyProof.Rows.MinMaxN
import PyProof.Rows.SumAny
import PyProof.WalkInts
import PySem.Challenge.RW_halfseen_k13_whole_a_foe_keeps_in
set_option Elab.async false
set_option linter.all false
set_option maxRecDepth 100000
open PySem renaming wpAny_bind->ZxQ,wpAny_pure->ZxV,starEach->Zx6,mainGlobals->Zyz,bootBuiltins->ZyN,wpAny_newObj_type->ZyQ,compareOp->ZyY,wpAny_holding->Zy0,wpAny_mono->Zy3,behindInMarks->Zy4,codeAny_builtin->Zy9,wpAny_call_entry->Zzb,sizeLine_eq->Zzc,foldedSetIterable->Zzh,mem_of_lookup->Zzk,sysModules->Zzl,lookup_relabel_local->ZzK,wpAny_truthy_bool->ZzM,wpAny_typeNameOfWhole_keyiter->ZzN,assignEach->ZzQ,codeAny_mono->ZzS,wpAny_Call_Name_kw->ZzT,wpAny_passesOwn->ZzU,wpAny_ite_split->ZzX,plainId_quiet->Zz0,swapsWith->Zz6,wpAny_typeNameOf_keyiter->ZAb,attributeBase->ZAk,tupleKind_room_in1->ZAl,wpAny_askSetting->ZAx,sliceBounds->ZAz,wpAny_setField->ZAP,wpAny_tryCatch->ZAQ,wpAny_dictEntries->ZAT,wpAny_setState_of->ZAV,binaryOp->ZA6,tupleKind->ZA9,wpAny_execs_nil->ZBc,letOwnedTupleGo->ZBd,wpAny_newFunctionEnv->ZBh,wpAny_setEntries_of->ZBk,wpAny_fieldsOf->ZBo,firstArgMember->ZBp,keywordEach->ZBr,codeAmong->ZBv,wpAny_attempt->ZBB,wpAny_pyIter_list->ZBG,wpAny_pyIter_slot->ZBI,builtinsNs->ZBL,call_meets->ZBM,intKind_is->ZBO,wpAny_isInstance->ZBW,pickOrder->ZB4,wpAny_dictEpoch->ZB5,wpAny_updateSeq->ZB7,subscripted->ZCb,wpAny_of_eq->ZCc,wpAny_letGo->ZCd
open PySem.W renaming Frag->ZxR,fnOf->Zy6,keepIn->Zzd,codeHdIn->Zzt,codeIn->ZzO,nsIn->ZAc,tabObj->ZAt,envX->ZAJ,mg_of->ZA5,kla_obj->ZBi,methodObj->ZBF,OpenLaw->ZB8,cellsFrom_some->ZCa,codeHd_of_K->ZCw,callWith_K->ZCz,FnAt->ZCB
open List renaming length_map->ZxS,mem_cons_self->ZxU,mem_cons_of_mem->ZxW,map_cons->ZxY,range->ZxZ,all_eq_true->Zx0,mem_map->Zx3,getElem?_eq_some_iff->Zx4,getElem?_eq_getElem->Zx5,length_cons->Zx8,size_toArray->Zya,mem_singleton->Zyb,length_append->Zyc,mem_cons->Zye,map_map->Zyg,mem_range->Zyh,getElem?_map->Zyk,mem_of_getElem?->Zym,mem_append_right->Zyn,getElem?_set_ne->Zyo,replicate->Zyp,mem_append->Zyq,map_append->Zyr,mem_filter->Zyt,append_nil->Zyu,getElem?_cons_succ->Zyw,getElem?_append_right->ZyA,length->ZyB,length_replicate->ZyC,pairwise_cons->ZyD,getElem?_append_left->ZyE,getElem?_set_self->ZyF,find?_cons->ZyH,nodup_cons->ZyL,any_eq_true->ZyM,mem_append_left->ZyT,length_set->Zy1,filterMap_cons->Zy2,all_cons->Zy5,length_singleton->Zy7,length_filter_le->Zy8,mem_filterMap->Zza,getD->Zzj,length_take->Zzp,getElem_mem->Zzq,append_assoc->Zzv,replicate_succ->Zzw,map_congr_left->Zzx,any_cons->ZzA,lookup_cons->ZzB,nodup_nil->ZzE,map_nil->ZzI,contains_eq_mem->ZzL,filter_cons->ZzP,foldl_cons->ZzV,nil_append->ZzW,flatten_cons->Zz1,length_range->Zz2,nodup_append->Zz3,mem_flatMap->Zz9,getElem?_replicate->ZAf,getElem?_cons_zero->ZAg,filter_eq_nil_iff->ZAn,eq_nil_of_length_eq_zero->ZAo,set_getElem_self->ZAr,length_drop->ZAu,getElem_of_mem->ZAA,mergeSort_perm->ZAB,filter_eq_self->ZAC,length_pos_iff->ZAD,drop_eq_getElem_cons->ZAE,mem_of_find?_eq_some->ZAG,pairwise_mergeSort->ZAS,min?_eq_some_iff->ZBb,set_set->ZBe,map_eq_nil_iff->ZBl,map->ZBm,ne_nil_of_mem->ZBz,exists_cons_of_ne_nil->ZBE,find?_append->ZBH,find?_isSome->ZBK,pairwise_iff_getElem->ZBN,getElem?_take_of_lt->ZBR,set_eq_of_length_le->ZBS,drop_length->ZBT,cons_append->ZBY,length_filterMap_le->ZBZ,filter_cons_of_pos->ZB0,filter_cons_of_neg->ZB1,of_mem_zip->ZB2,filter_map->ZB9,pairwise_lt_range->ZCe,getElem?_eq_none->ZCf,max?_eq_some_iff->ZCk,dropLast_eq_take->ZCl,min?_eq_none_iff->ZCm,max?_eq_none_iff->ZCn,all_nil->ZCC
open Option renaming map_eq_some_iff->ZxT,isSome_iff_exists->Zys,isSome_map->Zzi,map->Zzo,isSome->ZAy,bind_eq_some_iff->ZAR
open PySem.Heap renaming get?_push_of_some->ZxX,lt_size->Zx7,get?_push_size->Zx9,get?_update_self->ZyZ,get?_update_other->Zze,SameBut->ZzH,size_push->ZAs,get?_push_ne->ZAY,size_update->ZA8
open PySem.SetTable renaming below->Zx1,insertAt->Zyi,insertAt_perm->Zzy,tooFull->ZAw,toList_insertAt->ZAI,fits->ZA2,fill->ZA3,turns->ZCg,bits->ZCr
open Nat renaming le_refl->Zx2,ne_of_lt->Zyf,lt_of_lt_of_le->Zyl,le_trans->ZyG,zero_le->Zzu,lt_irrefl->Zzz,le_of_lt->ZzG,lt_trans->ZzJ,lt_succ_self->Zz8,lt_succ_of_lt->ZAq,le_of_not_lt->ZAv,ne_of_gt->ZAH,blt_eq->ZAN,le_of_eq->ZBg,min_le_left->ZB3
open Bool renaming and_eq_true->Zyd,false_ne_true->Zyy,or_eq_true->Zzm,false_eq_true->ZzF,eq_iff_iff->ZAF,false_or->ZCq,true_and->ZCt
open Array renaming length_toList->Zyj,getElem?_toList->ZyJ,getD->ZzR,toList_push->Zz4,getElem?_eq_getElem->Zz5,getElem?_eq_none->ZA0,perm_iff_toList_perm->ZBC
open PySem.PyData renaming tuple->Zyv,int->ZyI,eqv->ZyW,bool->Zzg,canLayAll0->ZAp,depthAll->ZBj,list->ZBs,eqvAll->ZBD,dict->ZCE
open Or renaming inr->Zyx,inl->ZyP
open Option.some renaming inj->ZyK
open PySem.Value renaming ref->ZyO,none->ZyS,int->ZzD,type->ZAK
open Ne renaming symm->ZyR
open False renaming elim->ZyU
open PySem.Around renaming under_plainId->ZyV,frames_deeper->ZCo
open PySem.Heap.SameBut renaming update->ZyX,refl->ZCD
open PySem.F renaming plain_min_loop->Zzf,called_set->Zzr,plainAttrs_list->ZAh,plain_list_iadd->ZAi,entry_min_loop->ZA1,slot_dict_setdefault->ZBn,plain_proto_collect->ZBx,slot_list_append->ZBU,type_list_append->ZBV,plain_set_new->ZCh,slot_set_iter->ZCi
open List.Nodup renaming length_le_of_subset->Zzn
open PySem.Obj renaming data_mapFields->Zzs,mapSeq->ZAL,putSet->ZAO,isFreed_of_fields->ZBa,cls_mapFields->ZBJ,mapFields->ZCs
open Sum renaming inl->ZzC,inr->ZBQ
open PyProof.Rows.KeyOrd renaming kle_of_not_klt->ZzY,kle_refl->ZAm,kle_of_klt->ZAX,kle_trans->ZA7,kle_antisymm->ZCu
open PySem.NameKind renaming free->ZzZ
open PySem.Builtin.List renaming listTooLong->Zz7,listLengthHint->ZBw,listExtendWith->ZBy
open PySem.Str renaming ofString->ZAa
open Int renaming toNat_of_nonneg->ZAd,toNat_natCast->ZAW
open PySem.Builtin.Range renaming rangeSize->ZAe,small->ZCv
open PySem.Paired renaming length->ZAj
open True renaming intro->ZAM
open PySem.SetTable.below renaming go->ZAU
open PySem.Calls renaming callWith_builtin->ZAZ,spliced_cons->ZBu,Name_function_global->ZBA,call_function_entry->ZBP,evalArgs_plain->ZCp
open Function renaming comp->ZA4
open ForInStep renaming yield->ZBf
open PySem.Builtin.Dict_items renaming ownsTuple->ZBq
open PyProof.Rows renaming callWith_type1->ZBt,entry_list_sort->ZB6
open PySem.Builtin.Tuple renaming tupleExact->ZBX
open PySem.Builtin.Dict renaming showsAll->ZCj
open PySem.SeqAt.EqAt renaming int_str->ZCx,str_int->ZCy
open PySem.Expr renaming Call->ZCA
namespace L2
open PySem PySem.Spec PyProof.Rows
abbrev Key:=Sum Int Str
def ZhQ:Key->Value->Bool
 | .inl k,v=>Value.isInt k v
 | .inr x,v=>Value.isStrOf x v
def Zxi(w:World):Key->Int
 | .inl k=>hashInt k
 | .inr x=>hashStr w x
theorem Zbh:∀{k:Key} {v:Value},ZhQ k v=true->(∃i t,k=ZzC i/\v=ZzD i t)\/(∃x t,k=ZBQ x/\v=Value.str x t)
 | .inl i,v,h=>by obtain⟨t,e⟩:=Value.isInt_shape (k:=i) (v:=v) h;exact .inl ⟨i,t,rfl,e⟩
 | .inr x,v,h=>by obtain⟨t,e⟩:=Value.isStrOf_shape (x:=x) (v:=v) h;exact .inr ⟨x,t,rfl,e⟩
theorem Zr1(i:Int)(t:Tok):ZhQ (.inl i) (.int i t)=true:=by simp[ZhQ,Value.isInt]
theorem ZrG(x:Str)(t:Tok):ZhQ (.inr x) (.str x t)=true:=by simp[ZhQ,Value.isStrOf]
theorem Zvw(a b:Int):decide ((ZzC a:Key)=ZzC b)=(a==b):=by
 by_cases e:a=b
 ·subst e; simp
 ·have h:¬(ZzC a:Key)=ZzC b:=λq=>e (Sum.inl.inj q)
  rw[decide_eq_false h];exact(beq_eq_false_iff_ne.mpr e).symm
theorem Zwe(a b:Str):decide ((ZBQ a:Key)=ZBQ b)=decide (a=b):=by
 by_cases e:a=b
 ·subst e; simp
 ·have h:¬(ZBQ a:Key)=ZBQ b:=λq=>e (Sum.inr.inj q)
  rw[decide_eq_false h,decide_eq_false e]
theorem Zvu(a:Int)(b:Str):decide ((ZzC a:Key)=ZBQ b)=false:=decide_eq_false (λq=>nomatch q)
theorem ZvK(a:Str)(b:Int):decide ((ZBQ a:Key)=ZzC b)=false:=decide_eq_false (λq=>nomatch q)
def ZaN(prog:Program)(w:World):PySem.KeyKind prog w Key where
 is:=ZhQ
 hash:=Zxi w
 inj:=λv a b ha hb=>by
  rcases Zbh ha with⟨i,t,rfl,rfl⟩ | ⟨x,t,rfl,rfl⟩
  ·rcases Zbh hb with⟨j,u,rfl,e⟩ | ⟨y,u,rfl,e⟩
   ·injection e with e1 _; rw[e1]
   ·exact nomatch e
  ·rcases Zbh hb with⟨j,u,rfl,e⟩ | ⟨y,u,rfl,e⟩
   ·exact nomatch e
   ·injection e with e1 _; rw[e1]
 byValue:=λk v h=>by rcases Zbh h with⟨i,t,rfl,rfl⟩ | ⟨x,t,rfl,rfl⟩<;>rfl
 pyHash:=λhv h=>by
  rcases Zbh hv with⟨i,t,rfl,rfl⟩ | ⟨x,t,rfl,rfl⟩
  ·exact wpAny_pyHash_int h
  ·exact wpAny_pyHash_str h
 eqBool:=λhu hv h=>by
  rcases Zbh hu with⟨i,t,rfl,rfl⟩ | ⟨x,t,rfl,rfl⟩
  ·rcases Zbh hv with⟨j,u,rfl,rfl⟩ | ⟨y,u,rfl,rfl⟩
   ·rw[Zvw]at h; exact wpAny_eqBool_int h
   ·rw[Zvu]at h; exact ZCx i t y u _ _ _ _ h
  ·rcases Zbh hv with⟨j,u,rfl,rfl⟩ | ⟨y,u,rfl,rfl⟩
   ·rw[ZvK]at h; exact ZCy x t j u _ _ _ _ h
   ·rw[Zwe]at h; exact wpAny_eqBool_str h
 «strs»:=λk x t v h=>by
  rcases Zbh h with⟨i,u,rfl,e⟩ | ⟨y,u,rfl,e⟩
  ·exact nomatch e
  ·injection e with e1 _
   subst e1;cases v<;>rfl
theorem ZqM(prog:Program)(w:World)(k:Key)(v:Value):(ZaN prog w).is k v=ZhQ k v:=rfl
theorem ZoY(prog:Program)(w:World)(i:Int)(t:Tok):(ZaN prog w).is (.inl i) (.int i t)=true:=Zr1 i t
theorem Zo0(prog:Program)(w:World)(x:Str)(t:Tok):(ZaN prog w).is (.inr x) (.str x t)=true:=ZrG x t
end L2
namespace L2
open PySem PySem.Spec PyProof.Rows
inductive V where
 | non | bl (b:Bool) | int (i:Int) | str (x:Str) | byt (b:Array UInt8) | flt (b:UInt64) | ref (a:Addr) | ty (n:String)
 deriving DecidableEq
def RelV:V->Value->Prop
 | .non,u=>u=ZyS
 | .bl b,u=>u=Value.bool b
 | .int i,u=>∃t,u=ZzD i t
 | .str x,u=>∃t,u=Value.str x t
 | .byt b,u=>∃t,u=Value.bytes b t
 | .flt b,u=>∃t,u=Value.float b t
 | .ref a,u=>u=ZyO a
 | .ty n,u=>u=ZAK n
abbrev Vals:List V->List Value->Prop:=Paired RelV
theorem Vals.length{xs:List V}{us:List Value}(r:Vals xs us):xs.length=us.length:=ZAj r
theorem Vals.get:∀{xs:List V} {us:List Value} {i:Nat} {x:V},Vals xs us->xs[i]?=some x->∃u,us[i]?=some u/\RelV x u
 | _,_,_,_,.nil,e=>by simp at e
 | _,_,0,_,.cons r _,e=>by simp at e; subst e; exact⟨_,rfl,r⟩
 | _,_,i+1,x,.cons _ t,e=>by obtain⟨u,h1,h2⟩:=Vals.get (i:=i) (x:=x) t (by simpa using e);exact⟨u,by simpa using h1,h2⟩
theorem Vals.set{x:V}{u:Value}(r:RelV x u):∀{xs:List V} {us:List Value} (i:Nat),Vals xs us->Vals (xs.set i x) (us.set i u)
 | _,_,_,.nil=>.nil
 | _,_,0,.cons _ t=>.cons r t
 | _,_,i+1,.cons q t=>.cons q (Vals.set r i t)
theorem Vals.append:∀{xs ys:List V} {us ws:List Value},Vals xs us->Vals ys ws->Vals (xs++ys) (us++ws)
 | _,_,_,_,.nil,s=>s
 | _,_,_,_,.cons r t,s=>.cons r (Vals.append t s)
theorem Vals.take:∀{xs:List V} {us:List Value} (n:Nat),Vals xs us->Vals (xs.take n) (us.take n)
 | _,_,0,_=>.nil
 | _,_,_+1,.nil=>.nil
 | _,_,n+1,.cons r t=>.cons r (Vals.take n t)
theorem Vals.drop:∀{xs:List V} {us:List Value} (n:Nat),Vals xs us->Vals (xs.drop n) (us.drop n)
 | _,_,0,r=>r
 | _,_,_+1,.nil=>.nil
 | _,_,n+1,.cons _ t=>Vals.drop n t
def ZgJ:Option V->Option Value->Prop
 | some v,some u=>RelV v u
 | none,none=>True
 | _,_=>False
def KV{κ:Type}:List (κ × V)->List (κ × Value)->Prop:=Paired λ(p:κ × V) (q:κ × Value)=>p.1=q.1/\RelV p.2 q.2
def kV:Key->V
 | .inl i=>.int i
 | .inr x=>.str x
inductive HO where
 | lst (xs:List V)
 | tup (xs:List V)
 | dK (kvs:List (Key × V)) | dT (kvs:List (List Key × V))
 | set (S:Int->Bool) (n:Nat)
 | ins (C dx:Addr) (fs:List (Str × V))
 | own (x:Addr)
 | xd (fs:List (Str × V))
 | met (f x:Addr)
 | rng (lo hi:Int)
 | frz (o:Obj) (u:HO)
 | tbl (ps:Array Value)
 | ext (φ:Heap->Prop)
abbrev Hp:=Addr->Option HO
def upd(H:Hp)(a:Addr)(o:HO):Hp:=λb=>if b=a then some o else H b
theorem ZF{H:Hp}{a:Addr}{o:HO}:upd H a o a=some o:=by unfold upd; rw[if_pos rfl]
theorem ZA{H:Hp}{a b:Addr}{o:HO}(h:b≠a):upd H a o b=H b:=by unfold upd; rw[if_neg h]
theorem ZtJ{H:Hp}{a b:Addr}{o u:HO}(h:H a=some o)(h':H b=some u)(d:o≠u):a≠b:=by intro e; subst e; rw[h]at h'; exact d (ZyK h')
theorem Zaw{H:Hp}{a b:Addr}{o:HO}(h:H a=some o)(h':H b=none):a≠b:=by intro e; subst e; rw[h]at h'; cases h'
section
variable(P:Program)(w:World)
def Zab(H:Hp)(h:Heap)(a:Addr):HO->Prop
 | .lst xs=>xs.length<=sizeLine/\∃(its:List Value) (n:Nat),Vals xs its/\h.get? a=some { cls:=.type "list",data:=.seq its.toArray n }
 | .tup xs=>xs.length<=sizeLine/\∃its:List Value,Vals xs its/\IsTup h a its.toArray
 | .dK kvs=>kvs.length<=sizeLine/\(a==Zzl)=false/\∃vs,KV kvs vs/\h.DictOf (ZaN P w) a vs
 | .dT kvs=>kvs.length<=sizeLine/\(a==Zzl)=false/\∃xs:List (List Key × Addr × Value),
   Paired (λ(p:List Key × V) (q:List Key × Addr × Value)=>p.1=q.1/\H q.2.1=some (.tup (p.1.map kV))/\RelV p.2 q.2.2) kvs xs /\
   ∃o es ep,h.get? a=some o/\o.ExactDict/\o.data=.dict es ep/\es.toList=xs.map (entryOfKey (ZA9 (ZaN P w)))/\(xs.map (·.1)).Nodup
 | .set S n=>h.SetOf (intKind P w) a S n
 | .ins C dx fs=>H dx=some (.own a)/\fs.length<=1000/\dx≠a/\h.get? a=some (PySem.W.instObj C dx) /\
   ∃mA,h.Ns1 dx mA/\(∀f,ZgJ (fs.lookup f) (mA f))/\PySem.Within mA (fs.map (·.1))
 | .own _=>∃o,h.get? a=some o
 | .xd fs=>∃mA,h.Ns1 a mA/\∀f,ZgJ (fs.lookup f) (mA f)
 | .rng lo hi=>∃t u v,h.get? a=some { cls:=.type "range",data:=.fields #[.int lo t,.int hi u,.int 1 v] }
 | .frz o u=>h.get? a=some o/\Zab H h a u
 | .tbl ps=>h.get? a=some { cls:=.none,data:=.fields ps }
 | .met f x=>h.get? a=some (ZBF (.ref f) (.ref x))
 | .ext φ=>φ h/\(∃o,h.get? a=some o)/\∀h1 h2:Heap,φ h1->(∀o,h1.get? a=some o->h2.get? a=some o)->φ h2
def HOk(H:Hp)(h:Heap):Prop:=∀a o,H a=some o->Zab P w H h a o
end
section
variable{P:Program}{w:World}{H H':Hp}{h h':Heap}{a:Addr}{o:HO}
theorem Zab.lt(x:Zab P w H h a o):a<h.objs.size:=by
 cases o with
 | lst xs=>obtain⟨_,_,_,_,e⟩:=x; exact Zx7 e
 | tup xs=>obtain⟨_,_,_,p⟩:=x; exact p.lt
 | dK kvs=>obtain⟨_,_,_,_,o,_,_,e,_⟩:=x; exact Zx7 e
 | dT kvs=>obtain⟨_,_,_,_,o,_,_,e,_⟩:=x; exact Zx7 e
 | set S n=>obtain⟨o,_,_,_,e,_⟩:=x; exact Zx7 e
 | ins C dx fs=>obtain⟨_,_,_,e,_⟩:=x; exact Zx7 e
 | own y=>obtain⟨_,e⟩:=x; exact Zx7 e
 | xd fs=>obtain⟨_,⟨_,_,_,e,_⟩,_⟩:=x; exact Zx7 e
 | rng lo hi=>obtain⟨_,_,_,e⟩:=x; exact Zx7 e
 | frz ob u=>obtain⟨e,_⟩:=x; exact Zx7 e
 | tbl ps=>exact Zx7 (show h.get? a=some _ from x)
 | met f y=>exact Zx7 (show h.get? a=some _ from x)
 | ext φ=>obtain⟨_,⟨_,e⟩,_⟩:=x; exact Zx7 e
theorem Paired.mapP{α β:Type}{F G:α->β->Prop}:∀{l₁:List α} {l₂:List β},Paired F l₁ l₂->(∀a b,F a b->G a b)->Paired G l₁ l₂
 | _,_,.nil,_=>.nil
 | _,_,.cons r t,f=>.cons (f _ _ r) (Paired.mapP t f)
theorem Zab.stay(x:Zab P w H h a o)(k:∀b u,(b=a\/H b=some (.own a))->h.get? b=some u->h'.get? b=some u)
  (ho:∀b,H b=some (.own a)->H' b=some (.own a)) (ht:∀b xs,H b=some (.tup xs)->H' b=some (.tup xs)):Zab P w H' h' a o:=by
 induction o with
 | lst xs=>obtain⟨z,its,n,r,e⟩:=x; exact⟨z,its,n,r,k _ _ (.inl rfl) e⟩
 | tup xs=>obtain⟨z,its,r,ob,e,c⟩:=x; exact⟨z,its,r,ob,k _ _ (.inl rfl) e,c⟩
 | dK kvs=>obtain⟨z,y,vs,r,ob,es,ep,e,c⟩:=x; exact⟨z,y,vs,r,ob,es,ep,k _ _ (.inl rfl) e,c⟩
 | dT kvs=>obtain⟨z,y,xs,r,ob,es,ep,e,c⟩:=x;exact⟨z,y,xs,Paired.mapP r λp q z=>⟨z.1,ht _ _ z.2.1,z.2.2⟩,ob,es,ep,k _ _ (.inl rfl) e,c⟩
 | set S n=>obtain⟨ob,es,ep,t,e,c⟩:=x; exact⟨ob,es,ep,t,k _ _ (.inl rfl) e,c⟩
 | ins C dx fs=>obtain⟨d,z,ne,e,mA,⟨od,es,ep,e2,c⟩,r⟩:=x;exact⟨ho _ d,z,ne,k _ _ (.inl rfl) e,mA,⟨od,es,ep,k _ _ (.inr d) e2,c⟩,r⟩
 | own y=>obtain⟨ob,e⟩:=x; exact⟨ob,k _ _ (.inl rfl) e⟩
 | xd fs=>obtain⟨mA,⟨od,es,ep,e,c⟩,r⟩:=x; exact⟨mA,⟨od,es,ep,k _ _ (.inl rfl) e,c⟩,r⟩
 | rng lo hi=>obtain⟨t,u,v,e⟩:=x; exact⟨t,u,v,k _ _ (.inl rfl) e⟩
 | frz ob u ih=>obtain⟨e,q⟩:=x; exact⟨k _ _ (.inl rfl) e,ih q⟩
 | tbl ps=>have e:h.get? a=some { cls:=.none,data:=.fields ps }:=x;show h'.get? a=some { cls:=.none,data:=.fields ps };exact k a _ (.inl rfl) e
 | met f y=>have e:h.get? a=some (ZBF (.ref f) (.ref y)):=x;show h'.get? a=some (ZBF (.ref f) (.ref y));exact k a _ (.inl rfl) e
 | ext φ=>obtain⟨p,⟨o,e⟩,st⟩:=x; exact⟨st _ _ p λo q=>k _ _ (.inl rfl) q,⟨o,k _ _ (.inl rfl) e⟩,st⟩
theorem HOk.lt(x:HOk P w H h)(e:H a=some o):a<h.objs.size:=(x a o e).lt
theorem HOk.fresh(x:HOk P w H h)(e:h.objs.size<=a):H a=none:=by
 cases q:H a with
 | none=>rfl
 | some u=>exact absurd (Zyl (x.lt q) e) (Zzz _)
theorem HOk.kept(x:HOk P w H h)(k:∀b u,h.get? b=some u->h'.get? b=some u):HOk P w H h':=λa o e=>(x a o e).stay (λb u _ q=>k b u q) (λ_ q=>q) λ_ _ q=>q
theorem HOk.laid(x:HOk P w H h)(k:∀b u,h.get? b=some u->h'.get? b=some u)(hp:h.objs.size<=a)(new:Zab P w (upd H a o) h' a o):HOk P w (upd H a o) h':=λb u e=>by
 have hn:=x.fresh hp
 by_cases hb:b=a
 ·subst hb; rw[ZF]at e; cases e; exact new
 ·rw[ZA hb]at e
  exact(x b u e).stay (λc v _ q=>k c v q) (λc q=>by rw[ZA (Zaw q hn)]; exact q) λc xs q=>by rw[ZA (Zaw q hn)]; exact q
end
def Rd(H:Hp)(a:Addr)(u:HO):Prop:=H a=some u\/∃o,H a=some (.frz o u)
theorem Rd.ok{P:Program}{w:World}{H:Hp}{h:Heap}{a:Addr}{u:HO}(r:Rd H a u)(x:HOk P w H h):Zab P w H h a u:=by
 rcases r with r | ⟨o,r⟩
 ·exact x a u r
 ·obtain⟨_,q⟩:=x a _ r
  exact q
def Mut:Option HO->Prop
 | some (.lst _)=>True
 | some (.dK _)=>True
 | some (.dT _)=>True
 | some (.set _ _)=>True
 | some (.ins _ _ _)=>True
 | some (.ext _)=>True
 | _=>False
section
variable{P:Program}{w:World}{H:Hp}{h h':Heap}{x e:Addr}{o':HO}
theorem HOk.write(ok:HOk P w H h)(mu:Mut (H x))(he:e=x\/H e=some (.own x))(k:∀b u,b≠e->h.get? b=some u->h'.get? b=some u)(heo:∃u,h'.get? e=some u)
  (new:Zab P w (upd H x o') h' x o'):HOk P w (upd H x o') h':=λb u q=>by
 have nown:∀c y,H c=some (.own y)->c≠x:=λc y r z=>by subst z; rw[r]at mu; exact mu
 have ntup:∀c xs,H c=some (.tup xs)->c≠x:=λc xs r z=>by subst z; rw[r]at mu; exact mu
 by_cases hb:b=x
 ·subst hb; rw[ZF]at q; cases q; exact new
 ·rw[ZA hb]at q
  by_cases hbe:b=e
  ·have q':H b=some (.own x):=by
    rcases he with z | z
    ·exact absurd (hbe.trans z) hb
    ·rw[hbe]; exact z
   rw[q]at q'; cases q';obtain⟨v,hv⟩:=heo;exact⟨v,by rw[hbe]; exact hv⟩
  ·refine(ok b u q).stay (λc v hc r=>k c v ?_ r) (λc r=>by rw[ZA (nown c b r)]; exact r) λc xs r=>by rw[ZA (ntup c xs r)]; exact r
   rcases hc with rfl | hc
   ·exact hbe
   ·rintro rfl
    rcases he with z | z
    ·exact nown c b hc z
    ·rw[hc]at z; cases z; exact hb rfl
end
structure Un(fs ex:List Addr)(H H':Hp)(h h':Heap):Prop where
 keep:∀b o,h.get? b=some o->H b=none->b ∉ fs->b ∉ ex->h'.get? b=some o
 slot:∀b o,h.get? b=some o->H b=none->b∈fs->b ∉ ex->∃sl,h'.get? b=some { o with slots:=sl }
 free:∀b o,h.get? b=some o->H b=none->b ∉ ex->H' b=none
 there:∀b o,h.get? b=some o->b ∉ ex->∃o',h'.get? b=some o'
 tups:∀b xs,H b=some (.tup xs)->H' b=some (.tup xs)
 frzs:∀b o u,H b=some (.frz o u)->H' b=some (.frz o u)
 tbls:∀b ps,H b=some (.tbl ps)->∃more,H' b=some (.tbl (ps++more))
section
variable{fs fs' ex ex':List Addr}{H H1 H2:Hp}{h h1 h2 h':Heap}{a x e:Addr}{o:HO}
theorem Un.any(u:Un fs ex H H1 h h1){b:Addr}{ob:Obj}(q:h.get? b=some ob)(n:H b=none)(hx:b ∉ ex):∃sl,h1.get? b=some { ob with slots:=sl }:=by
 by_cases hb:b∈fs
 ·exact u.slot b ob q n hb hx
 ·exact⟨ob.slots,u.keep b ob q n hb hx⟩
theorem Un.kept(k:∀b u,h.get? b=some u->h'.get? b=some u):Un fs ex H H h h' :=
 ⟨λb ob q _ _ _=>k b ob q,λb ob q _ _ _=>⟨ob.slots,k b ob q⟩,λ_ _ _ n _=>n,λb ob q _=>⟨ob,k b ob q⟩,λ_ _ q=>q,λ_ _ _ q=>q,λ_ ps q=>⟨#[],by rw[q]; simp⟩⟩
theorem Un.refl:Un fs ex H H h h:=Un.kept λ_ _ q=>q
theorem Un.laid(k:∀b u,h.get? b=some u->h'.get? b=some u)(hp:h.objs.size<=a)(hn:H a=none):Un fs ex H (upd H a o) h h' where
 keep:=λb u q _ _ _=>k b u q
 slot:=λb u q _ _ _=>⟨u.slots,k b u q⟩
 free:=λb u q n _=>by rw[ZA (Zyf (Zyl (Zx7 q) hp))]; exact n
 there:=λb u q _=>⟨u,k b u q⟩
 tups:=λb xs q=>by rw[ZA (Zaw q hn)]; exact q
 frzs:=λb u xs q=>by rw[ZA (Zaw q hn)]; exact q
 tbls:=λb ps q=>⟨#[],by rw[ZA (Zaw q hn),q]; simp⟩
theorem Un.write(mu:Mut (H x))(he:e=x\/H e=some (.own x))(k:∀b u,b≠e->h.get? b=some u->h'.get? b=some u)(heo:∃u,h'.get? e=some u):Un fs ex H (upd H x o) h h':=by
 have hx:∀b,H b=none->b≠x:=λb n z=>by subst z; rw[n]at mu; exact mu
 have hb:∀b,H b=none->b≠e:=λb n z=>by
  subst z;rcases he with r | r
  ·exact hx b n r
  ·rw[n]at r; cases r
 have hm:∀b u,H b=some u->¬Mut (some u)->b≠x:=λb u q nm z=>by subst z; rw[q]at mu; exact nm mu
 refine⟨λb u q n _ _=>k b u (hb b n) q,λb u q n _ _=>⟨u.slots,k b u (hb b n) q⟩,λb u q n _=>by rw[ZA (hx b n)]; exact n,λb u q _=>?_,
  λb xs q=>by rw[ZA (hm b _ q λz=>z)]; exact q,λb u xs q=>by rw[ZA (hm b _ q λz=>z)]; exact q,λb ps q=>⟨#[],by rw[ZA (hm b _ q λz=>z),q]; simp⟩⟩
 by_cases hbe:b=e
 ·subst hbe; exact heo
 ·exact⟨u,k b u hbe q⟩
end
def trk(h:Heap)(H:Hp):List Addr:=(ZxZ h.objs.size).filter λa=>(H a).isSome
def ZgP(h:Heap)(H:Hp):Heap:=PySem.W.hideAll h (trk h H)
theorem Zrz(h:Heap)(H:Hp):(ZgP h H).objs.size=h.objs.size:=PySem.W.hideAll_size _ _
theorem ZsT{h:Heap}{H:Hp}{b:Addr}{o:Obj}(e:h.get? b=some o)(n:H b=none):(ZgP h H).get? b=some o :=
 PySem.W.hideAll_get _ e λhm=>by have q:(H b).isSome=true:=(Zyt.mp hm).2;rw[n]at q; simp at q
theorem Zuq{h:Heap}{H:Hp}{b:Addr}{o:Obj}(e:(ZgP h H).get? b=some o):h.get? b=some o/\H b=none:=by
 have e':h.get? b=some o:=PySem.W.of_hideAll (trk h H) e;refine⟨e',?_⟩;cases q:H b with
 | none=>rfl
 | some x=>have hm:b∈trk h H:=Zyt.mpr ⟨Zyh.mpr (Zx7 e'),by simp[q]⟩;have z:(ZgP h H).get? b=none:=PySem.W.hideAll_none (trk h H) hm;rw[z]at e; cases e
end L2
namespace L2
open PySem PySem.Spec PyProof.Rows
structure Mod(K:ZxR)(mg:Str->Option Value)(base:Heap):Prop where
 kin:K.In base
 glob:base.Ns Zyz mg
 blt:∃mb,base.Ns ZBL mb/\∀x:Str,x ≠ "__name__"->mb x=ZyN x
 nolimit:base.NoLimit
structure Cx where
 prog:Program
 w:World
 K:ZxR
 mg:Str->Option Value
 base:Heap
 A:Around
 N:List Str
 s₀:Shared
 H₀:Hp
 env:Env
 outer:List Env
 stack:List Env
 ex:List Addr
 fn:Str->Bool
 calm:Bool
 pn:List (Addr × Obj)
 xe:Value->Shared->Prop
def frs(l:List Env):List Addr:=l.filterMap (·.frame)
abbrev Cx.fs(X:Cx):List Addr:=frs X.outer
def Vis(sc:Scope)(x:Str):Prop:=sc.names.lookup x=some .local\/sc.names.lookup x=some .cell\/sc.names.lookup x=some .free
def Loc(sc:Scope)(x:Str):Prop:=sc.names.lookup x=some .local\/sc.names.lookup x=some .cell
def Look(env:Env)(h:Heap)(m:Str->Option Value)(x:Str)(u:Value):Prop :=
 (env.kindOf x=some .local/\m x=some u)\/((env.kindOf x=some .cell\/env.kindOf x=some .free)/\∃c,env.cells.lookup x=some c/\h.IsCell c (some u))
structure Cx.Ok(X:Cx):Prop where
 mod:Mod X.K X.mg X.base
 kind:X.env.scope.kind=.function
 glob:X.env.globals=Zyz
 blt:X.env.builtins=ZBL
 above:X.s₀.heap.objs.size<=X.env.locals
 inj:∀x y c,X.env.cells.lookup x=some c->X.env.cells.lookup y=some c->x=y
 has:∀x,(X.env.kindOf x=some .cell\/X.env.kindOf x=some .free)->∃c,X.env.cells.lookup x=some c
 cab:∀x c,X.fn x=true->X.env.cells.lookup x=some c->X.s₀.heap.objs.size<=c
 hd:X.calm=true->X.A.handled=none
 frames:X.A.frames=some X.stack
 stk:X.stack=X.outer\/(X.stack=X.env::X.outer/\X.env.frame=some X.env.locals)
 exf:∀b∈X.ex,b≠X.env.locals/\∀x c,X.env.cells.lookup x=some c->c≠b
 bs:∀b o,X.base.get? b=some o->X.s₀.heap.get? b=some o/\X.H₀ b=none
 bsz:X.base.objs.size<=X.s₀.heap.objs.size
 noex:∀b o,X.base.get? b=some o->b ∉ X.ex
 exfs:∀b∈X.ex,b ∉ X.fs
 funs:X.s₀.heap.FunFrames X.base X.outer
 frf:∀b∈X.fs,X.H₀ b=none
structure Inv(X:Cx)(pins:List (Addr × Obj))(σ:List (Option V))(H:Hp)(s:Shared):Prop where
 ok:X.Ok
 os:s.os=X.s₀.os
 bare:AllBare s.gens
 base:Un X.fs X.ex X.H₀ H X.s₀.heap s.heap
 loc:∃m,s.heap.Ns X.env.locals m/\∀(i:Nat) (x:Str) (v:V),X.N[i]?=some x->σ[i]?=some (some v)->Vis X.env.scope x->∃u,RelV v u/\Look X.env s.heap m x u
 cell:∀x c,X.env.cells.lookup x=some c->∃v,s.heap.IsCell c v
 free:H X.env.locals=none
 freeC:∀x c,X.env.cells.lookup x=some c->H c=none
 pin:∀p∈X.pn++pins,s.heap.get? p.1=some p.2/\H p.1=none/\p.1≠X.env.locals/\p.1 ∉ X.fs/\∀v,p.2.data≠.cell v
 hok:HOk X.prog X.w H s.heap
 len:σ.length=X.N.length
section
variable{X:Cx}{pins:List (Addr × Obj)}{σ:List (Option V)}{H H':Hp}{s:Shared}{h':Heap}
theorem Cx.Ok.nofr(ok:X.Ok){b:Addr}{o:Obj}(e:X.base.get? b=some o):b ∉ X.fs:=λhb=>by have:=(ok.funs.mem hb).1;rw[e]at this; cases this
theorem Inv.bs(I:Inv X pins σ H s):∀b o,X.base.get? b=some o->s.heap.get? b=some o/\H b=none:=λb o e=>⟨I.base.keep b o (I.ok.bs b o e).1 (I.ok.bs b o e).2 (I.ok.nofr e) (I.ok.noex b o e),I.base.free b o (I.ok.bs b o e).1 (I.ok.bs b o e).2 (I.ok.noex b o e)⟩
theorem Inv.bk(I:Inv X pins σ H s):∀b o,X.base.get? b=some o->s.heap.get? b=some o:=λb o e=>(I.bs b o e).1
theorem Inv.mod(I:Inv X pins σ H s):Mod X.K X.mg X.base:=I.ok.mod
theorem Inv.kIn(I:Inv X pins σ H s):X.K.In s.heap:=I.ok.mod.kin.keeps I.bk
theorem Inv.lt(I:Inv X pins σ H s):X.env.locals<s.heap.objs.size:=let ⟨_,hn,_⟩:=I.loc; hn.lt
theorem Inv.sz(I:Inv X pins σ H s):X.s₀.heap.objs.size<=s.heap.objs.size:=ZyG I.ok.above (ZzG I.lt)
theorem Inv.nofs(I:Inv X pins σ H s){a:Addr}(h:s.heap.objs.size<=a):a ∉ X.fs:=λhb=>by obtain⟨_,o,ho,_⟩:=I.ok.funs.mem hb;exact absurd (Zyl (Zx7 ho) (ZyG I.sz h)) (Zzz _)
theorem Inv.cne(I:Inv X pins σ H s):∀x c,X.env.cells.lookup x=some c->c≠X.env.locals:=λx c e z=>by obtain⟨v,o,ho,hd⟩:=I.cell x c e;obtain⟨m,⟨o',es,ep,ho',hd',_⟩,_⟩:=I.loc;rw[z,ho']at ho; cases ho; rw[hd']at hd; cases hd
theorem Inv.funs(I:Inv X pins σ H s):s.heap.FunFrames X.base X.outer:=by
 have all:∀(l:List Env),(∀b∈frs l,b∈X.fs)->X.s₀.heap.FunFrames X.base l->s.heap.FunFrames X.base l:=by
  intro l
  induction l with
  | nil=>intro _ _; trivial
  | cons env r ih=>intro hs hl;obtain⟨hk,⟨L,o,hf,hn,ho,hd⟩,hr⟩:=hl;have hL:L∈X.fs:=hs L (by unfold frs; rw[Zy2,hf]; exact ZxU);obtain⟨sl,e⟩:=I.base.slot L o ho (I.ok.frf L hL) hL λz=>I.ok.exfs L z hL;exact⟨hk,⟨L,_,hf,hn,e,hd⟩,ih (λb hb=>hs b (by unfold frs; rw[Zy2,hf]; exact ZxW _ hb)) hr⟩
 exact all X.outer (λ_ hb=>hb) I.ok.funs
theorem Inv.stack(I:Inv X pins σ H s):s.heap.FunFrames X.base X.stack:=by
 rcases I.ok.stk with e | ⟨e,hf⟩
 ·rw[e]; exact I.funs
 ·rw[e]
  obtain⟨m,hn,_⟩:=I.loc;refine .cons (by rw[I.ok.kind]; decide) hf hn ?_ I.funs;exact Heap.get?_none_of_le (ZyG I.ok.bsz I.ok.above)
theorem Inv.stkSub(I:Inv X pins σ H s):∀b∈frs X.stack,b∈X.env.locals::X.fs:=λb hb=>by
 rcases I.ok.stk with e | ⟨e,hf⟩
 ·rw[e]at hb; exact ZxW _ hb
 ·rw[e]at hb
  unfold frs at hb;rw[Zy2,hf]at hb;exact hb
theorem Inv.stkFree(I:Inv X pins σ H s):∀b∈frs X.stack,H b=none:=λb hb=>by
 rcases Zye.mp (I.stkSub b hb)with e | hb
 ·rw[e]; exact I.free
 ·obtain⟨_,o,ho,_⟩:=I.ok.funs.mem hb
  exact I.base.free b o ho (I.ok.frf b hb) λz=>I.ok.exfs b z hb
theorem Inv.step{g':Array GenState}{t':Nat}{d':Drawn}{ch:List Addr}(I:Inv X pins σ H s)
  (hch:∀b∈ch,(b∈X.ex\/X.s₀.heap.objs.size<=b)/\b≠X.env.locals/\(∀x c,X.env.cells.lookup x=some c->c≠b)/\∀p∈X.pn++pins,p.1≠b)
  (keep:∀b o,b≠X.env.locals->b ∉ X.fs->b ∉ ch->s.heap.get? b=some o->H b=none->h'.get? b=some o)
  (slot:∀b o,b≠X.env.locals->b∈X.fs->b ∉ ch->s.heap.get? b=some o->H b=none->∃sl,h'.get? b=some { o with slots:=sl }) (free:∀b o,b ∉ ch->s.heap.get? b=some o->H b=none->H' b=none)
  (there:∀b o,b ∉ ch->s.heap.get? b=some o->∃o',h'.get? b=some o')
  (tups:∀b xs,H b=some (.tup xs)->H' b=some (.tup xs)) (frzs:∀b o u,H b=some (.frz o u)->H' b=some (.frz o u)) (tbls:∀b ps,H b=some (.tbl ps)->∃more,H' b=some (.tbl (ps++more)))
  (ns:∀m,s.heap.Ns X.env.locals m->h'.Ns X.env.locals m) (hok:HOk X.prog X.w H' h') (hg:AllBare g') :
  Inv X pins σ H' { s with heap:=h',gens:=g',drawn:=d',toks:=t' }:=by
 have neL:∀b o,X.s₀.heap.get? b=some o->b≠X.env.locals:=λb o e=>Zyf (Zyl (Zx7 e) I.ok.above);have neC:∀b o,X.s₀.heap.get? b=some o->b ∉ X.ex->b ∉ ch:=λb o e hx hb=>by
  rcases(hch b hb).1 with z | z
  ·exact hx z
  ·exact absurd (Zyl (Zx7 e) z) (Zzz _)
 have cellK:∀x c,X.env.cells.lookup x=some c->∀v,s.heap.IsCell c v->h'.IsCell c v:=λx c e v ⟨o,ho,hd⟩=>by
  have nch:c ∉ ch:=λz=>(hch c z).2.2.1 x c e rfl
  by_cases hc:c∈X.fs
  ·obtain⟨sl,q⟩:=slot c o (I.cne x c e) hc nch ho (I.freeC x c e)
   exact⟨_,q,hd⟩
  ·exact⟨o,keep c o (I.cne x c e) hc nch ho (I.freeC x c e),hd⟩
 refine⟨I.ok,I.os,hg,⟨λb o e n hb hx=>?_,λb o e n hb hx=>?_,λb o e n hx=>?_,λb o e hx=>?_,λb xs e=>tups b xs (I.base.tups b xs e),λb o xs e=>frzs b o xs (I.base.frzs b o xs e),λb ps e=>?_⟩,?_,λx c e=>?_,?_,λx c e=>?_,λp hp=>?_,hok,I.len⟩
 ·exact keep b o (neL b o e) hb (neC b o e hx) (I.base.keep b o e n hb hx) (I.base.free b o e n hx)
 ·obtain⟨sl,e1⟩:=I.base.slot b o e n hb hx
  obtain⟨sl',e2⟩:=slot b _ (neL b o e) hb (neC b o e hx) e1 (I.base.free b o e n hx);exact⟨sl',e2⟩
 ·obtain⟨o',e1⟩:=I.base.there b o e hx
  exact free b o' (neC b o e hx) e1 (I.base.free b o e n hx)
 ·obtain⟨o',e1⟩:=I.base.there b o e hx
  exact there b o' (neC b o e hx) e1
 ·obtain⟨m1,e1⟩:=I.base.tbls b ps e
  obtain⟨m2,e2⟩:=tbls b _ e1;exact⟨m1++m2,by rw[e2,Array.append_assoc]⟩
 ·obtain⟨m,hn,hl⟩:=I.loc
  refine⟨m,ns m hn,λi x v e1 e2 e3=>?_⟩;obtain⟨u,r,l⟩:=hl i x v e1 e2 e3;refine⟨u,r,?_⟩;rcases l with l | ⟨k,c,e,z⟩
  ·exact .inl l
  ·exact .inr ⟨k,c,e,cellK x c e _ z⟩
 ·obtain⟨v,z⟩:=I.cell x c e
  exact⟨v,cellK x c e v z⟩
 ·obtain⟨m,⟨o,_,_,ho,_⟩,_⟩:=I.loc
  exact free _ o (λz=>(hch _ z).2.1 rfl) ho I.free
 ·obtain⟨v,o,ho,hd⟩:=I.cell x c e
  exact free c o (λz=>(hch c z).2.2.1 x c e rfl) ho (I.freeC x c e)
 ·obtain⟨e,n,ne,nf,d⟩:=I.pin p hp
  have nch:p.1 ∉ ch:=λz=>(hch p.1 z).2.2.2 p hp rfl;exact⟨keep p.1 p.2 ne nf nch e n,free p.1 p.2 nch e n,ne,nf,d⟩
theorem Inv.un{t':Nat}(I:Inv X pins σ H s)(u:Un X.fs [] H H' s.heap h')(hok:HOk X.prog X.w H' h'):Inv X pins σ H' { s with heap:=h',toks:=t' }:=by obtain⟨m,⟨o,es,ep,ho,r⟩,_⟩:=id I.loc;obtain⟨sl,hL⟩:=u.any ho I.free (by simp);exact I.step (g':=s.gens) (d':=s.drawn) (ch:=[]) (λ_ z=>nomatch z) (λb o _ hb _ e n=>u.keep b o e n hb (by simp)) (λb o _ hb _ e n=>u.slot b o e n hb (by simp)) (λb o _ e n=>u.free b o e n (by simp)) (λb o _ e=>u.there b o e (by simp)) u.tups u.frzs u.tbls (λm' hm=>by obtain⟨o',es',ep',ho',r'⟩:=hm;rw[ho]at ho'; cases ho';exact⟨_,es',ep',hL,r'⟩) hok I.bare
theorem Inv.call{g':Array GenState}{t':Nat}{d':Drawn}{ch:List Addr}(I:Inv X pins σ H s)(u:Un (frs X.stack) ch H H' s.heap h')(hok:HOk X.prog X.w H' h')(hg:AllBare g')
  (hch:∀b∈ch,(b∈X.ex\/X.s₀.heap.objs.size<=b)/\b≠X.env.locals/\(∀x c,X.env.cells.lookup x=some c->c≠b)/\∀p∈X.pn++pins,p.1≠b) :
  Inv X pins σ H' { s with heap:=h',gens:=g',drawn:=d',toks:=t' }:=by
 obtain⟨m,⟨o,es,ep,ho,r⟩,_⟩:=id I.loc;obtain⟨sl,hL⟩:=u.any ho I.free λz=>(hch _ z).2.1 rfl;exact I.step (ch:=ch) hch (λb o hL hb hc e n=>u.keep b o e n (λz=>(Zye.mp (I.stkSub b z)).elim hL hb) hc) (λb o _ _ hc e n=>u.any e n hc) (λb o hc e n=>u.free b o e n hc) (λb o hc e=>u.there b o e hc) u.tups u.frzs u.tbls (λm' hm=>by obtain⟨o',es',ep',ho',r'⟩:=hm;rw[ho]at ho'; cases ho';exact⟨_,es',ep',hL,r'⟩) hok hg
theorem Inv.turned{t':Nat}{it:Addr}(I:Inv X pins σ H s)(k:∀b o,b≠it->s.heap.get? b=some o->h'.get? b=some o)(hn:H it=none)(hL:it≠X.env.locals)
  (h1:it∈X.ex\/X.s₀.heap.objs.size<=it) (h2:∀x c,X.env.cells.lookup x=some c->c≠it) (h3:∀p∈X.pn++pins,p.1≠it):Inv X pins σ H { s with heap:=h',toks:=t' }:=by
 have nit:∀b u,H b=some u->b≠it:=λb u e z=>by rw[z,hn]at e; cases e
 refine I.step (g':=s.gens) (d':=s.drawn) (ch:=[it]) (λb hb=>?_) (λb o _ _ hc e _=>k b o (λz=>hc (by simp[z])) e) (λb o _ _ hc e _=>⟨o.slots,k b o (λz=>hc (by simp[z])) e⟩) (λ_ _ _ _ n=>n)
  (λb o hc e=>⟨o,k b o (λz=>hc (by simp[z])) e⟩) (λ_ _ e=>e) (λ_ _ _ e=>e) (λb ps e=>⟨#[],by rw[e]; simp⟩) (λm hm=>?_) (λb u e=>?_) I.bare
 ·have e:b=it:=by simpa using hb
  subst e;exact⟨h1,hL,h2,h3⟩
 ·obtain⟨o,es,ep,ho,r⟩:=hm
  exact⟨o,es,ep,k _ o (ZyR hL) ho,r⟩
 ·refine(I.hok b u e).stay (λc v hc q=>k c v ?_ q) (λ_ q=>q) λ_ _ q=>q
  rcases hc with z | z
  ·rw[z]; exact nit b u e
  ·exact nit c _ z
theorem Inv.tok(I:Inv X pins σ H s)(t:Nat):Inv X pins σ H { s with toks:=t }:=I.un (h':=s.heap) (t':=t) Un.refl I.hok
theorem Inv.kept{t':Nat}(I:Inv X pins σ H s)(k:∀b u,s.heap.get? b=some u->h'.get? b=some u):Inv X pins σ H { s with heap:=h',toks:=t' }:=I.un (Un.kept k) (I.hok.kept k)
theorem Inv.laid{a:Addr}{o:HO}{t':Nat}(I:Inv X pins σ H s)(k:∀b u,s.heap.get? b=some u->h'.get? b=some u)(hp:s.heap.objs.size<=a)(new:Zab X.prog X.w (upd H a o) h' a o) :
  Inv X pins σ (upd H a o) { s with heap:=h',toks:=t' }:=I.un (Un.laid k hp (I.hok.fresh hp)) (I.hok.laid k hp new)
theorem Inv.write{x e:Addr}{o:HO}{t':Nat}(I:Inv X pins σ H s)(mu:Mut (H x))(he:e=x\/H e=some (.own x))(k:∀b u,b≠e->s.heap.get? b=some u->h'.get? b=some u)(heo:∃u,h'.get? e=some u)
  (new:Zab X.prog X.w (upd H x o) h' x o):Inv X pins σ (upd H x o) { s with heap:=h',toks:=t' }:=I.un (Un.write mu he k heo) (I.hok.write mu he k heo new)
theorem Inv.weak{σ':List (Option V)}(I:Inv X pins σ H s)(hl:σ'.length=σ.length)(w:∀(i:Nat) v,σ'[i]?=some (some v)->σ[i]?=some (some v)):Inv X pins σ' H s :=
 ⟨I.ok,I.os,I.bare,I.base,let ⟨m,hn,hl'⟩:=I.loc; ⟨m,hn,λi x v e1 e2 e3=>hl' i x v e1 (w i v e2) e3⟩,I.cell,I.free,I.freeC,I.pin,I.hok,hl.trans I.len⟩
theorem Inv.pins_of{pins':List (Addr × Obj)}(I:Inv X pins σ H s)(h:∀p∈pins',s.heap.get? p.1=some p.2/\H p.1=none/\p.1≠X.env.locals/\p.1 ∉ X.fs/\∀v,p.2.data≠.cell v):Inv X pins' σ H s :=
 ⟨I.ok,I.os,I.bare,I.base,I.loc,I.cell,I.free,I.freeC,λp hp=>(Zyq.mp hp).elim (λz=>I.pin p (ZyT _ z)) (h p),I.hok,I.len⟩
theorem Znl{N:List Str}(hN:N.Nodup){i j:Nat}{x:Str}(a:N[i]?=some x)(b:N[j]?=some x):i=j:=by obtain⟨h1,e1⟩:=Zx4.mp a;obtain⟨h2,e2⟩:=Zx4.mp b;exact(List.getElem_inj hN).mp (e1.trans e2.symm)
theorem Zlu{M:Model}{A:Around}{E:Value->Shared->Prop}{i:Nat}{x:Str}{v:V}{u:Value}{Q:Unit->Shared->Prop}(I:Inv X pins σ H s)(hN:X.N.Nodup)(hi:X.N[i]?=some x)(hx:Loc X.env.scope x)(r:RelV v u)
  (h:∀s',Inv X pins (σ.set i (some v)) H s'->(∃a,ZzH a s.heap s'.heap/\(a=X.env.locals\/X.env.cells.lookup x=some a))->Q () s') (hf:X.fn x=true\/X.env.scope.names.lookup x=some .local:=by first | exact .inl rfl | exact .inr rfl | assumption):wpAny M A (storeName X.env x u) Q E s:=by
 obtain⟨m,hn,hl⟩:=id I.loc;have hcls:(X.env.scope.kind==.class||(X.env.scope.kind==.module&&X.env.locals != X.env.globals))=false:=by rw[I.ok.kind]; rfl
 have hiσ:i<σ.length:=by rw[I.len]; exact(Zx4.mp hi).1
 have cne:=I.cne;have tracked:∀{a:Addr} {h':Heap},(∃o,s.heap.get? a=some o/\H a=none)->ZzH a s.heap h'->HOk X.prog X.w H h':=λ{a h'} ha hs b ob e=>by
  obtain⟨_,_,hfree⟩:=ha;refine(I.hok b ob e).stay (λc w' hc q=>(hs.2 c ?_).trans q) (λ_ q=>q) λ_ _ q=>q
  rintro rfl
  rcases hc with rfl | hc
  ·rw[hfree]at e; cases e
  ·rw[hfree]at hc; cases hc
 rcases hx with hk | hk
 ·refine wpAny_storeName_local hk hn (λh' hn' hs=>?_) hcls
  obtain⟨oL,_,_,hoL,_⟩:=id hn;refine h _ ⟨I.ok,I.os,I.bare,⟨λb o e n hb hx=>?_,λb o e n hb hx=>?_,I.base.free,λb o e hx=>?_,I.base.tups,I.base.frzs,I.base.tbls⟩,⟨_,hn',λj y v' e1 e2 e3=>?_⟩,λy c e=>?_,I.free,I.freeC,λp hp=>?_,tracked ⟨oL,hoL,I.free⟩ hs,by simpa using I.len⟩ ⟨_,hs,.inl rfl⟩
  ·exact(hs.2 b (Zyf (Zyl (Zx7 e) I.ok.above))).trans (I.base.keep b o e n hb hx)
  ·obtain⟨sl,e1⟩:=I.base.slot b o e n hb hx
   exact⟨sl,(hs.2 b (Zyf (Zyl (Zx7 e) I.ok.above))).trans e1⟩
  ·obtain⟨o',e1⟩:=I.base.there b o e hx
   exact⟨o',(hs.2 b (Zyf (Zyl (Zx7 e) I.ok.above))).trans e1⟩
  ·by_cases hj:j=i
   ·subst hj
    rw[hi]at e1; cases e1;rw[ZyF hiσ]at e2;cases e2;exact⟨u,r,.inl ⟨hk,by simp⟩⟩
   ·rw[Zyo (ZyR hj)]at e2
    obtain⟨u',r',q⟩:=hl j y v' e1 e2 e3;refine⟨u',r',?_⟩;rcases q with⟨k,e⟩ | ⟨k,c,e,z⟩
    ·refine .inl ⟨k,?_⟩
     have:y≠x:=λe=>hj (Znl hN e1 (e▸hi));simp[this,e]
    ·exact .inr ⟨k,c,e,z.sameBut hs (cne y c e)⟩
  ·obtain⟨w',z⟩:=I.cell y c e
   exact⟨w',z.sameBut hs (cne y c e)⟩
  ·obtain⟨e,n,ne,nf,d⟩:=I.pin p hp
   exact⟨(hs.2 p.1 ne).trans e,n,ne,nf,d⟩
 ·have hfn:X.fn x=true:=by
   rcases hf with z | z
   ·exact z
   ·rw[z]at hk; cases hk
  obtain⟨c,hc⟩:=I.ok.has x (.inl hk);obtain⟨w',z⟩:=I.cell x c hc;refine wpAny_storeName_cell I.ok.kind hk hc z (λh' hc' hs=>?_);obtain⟨oc,hoc,hocd⟩:=id z;refine h { s with heap:=h' } ⟨I.ok,I.os,I.bare,⟨λb o e n hb hx=>?_,λb o e n hb hx=>?_,I.base.free,λb o e hx=>?_,I.base.tups,I.base.frzs,I.base.tbls⟩,⟨m,hn.sameBut hs (ZyR (cne x c hc)),λj y v' e1 e2 e3=>?_⟩,λy c' e=>?_,I.free,I.freeC,λp hp=>?_,tracked ⟨oc,hoc,I.freeC x c hc⟩ hs,by simpa using I.len⟩ ⟨c,hs,.inr hc⟩
  ·exact(hs.2 b (Zyf (Zyl (Zx7 e) (I.ok.cab x c hfn hc)))).trans (I.base.keep b o e n hb hx)
  ·obtain⟨sl,e1⟩:=I.base.slot b o e n hb hx
   exact⟨sl,(hs.2 b (Zyf (Zyl (Zx7 e) (I.ok.cab x c hfn hc)))).trans e1⟩
  ·obtain⟨o',e1⟩:=I.base.there b o e hx
   exact⟨o',(hs.2 b (Zyf (Zyl (Zx7 e) (I.ok.cab x c hfn hc)))).trans e1⟩
  ·by_cases hj:j=i
   ·subst hj
    rw[hi]at e1; cases e1;rw[ZyF hiσ]at e2;cases e2;exact⟨u,r,.inr ⟨.inl hk,c,hc,hc'⟩⟩
   ·rw[Zyo (ZyR hj)]at e2
    obtain⟨u',r',q⟩:=hl j y v' e1 e2 e3;refine⟨u',r',?_⟩;rcases q with q | ⟨k,c',e,z'⟩
    ·exact .inl q
    ·refine .inr ⟨k,c',e,z'.sameBut hs ?_⟩
     rintro rfl
     exact hj (Znl hN e1 (I.ok.inj _ _ _ e hc▸hi))
  ·by_cases hcc:c'=c
   ·subst hcc; exact⟨_,hc'⟩
   ·obtain⟨w2,z2⟩:=I.cell y c' e
    exact⟨w2,z2.sameBut hs hcc⟩
  ·obtain⟨e,n,ne,nf,d⟩:=I.pin p hp
   refine⟨(hs.2 p.1 ?_).trans e,n,ne,nf,d⟩;intro q;rw[q,hoc]at e;have q':oc=p.2:=ZyK e;exact d w' (by rw[<-q']; exact hocd)
theorem Zn7{M:Model}{A:Around}{E:Value->Shared->Prop}{i:Nat}{x:Str}{v:V}{u:Value}{Q:Unit->Shared->Prop}(I:Inv X pins σ H s)(hN:X.N.Nodup)(hi:X.N[i]?=some x)(hx:Loc X.env.scope x)(r:RelV v u)
  (h:∀s',Inv X pins (σ.set i (some v)) H s'->Q () s') (hf:X.fn x=true\/X.env.scope.names.lookup x=some .local:=by first | exact .inl rfl | exact .inr rfl | assumption):wpAny M A (storeName X.env x u) Q E s :=
 Zlu I hN hi hx r (λs' I' _=>h s' I') hf
theorem Inv.call'{s':Shared}{ch:List Addr}(I:Inv X pins σ H s)(ho:s'.os=s.os)(u:Un (frs X.stack) ch H H' s.heap s'.heap)(hok:HOk X.prog X.w H' s'.heap)(hg:AllBare s'.gens)
  (hch:∀b∈ch,(b∈X.ex\/X.s₀.heap.objs.size<=b)/\b≠X.env.locals/\(∀x c,X.env.cells.lookup x=some c->c≠b)/\∀p∈X.pn++pins,p.1≠b):Inv X pins σ H' s':=by
 obtain⟨h',g',d',t',o'⟩:=s';have e:o'=s.os:=ho;subst e;exact I.call (g':=g') (t':=t') (d':=d') u hok hg hch
end
abbrev XK:=Value->Option Addr->Hp->Prop
abbrev St:=List (Option V)
abbrev VK:=V->Hp->Prop
abbrev TE:=St->Hp->VK->Prop
abbrev TT:=St->Hp->(Bool->Hp->Prop)->Prop
abbrev TA:=St->Hp->(List V->Hp->Prop)->Prop
structure Ends where
 nx:St->Hp->Prop
 rt:VK
 bk:St->Hp->Prop:=λ_ _=>False
 ct:St->Hp->Prop:=λ_ _=>False
abbrev TS:=Ends->St->Hp->Prop
inductive EP(X:Cx)(pins:List (Addr × Obj))(σ:St)(Q:VK)(u:Value)(s':Shared):Prop
 | mk (v:V) (H':Hp) (I:Inv X pins σ H' s') (r:RelV v u) (q:Q v H'):EP X pins σ Q u s'
inductive TP(X:Cx)(pins:List (Addr × Obj))(σ:St)(Q:Bool->Hp->Prop)(b:Bool)(s':Shared):Prop
 | mk (H':Hp) (I:Inv X pins σ H' s') (q:Q b H'):TP X pins σ Q b s'
inductive AP(X:Cx)(pins:List (Addr × Obj))(σ:St)(Q:List V->Hp->Prop)(us:List Value)(s':Shared):Prop
 | mk (vs:List V) (H':Hp) (I:Inv X pins σ H' s') (r:Vals vs us) (q:Q vs H'):AP X pins σ Q us s'
inductive SPn(X:Cx)(pins:List (Addr × Obj))(N:St->Hp->Prop)(s':Shared):Prop
 | mk (σ':St) (H':Hp) (I:Inv X pins σ' H' s') (q:N σ' H'):SPn X pins N s'
inductive SPr(X:Cx)(pins:List (Addr × Obj))(R:V->Hp->Prop)(u:Value)(s':Shared):Prop
 | mk (v:V) (σ':St) (H':Hp) (I:Inv X pins σ' H' s') (r:RelV v u) (q:R v H'):SPr X pins R u s'
def SP(X:Cx)(pins:List (Addr × Obj))(D:Ends)(f:Flow)(s':Shared):Prop :=
 match f with
 | .next=>SPn X pins D.nx s'
 | .brk=>SPn X pins D.bk s'
 | .cont=>SPn X pins D.ct s'
 | .ret u=>SPr X pins D.rt u s'
def PE(X:Cx)(e:Expr)(t:TE):Prop :=
 ∀(pins:List (Addr × Obj)) (s:Shared) (σ:St) (H:Hp) (Q:VK),Inv X pins σ H s->t σ H Q->wpAny (model X.prog X.w) X.A (eval e X.env) (EP X pins σ Q) X.xe s
def PT(X:Cx)(e:Expr)(t:TT):Prop :=
 ∀(pins:List (Addr × Obj)) (s:Shared) (σ:St) (H:Hp) (Q:Bool->Hp->Prop),Inv X pins σ H s->t σ H Q->wpAny (model X.prog X.w) X.A (isTrue e X.env (eval e X.env)) (TP X pins σ Q) X.xe s
def PW(X:Cx)(e:Expr)(t:TT):Prop :=
 ∀(whole:Sem Value) (pins:List (Addr × Obj)) (s:Shared) (σ:St) (H:Hp) (Q:Bool->Hp->Prop),Inv X pins σ H s->t σ H Q->wpAny (model X.prog X.w) X.A (isTrue e X.env whole) (TP X pins σ Q) X.xe s
theorem PW.pt{X:Cx}{e:Expr}{t:TT}(h:PW X e t):PT X e t:=h _
def PA(X:Cx)(es:List Expr)(t:TA):Prop :=
 ∀(pos:Pos) (pins:List (Addr × Obj)) (s:Shared) (σ:St) (H:Hp) (Q:List V->Hp->Prop),Inv X pins σ H s->t σ H Q->wpAny (model X.prog X.w) X.A (spliced (backTo pos (Zx6 es X.env))) (AP X pins σ Q) X.xe s
def PS(X:Cx)(st:Stmt)(t:TS):Prop :=
 ∀(pins:List (Addr × Obj)) (s:Shared) (σ:St) (H:Hp) (D:Ends),Inv X pins σ H s->t D σ H->wpAny (model X.prog X.w) X.A (exec st X.env) (SP X pins D) X.xe s
def PSs(X:Cx)(st:List Stmt)(t:TS):Prop :=
 ∀(pins:List (Addr × Obj)) (s:Shared) (σ:St) (H:Hp) (D:Ends),Inv X pins σ H s->t D σ H->wpAny (model X.prog X.w) X.A (execs st X.env) (SP X pins D) X.xe s
theorem thn{α:Type}{t:Sem α}{Q Q':α->Shared->Prop}{M:Model}{A:Around}{E:Value->Shared->Prop}{s:Shared}(h:wpAny M A t Q E s)(hQ:∀a s,Q a s->Q' a s):wpAny M A t Q' E s:=Zy3 h hQ λ_ _ x=>x
end L2
namespace L2
open PySem PySem.Spec PyProof.Rows
section
variable{X:Cx}
def Zxv(i:Nat):TE:=λσ H Q=>∃v,σ[i]?=some (some v)/\Q v H
def tC(v:V):TE:=λ_ H Q=>Q v H
theorem ZcC{i:Nat}{x:Str}{pos:Pos}(hN:X.N[i]?=some x)(hv:Vis X.env.scope x)(hd:(x==("__debug__":Str))=false:=by decide)(hcd:(x==("__classdict__":Str))=false:=by decide):PE X (.Name x pos) (Zxv i):=by
 intro pins s σ H Q I h;obtain⟨v,e,h⟩:=h;obtain⟨m,hn,hl⟩:=I.loc;obtain⟨u,r,l⟩:=hl i x v hN e hv;have fin:EP X pins σ Q u s:=⟨v,H,I,r,h⟩;rcases l with⟨hk,hm⟩ | ⟨hk,c,hc,hcell⟩
 ·exact wpAny_Name (wpAny_loadName_local I.ok.kind hk hn hm fin) hd
 ·rcases hk with hk | hk
  ·exact wpAny_Name (wpAny_loadName_cell I.ok.kind hk hc hcell fin) hd
  ·exact wpAny_Name (wpAny_loadName_free I.ok.kind hk hc hcell fin hcd) hd
theorem Zrr{i j pos}:PE X (.Constant (.int i) j pos) (tC (.int i)):=λ_ _ _ H _ I h=>wpAny_Constant_int ⟨.int i,H,I.tok _,⟨_,rfl⟩,h⟩
theorem ZwK{b j pos}:PE X (.Constant (.bool b) j pos) (tC (.bl b)):=λ_ _ _ H _ I h=>Constant_bool ⟨.bl b,H,I,rfl,h⟩
theorem Zq3{j pos}:PE X (.Constant .none j pos) (tC .non):=λ_ _ _ H _ I h=>Constant_none ⟨.non,H,I,rfl,h⟩
def Gl(X:Cx)(x:Str):Prop:=X.env.kindOf x=some .globalImplicit
theorem Zli{E:Value->Shared->Prop}{pins:List (Addr × Obj)}{s:Shared}{σ:St}{H:Hp}{x:Str}{u:Value}{pos:Pos}{Q:Value->Shared->Prop}(I:Inv X pins σ H s)(hg:Gl X x)(hm:X.mg x=some u)(h:Q u s)
  (hd:(x==("__debug__":Str))=false:=by decide):wpAny (model X.prog X.w) X.A (eval (.Name x pos) X.env) Q E s :=
 ZBA I.ok.kind hg (Calls.loadGlobal_global (by rw[I.ok.glob]; exact I.mod.glob.keeps I.bk) hm h) hd
theorem Ziw{E:Value->Shared->Prop}{pins:List (Addr × Obj)}{s:Shared}{σ:St}{H:Hp}{x:Str}{u:Value}{pos:Pos}{Q:Value->Shared->Prop}(I:Inv X pins σ H s)(hg:Gl X x)(hm:X.mg x=none)(hv:ZyN x=some u)(h:Q u s)
  (hn:x ≠ "__name__":=by decide) (hd:(x==("__debug__":Str))=false:=by decide):wpAny (model X.prog X.w) X.A (eval (.Name x pos) X.env) Q E s:=by
 obtain⟨mb,h1,h2⟩:=I.mod.blt;exact ZBA I.ok.kind hg (Calls.loadGlobal_builtin (by rw[I.ok.glob]; exact I.mod.glob.keeps I.bk) hm (by rw[I.ok.blt]; exact h1.keeps I.bk) ((h2 x hn).trans hv) h) hd
theorem Zps{x:Str}{v:V}{u:Value}{pos:Pos}(hg:Gl X x)(hm:X.mg x=some u)(r:RelV v u)(hd:(x==("__debug__":Str))=false:=by decide):PE X (.Name x pos) (tC v) :=
 λ_ _ _ H _ I h=>Zli I hg hm ⟨v,H,I,r,h⟩ hd
theorem ZtZ{x:Str}{v:V}{u:Value}{pos:Pos}(hg:Gl X x)(hm:X.mg x=none)(hv:ZyN x=some u)(r:RelV v u)(hn:x ≠ "__name__":=by decide)(hd:(x==("__debug__":Str))=false:=by decide):PE X (.Name x pos) (tC v) :=
 λ_ _ _ H _ I h=>Ziw I hg hm hv ⟨v,H,I,r,h⟩ hn hd
variable{a b:Expr}{ta tb:TE}{pos:Pos}
def PC(X:Cx)(op:CmpOp)(a b:Expr)(t:TE):Prop :=
 ∀(pins:List (Addr × Obj)) (s:Shared) (σ:St) (H:Hp) (Q:VK),Inv X pins σ H s->t σ H Q ->
  wpAny (model X.prog X.w) X.A (eval a X.env) (λv s₁=>wpAny (model X.prog X.w) X.A (eval b X.env) (λu s₂=>wpAny (model X.prog X.w) X.A (ZyY op v u) (EP X pins σ Q) X.xe s₂) X.xe s₁) X.xe s
theorem Zkb(b:Expr){op:CmpOp}(h:op≠.In)(h2:op≠.NotIn):Zy4 op b=false:=by
 have e1:(op==CmpOp.In)=false:=by cases op<;>first | rfl | exact absurd rfl h
 have e2:(op==CmpOp.NotIn)=false:=by cases op<;>first | rfl | exact absurd rfl h2
 cases b<;>simp[Zy4,e1,e2]
def tB(t:TE):TT:=λσ H Q=>t σ H λx H1=>∃c,x=.bl c/\Q c H1
theorem Zrh{op:CmpOp}{t:TE}(h:PC X op a b t)(h1:Zy4 op b=false:=by first | exact Zkb _ (by decide) (by decide) | rfl):PT X (.Compare a [op] [b] pos) (tB t):=by intro pins s σ H Q I hw;refine wpAny_isTrue_Compare1 (thn (h pins s σ H _ I hw) λv s1 h1=>thn h1 λu s2 h2=>thn h2 λc s3 ⟨x,H1,I1,r1,q1⟩=>?_) h1;obtain⟨d,rfl,q⟩:=q1;cases r1;exact ZzM ⟨H1,I1,q⟩
theorem Zv9{e:Expr}{t:TE}(h:PE X e t)(he:∀whole,isTrue e X.env whole=(do let v <-whole; standAt e.pos; holding [v] (truthy v)):=by intro _; rfl):PT X e (tB t):=by intro pins s σ H Q I hw;refine isTrue_plain (thn (h pins s σ H _ I hw) λv s1 ⟨x,H1,I1,r1,q1⟩=>?_) (he _);obtain⟨d,rfl,q⟩:=q1;cases r1;exact ZzM ⟨H1,I1,q⟩
variable{tA tB':TT}{rest:List Expr}
def tOr(t u:TT):TT:=λσ H Q=>t σ H λc H1=>if c=true then Q true H1 else u σ H1 Q
def Zdd(t:TT):TT:=λσ H Q=>t σ H λc H1=>Q (!c) H1
theorem Zwa(ha:PT X a tA):PW X (.BoolOp .Or [a] pos) tA:=by
 intro wh pins s σ H Q I h;refine isTrue_or (thn (ha pins s σ H Q I h) λc s1 e=>?_);cases c with
 | false=>exact isTrue_or_nil e
 | true=>exact e
theorem ZtI(ha:PT X a tA)(hb:PW X (.BoolOp .Or (b::rest) pos) tB'):PW X (.BoolOp .Or (a::b::rest) pos) (tOr tA tB'):=by
 intro wh pins s σ H Q I h;refine isTrue_or (thn (ha pins s σ H _ I h) λc s1 ⟨H1,I1,q1⟩=>?_);cases c with
 | true=>exact⟨H1,I1,q1⟩
 | false=>exact hb wh pins s1 σ H1 Q I1 q1
theorem Zvr(ha:PT X a tA):PT X (.UnaryOp .Not a pos) (Zdd tA):=by intro pins s σ H Q I h;exact isTrue_not (thn (ha pins s σ H (λc H1=>Q (!c) H1) I h) λ_ _ ⟨H',I',q'⟩=>⟨H',I',q'⟩)
def ZwJ(ta tb:TE):TE:=λσ H Q=>ta σ H λx H1=>∃c,x=.bl c/\if c=true then tb σ H1 Q else Q (.bl false) H1
theorem Zv6{op}{t:TE}(h:PE X a t):PE X (.BoolOp op [a] pos) t:=λpins s σ H Q I hw=>BoolOp_one (h pins s σ H Q I hw)
theorem Zra(ha:PE X a ta)(hb:PE X (.BoolOp .And (b::rest) pos) tb):PE X (.BoolOp .And (a::b::rest) pos) (ZwJ ta tb):=by
 intro pins s σ H Q I h;refine BoolOp_and (thn (ha pins s σ H _ I h) λv s1 ⟨x,H1,I1,r1,q1⟩=>?_);obtain⟨c,rfl,q1⟩:=q1;cases r1;refine ZzM ?_;cases c with
 | true=>exact hb pins s1 σ H1 Q I1 q1
 | false=>exact⟨.bl false,H1,I1,rfl,q1⟩
def tIf(t:TT)(ta tb:TE):TE:=λσ H Q=>t σ H λc H1=>if c=true then ta σ H1 Q else tb σ H1 Q
theorem ZnP{c:Expr}(hc:PT X c tA)(ha:PE X a ta)(hb:PE X b tb):PE X (.IfExp c a b pos) (tIf tA ta tb):=by
 intro pins s σ H Q I h;refine wpAny_IfExp (thn (hc pins s σ H _ I h) λd s1 ⟨H1,I1,q1⟩=>?_);cases d with
 | true=>exact ha pins s1 σ H1 Q I1 q1
 | false=>exact hb pins s1 σ H1 Q I1 q1
end
end L2
namespace L2
open PySem PySem.Spec PyProof.Rows
def SqL(K:ZxR)(H:Hp)(a:Addr)(xs:List V):Prop :=
 Rd H a (.lst xs) \/
  ∃(o:Obj) (its:Array Value) (n:Nat),K.lookup a=some o/\o.cls=.type "list"/\o.dict=none/\o.data=.seq its n/\its.size<=sizeLine/\Vals xs its.toList
def SqT(K:ZxR)(H:Hp)(a:Addr)(xs:List V):Prop :=
 Rd H a (.tup xs) \/
  ∃(o:Obj) (its:Array Value) (n:Nat),K.lookup a=some o/\o.cls=.type "tuple"/\o.data=.seq its n/\its.size<=sizeLine/\Vals xs its.toList
def Zxp:Value->Option V
 | .none=>some .non
 | .bool b=>some (.bl b)
 | .int i _=>some (.int i)
 | .str x _=>some (.str x)
 | .bytes b _=>some (.byt b)
 | .float b _=>some (.flt b)
 | .ref a=>some (.ref a)
 | .type n=>some (.ty n)
 | _=>none
theorem RelV.abs{x:V}{u:Value}(r:RelV x u):Zxp u=some x:=by
 cases x with
 | non=>cases r; rfl
 | bl _=>cases r; rfl
 | int _=>obtain⟨t,rfl⟩:=r; rfl
 | str _=>obtain⟨t,rfl⟩:=r; rfl
 | byt _=>obtain⟨t,rfl⟩:=r; rfl
 | flt _=>obtain⟨t,rfl⟩:=r; rfl
 | ref _=>cases r; rfl
 | ty _=>cases r; rfl
theorem RelV.inj{x y:V}{u:Value}(r:RelV x u)(q:RelV y u):x=y:=ZyK (r.abs.symm.trans q.abs)
theorem Vals.inj:∀{xs ys:List V} {us:List Value},Vals xs us->Vals ys us->xs=ys
 | _,_,_,.nil,.nil=>rfl
 | _,_,_,.cons r t,.cons r' t'=>by rw[r.inj r',Vals.inj t t']
section
variable{X:Cx}{pins:List (Addr × Obj)}{σ:St}{H:Hp}{s:Shared}{a:Addr}{xs ys:List V}
theorem SqL.of{K:ZxR}(h:H a=some (.lst xs)):SqL K H a xs:=.inl (.inl h)
theorem SqT.of{K:ZxR}(h:H a=some (.tup xs)):SqT K H a xs:=.inl (.inl h)
theorem Inv.list(I:Inv X pins σ H s)(h:SqL X.K H a xs):∃its:List Value,Vals xs its/\PlainL s.heap a its.toArray/\xs.length<=sizeLine:=by
 rcases h with h | ⟨o,its,n,hk,hc,hd,hs,hz,r⟩
 ·obtain⟨z,its,n,r,e⟩:=h.ok I.hok
  exact⟨its,r,⟨_,n,e,rfl,rfl,rfl⟩,z⟩
 ·refine⟨its.toList,r,⟨o,n,I.kIn a o hk,hc,hd,by simpa using hs⟩,?_⟩
  have e:=r.length;simp only[Zyj]at e;omega
theorem Inv.tuple(I:Inv X pins σ H s)(h:SqT X.K H a xs):∃its:List Value,Vals xs its/\IsTup s.heap a its.toArray/\xs.length<=sizeLine:=by
 rcases h with h | ⟨o,its,n,hk,hc,hs,hz,r⟩
 ·obtain⟨z,its,r,p⟩:=h.ok I.hok
  exact⟨its,r,p,z⟩
 ·refine⟨its.toList,r,⟨o,I.kIn a o hk,hc,n,by simpa using hs⟩,?_⟩
  have e:=r.length;simp only[Zyj]at e;omega
theorem Inv.list_inj(I:Inv X pins σ H s)(h:SqL X.K H a xs)(h':SqL X.K H a ys):xs=ys:=by
 obtain⟨its,r,⟨o,n,e,_,_,d⟩,_⟩:=I.list h;obtain⟨its',r',⟨o',n',e',_,_,d'⟩,_⟩:=I.list h';rw[e]at e'; cases e';rw[d]at d';injection d' with d1 _
 have:its=its':=by simpa using congrArg Array.toList d1
 subst this;exact r.inj r'
theorem Inv.tuple_inj(I:Inv X pins σ H s)(h:SqT X.K H a xs)(h':SqT X.K H a ys):xs=ys:=by
 obtain⟨its,r,⟨o,e,_,n,d⟩,_⟩:=I.tuple h;obtain⟨its',r',⟨o',e',_,n',d'⟩,_⟩:=I.tuple h';rw[e]at e'; cases e';rw[d]at d';injection d' with d1 _
 have:its=its':=by simpa using congrArg Array.toList d1
 subst this;exact r.inj r'
end
abbrev Cx.wish(X:Cx)(E:Value->Shared->Prop):Cx:={ X with xe:=E }
abbrev Cx.nox(X:Cx):Cx:=X.wish λ_ _=>False
theorem Cx.Ok.wish{X:Cx}(ok:X.Ok)(E:Value->Shared->Prop):(X.wish E).Ok :=
 ⟨ok.mod,ok.kind,ok.glob,ok.blt,ok.above,ok.inj,ok.has,ok.cab,ok.hd,ok.frames,ok.stk,ok.exf,ok.bs,ok.bsz,ok.noex,ok.exfs,ok.funs,ok.frf⟩
theorem Cx.Ok.unwish{X:Cx}{E:Value->Shared->Prop}(ok:(X.wish E).Ok):X.Ok :=
 ⟨ok.mod,ok.kind,ok.glob,ok.blt,ok.above,ok.inj,ok.has,ok.cab,ok.hd,ok.frames,ok.stk,ok.exf,ok.bs,ok.bsz,ok.noex,ok.exfs,ok.funs,ok.frf⟩
section
variable{X:Cx}{pins:List (Addr × Obj)}{σ:St}{H:Hp}{s:Shared}{E:Value->Shared->Prop}
theorem Inv.wish(I:Inv X pins σ H s)(E:Value->Shared->Prop):Inv (X.wish E) pins σ H s:=⟨I.ok.wish E,I.os,I.bare,I.base,I.loc,I.cell,I.free,I.freeC,I.pin,I.hok,I.len⟩
theorem Inv.unwish(I:Inv (X.wish E) pins σ H s):Inv X pins σ H s:=⟨I.ok.unwish,I.os,I.bare,I.base,I.loc,I.cell,I.free,I.freeC,I.pin,I.hok,I.len⟩
theorem SP.unwish{D:Ends}{f:Flow}{s':Shared}(h:SP (X.wish E) pins D f s'):SP X pins D f s':=by
 cases f with
 | next=>obtain⟨σ',H',I,q⟩:=h; exact⟨σ',H',I.unwish,q⟩
 | brk=>obtain⟨σ',H',I,q⟩:=h; exact⟨σ',H',I.unwish,q⟩
 | cont=>obtain⟨σ',H',I,q⟩:=h; exact⟨σ',H',I.unwish,q⟩
 | ret u=>obtain⟨v,σ',H',I,r,q⟩:=h; exact⟨v,σ',H',I.unwish,r,q⟩
theorem PSs.nox{st:List Stmt}{t:TS}(h:PSs X.nox st t):PSs X st t:=λpins s σ H D I hw=>Zy3 (h pins s σ H D (I.wish _) hw) (λ_ _ q=>q.unwish) λ_ _ z=>ZyU z
end
section
variable{X:Cx}{st:Stmt}{rest:List Stmt}{t u:TS}{e:Expr}{te:TE}{pos:Pos}
def ZwL:TS:=λD σ H=>D.nx σ H
def ZxC(t u:TS):TS:=λD σ H=>t { D with nx:=u D } σ H
theorem Zul:PSs X [] ZwL:=λ_ _ σ H _ I h=>ZBc ⟨σ,H,I,h⟩
theorem Zhq(h1:PS X st t)(h2:PSs X rest u):PSs X (st::rest) (ZxC t u):=by
 intro pins s σ H D I h;refine wpAny_execs_cons (thn (h1 pins s σ H { D with nx:=u D } I h) λf s1 q=>?_);cases f with
 | next=>obtain⟨σ',H',I',q⟩:=q;exact h2 pins s1 σ' H' D I' q
 | ret v=>exact q
 | brk=>exact q
 | cont=>exact q
theorem ZpB(h1:PS X st t):PSs X [st] t:=by
 intro pins s σ H D I h;refine wpAny_execs_cons (thn (h1 pins s σ H D I h) λf s1 q=>?_);cases f with
 | next=>exact ZBc q
 | ret v=>exact q
 | brk=>exact q
 | cont=>exact q
theorem Inv.quiet{pins:List (Addr × Obj)}{σ:St}{H:Hp}{s:Shared}(I:Inv X pins σ H s):interactive X.env=false:=by simp[interactive,I.ok.kind]
def ZwB(te:TE):TS:=λD σ H=>te σ H λ_ H1=>D.nx σ H1
theorem Zi1(he:PE X e te)(hs:Zz6 e none pos.line X.env=pure false:=by rfl):PS X (.Expr e pos) (ZwB te):=by intro pins s σ H D I h;exact wpAny_Expr_any (thn (he pins s σ H _ I h) λv s1 ⟨x,H1,I1,r1,q1⟩=>⟨σ,H1,I1,q1⟩) I.quiet hs
def Zxd(te:TE):TS:=λD σ H=>te σ H D.rt
theorem Zom(he:PE X e te):PS X (.Return (some e) pos) (Zxd te):=by intro pins s σ H D I h;exact wpAny_Return_some (thn (he pins s σ H _ I h) λv s1 ⟨x,H1,I1,r1,q1⟩=>⟨x,σ,H1,I1,r1,q1⟩)
def Zxx(c:TT)(t u:TS):TS:=λD σ H=>c σ H λb H1=>if b=true then t D σ H1 else u D σ H1
theorem ZtL{c:Expr}{a b:List Stmt}{tc:TT}(hc:PT X c tc)(ha:PSs X a t)(hb:PSs X b u):PS X (.If c a b pos) (Zxx tc t u):=by
 intro pins s σ H D I h;refine wpAny_If (thn (hc pins s σ H _ I h) λd s1 ⟨H1,I1,q1⟩=>?_);cases d with
 | true=>exact ha pins s1 σ H1 D I1 q1
 | false=>exact hb pins s1 σ H1 D I1 q1
def ZvY:TS:=λ_ _ _=>False
theorem Zgj{sts:List Stmt}:PSs X sts ZvY:=λ_ _ _ _ _ _ h=>h.elim
end
abbrev TG:=V->St->Hp->(St->Hp->Prop)->Prop
abbrev TGs:=List V->St->Hp->(St->Hp->Prop)->Prop
def PG(X:Cx)(target:Expr)(t:TG):Prop :=
 ∀(pins:List (Addr × Obj)) (s:Shared) (σ:St) (H:Hp) (v:V) (u:Value) (Q:St->Hp->Prop),Inv X pins σ H s->RelV v u->t v σ H Q ->
  wpAny (model X.prog X.w) X.A (assign target X.env u) (λ_ s'=>∃σ' H',Inv X pins σ' H' s'/\Q σ' H') X.xe s
def PGs(X:Cx)(ts:List Expr)(t:TGs):Prop :=
 ∀(pins:List (Addr × Obj)) (s:Shared) (σ:St) (H:Hp) (vs:List V) (us:List Value) (Q:St->Hp->Prop),Inv X pins σ H s->Vals vs us->t vs σ H Q ->
  wpAny (model X.prog X.w) X.A (assignInOrder ((ZzQ ts X.env).map (·.2)) us) (λ_ s'=>∃σ' H',Inv X pins σ' H' s'/\Q σ' H') X.xe s
abbrev Ztq:=V->V->V->Hp->(Hp->Prop)->Prop
def ZvR(X:Cx)(t:Ztq):Prop :=
 ∀(pins:List (Addr × Obj)) (s:Shared) (σ:St) (H:Hp) (o i v:V) (ov iv u:Value) (Q:Hp->Prop),Inv X pins σ H s->RelV o ov->RelV i iv->RelV v u->t o i v H Q ->
  wpAny (model X.prog X.w) X.A (setItem ov iv u) (λ_ s'=>∃H',Inv X pins σ H' s'/\Q H') X.xe s
section
variable{X:Cx}{pos:Pos}
def Zmp(i:Nat):TG:=λv σ H Q=>Q (σ.set i (some v)) H
theorem Zfx{i:Nat}{x:Str}(hN:X.N.Nodup)(hi:X.N[i]?=some x)(hx:Loc X.env.scope x)(hf:X.fn x=true\/X.env.scope.names.lookup x=some .local:=by first | exact .inl rfl | exact .inr rfl | assumption):PG X (.Name x pos) (Zmp i):=by intro pins s σ H v u Q I r h;exact wpAny_assign_Name (Zn7 I hN hi hx r (λs' I'=>⟨_,H,I',h⟩) hf)
def Zwq:TGs:=λvs σ H Q=>vs=[]/\Q σ H
def ZqE(t:TG)(u:TGs):TGs:=λvs σ H Q=>∃v r,vs=v::r/\t v σ H λσ' H'=>u r σ' H' Q
theorem Zpp:PGs X [] Zwq:=by intro pins s σ H vs us Q I r h;obtain⟨e,h⟩:=h;subst e;cases r;exact assignInOrder_nil ⟨σ,H,I,h⟩
theorem ZhN{e:Expr}{es:List Expr}{t:TG}{u:TGs}(h1:PG X e t)(h2:PGs X es u)
  (hs:(ZzQ (e::es) X.env).map (·.2)=assign e X.env::(ZzQ es X.env).map (·.2):=by rfl):PGs X (e::es) (ZqE t u):=by
 intro pins s σ H vs us Q I r h;obtain⟨v,vr,e1,h⟩:=h;subst e1;cases r with
 | cons r rr=>rw[hs];refine assignInOrder_cons (thn (h1 pins s σ H _ _ _ I r h) λ_ s1 ⟨σ1,H1,I1,q1⟩=>?_);exact h2 pins s1 σ1 H1 _ _ Q I1 rr q1
def Zv4(K:ZxR)(n:Nat)(t:TGs):TG:=λv σ H Q=>∃a xs,v=.ref a/\SqT K H a xs/\xs.length=n/\t xs σ H Q
theorem Zq7{es:List Expr}{k:Nat}{t:TGs}{n:Nat}(hc:X.calm=true)(h:PGs X es t)
  (hn:(ZzQ es X.env).length=n:=by rfl) (hst:(ZzQ es X.env).findIdx? (·.1)=none:=by rfl):PG X (.Tuple es k pos) (Zv4 X.K n t):=by
 intro pins s σ H v u Q I r hw;obtain⟨a,xs,e1,hq,hl,hw⟩:=hw;subst e1;cases r;obtain⟨its,rv,ht,hz⟩:=I.tuple hq;refine assign_Tuple_tuple (I.ok.hd hc) ht (by simp[hn,<-hl,rv.length]) hst λh' hx=>?_;have I1:Inv X pins σ H { s with heap:=h' }:=I.kept (t':=s.toks) λb o e=>hx b o (Zyf (Zx7 e)) e;exact h pins _ σ H xs _ Q I1 (by simpa using rv) hw
def Zkc(to ti:TE)(t:Ztq):TG:=λv σ H Q=>to σ H λo H1=>ti σ H1 λi H2=>t o i v H2 λH3=>Q σ H3
theorem Zu5{o i:Expr}{to ti:TE}{t:Ztq}(ho:PE X o to)(hi:PE X i ti)(hs:ZvR X t)
  (ha:∀v,assign (.Subscript o i pos) X.env v=(do
   let ov <-holding [v] (eval o X.env)
   let iv <-holding [v,ov] (eval i X.env)
   standAt pos
   holding [v,ov,iv] (setItem ov iv v)
   release [v,ov,iv] []):=by intro _; rfl):PG X (.Subscript o i pos) (Zkc to ti t):=by
 intro pins s σ H v u Q I r h;rw[ha];refine ZxQ (Zy0 (thn (ho pins s σ H _ I h) λov s1 ⟨x,H1,I1,r1,q1⟩=>?_));refine ZxQ (Zy0 (thn (hi pins s1 σ H1 _ I1 q1) λiv s2 ⟨y,H2,I2,r2,q2⟩=>?_));refine ZxQ (wpAny_standAt (ZxQ (Zy0 (thn (hs pins s2 σ H2 x y v ov iv u _ I2 r1 r2 r q2) λ_ s3 ⟨H3,I3,q3⟩=>?_))));exact wpAny_release ⟨σ,H3,I3,q3⟩
def Zvb(te:TE)(g:TG):TS:=λD σ H=>te σ H λx H1=>g x σ H1 D.nx
theorem Zvn{tg e:Expr}{te:TE}{g:TG}(he:PE X e te)(hg:PG X tg g)(hs:swapsWithSole [tg] e pos.line X.env=pure false:=by rfl)(hw:swappedStores [tg] e X.env=pure none:=by rfl)
  (h1:(ZzQ [tg] X.env).map (·.2)=[assign tg X.env]:=by rfl):PS X (.Assign [tg] e pos) (Zvb te g):=by
 intro pins s σ H D I h;refine wpAny_Assign_stores (thn (he pins s σ H _ I h) λv s1 ⟨x,H1,I1,r1,q1⟩=>?_) hs hw;rw[h1];exact thn (hg pins s1 σ H1 x v _ I1 r1 q1) λ_ s2 ⟨σ',H',I',q'⟩=>⟨σ',H',I',q'⟩
theorem Znu{i:Nat}{x:Str}{e:Expr}{te:TE}{pos':Pos}(hN:X.N.Nodup)(hi:X.N[i]?=some x)(hx:Loc X.env.scope x)(he:PE X e te)(hs:Zz6 e (some (.Name x pos')) pos.line X.env=pure false:=by rfl)(hf:X.fn x=true\/X.env.scope.names.lookup x=some .local:=by first | exact .inl rfl | exact .inr rfl | assumption) :
  PS X (.Assign [.Name x pos'] e pos) (Zvb te (Zmp i)):=by
 intro pins s σ H D I h;refine wpAny_Assign_Name (thn (he pins s σ H _ I h) λv s1 ⟨y,H1,I1,r1,q1⟩=>?_) hs;exact Zn7 I1 hN hi hx r1 (λs2 I2=>⟨_,H1,I2,q1⟩) hf
end
section
variable{X:Cx}{pos:Pos}
def ZvT(c:TT)(tb:TS):TS:=λD σ H=>∃W:Nat->St->Hp->Prop,(∃m,W m σ H)/\∀m σ H,W m σ H ->
 c σ H λb H1=>if b=true then ∃N:St->Hp->Prop,(∀σ' H',N σ' H'->∃m',m'<m/\W m' σ' H')/\tb { D with nx:=N,ct:=N,bk:=D.nx } σ H1 else D.nx σ H1
theorem Ztf{c:Expr}{body:List Stmt}{tc:TT}{tb:TS}(hp:PassesOwn (model X.prog X.w) X.A X.env X.xe)(hc:PT X c tc)(hb:PSs X body tb):PS X (.While c body [] pos) (ZvT tc tb):=by
 intro pins s σ H D I h;obtain⟨W,⟨m0,w0⟩,turn⟩:=h;refine wpAny_While (codeAny_whileLoop (λn s'=>∃σ' H',Inv X pins σ' H' s'/\W n σ' H') ?_ m0 ⟨σ,H,I,w0⟩)
 rintro n s1 ⟨σ1,H1,I1,w1⟩
 refine ZzU hp (thn (hc pins s1 σ1 H1 _ I1 (turn n σ1 H1 w1)) λb s2 ⟨H2,I2,q2⟩=>?_);cases b with
 | true =>
  obtain⟨N,hN,q2⟩:=q2;rw[if_pos rfl];refine ZzU hp (thn (hb pins s2 σ1 H2 _ I2 q2) λf s3 q3=>?_);cases f with
  | next=>obtain⟨σ3,H3,I3,n3⟩:=q3;obtain⟨m',hm,w3⟩:=hN σ3 H3 n3;exact⟨m',hm,σ3,H3,I3,w3⟩
  | cont=>obtain⟨σ3,H3,I3,n3⟩:=q3;obtain⟨m',hm,w3⟩:=hN σ3 H3 n3;exact⟨m',hm,σ3,H3,I3,w3⟩
  | brk=>exact q3
  | ret v=>exact q3
 | false=>rw[if_neg Zyy];exact ZBc ⟨σ1,H2,I2,q2⟩
end
structure It where
 go:Nat->Hp->Prop
 yld:Nat->Hp->V->Hp->Prop
 stop:Nat->Hp->Prop
def Zf2(X:Cx)(pins:List (Addr × Obj))(H:Hp)(b:Addr):Prop :=
 H b=none/\b≠X.env.locals/\b ∉ X.fs/\(b∈X.ex\/X.s₀.heap.objs.size<=b)/\(∀x c,X.env.cells.lookup x=some c->c≠b)/\∀p∈X.pn++pins,p.1≠b
theorem Inv.fpOk{X:Cx}{pins:List (Addr × Obj)}{σ:St}{H H':Hp}{s:Shared}{b:Addr}(I:Inv X pins σ H s)(hb:s.heap.objs.size<=b)(hn:H' b=none):Zf2 X pins H' b:=by
 refine⟨hn,ZAH (Zyl I.lt hb),I.nofs hb,.inr (ZyG I.sz hb),λx c e z=>?_,λp hp z=>?_⟩
 ·obtain⟨v,q⟩:=I.cell x c e
  exact absurd (Zyl q.lt (by rw[z]; exact hb)) (Zzz _)
 ·exact absurd (Zyl (Zx7 (I.pin p hp).1) (by rw[z]; exact hb)) (Zzz _)
structure Turn(P:Program)(w:World)(K:ZxR)(tg:Expr)(J:It)(fp:List Addr)(it:Addr)(tn:Nat->Heap->Prop):Prop where
 mem:it∈fp
 obj:∀i h,tn i h->∀b∈fp,∃o,h.get? b=some o/\∀v,o.data≠.cell v
 keep:∀i h h',tn i h->(∀b∈fp,∀o,h.get? b=some o->h'.get? b=some o)->tn i h'
 item:∀(X:Cx),X.prog=P->X.w=w->X.K=K->X.calm=true->∀(i:Nat) (pins:List (Addr × Obj)) (s:Shared) (σ:St) (H:Hp) (E:Value->Shared->Prop),Inv X pins σ H s->(∀b∈fp,Zf2 X pins H b)->tn i s.heap->J.go i H ->
  wpAny (model P w) X.A (pyNext (.ref it)) (λr s1=>∃u,r=some u /\
   wpAny (model P w) X.A (ZBd tg (.ref it) u) (λ_ s2=>∃x H',Inv X pins σ H' s2/\RelV x u/\J.yld i H x H'/\tn (i+1) s2.heap/\∀b∈fp,H' b=none) E s1) E s
 done:∀(X:Cx),X.prog=P->X.w=w->X.K=K->X.calm=true->∀(i:Nat) (pins:List (Addr × Obj)) (s:Shared) (σ:St) (H:Hp) (E:Value->Shared->Prop),Inv X pins σ H s->(∀b∈fp,Zf2 X pins H b)->tn i s.heap->J.stop i H ->
  wpAny (model P w) X.A (pyNext (.ref it)) (λr s1=>r=none/\Inv X pins σ H s1) E s
 self:∀(A:Around) (i:Nat) (s:Shared) (Q:Value->Shared->Prop) (E:Value->Shared->Prop),tn i s.heap->Q (.ref it) s->wpAny (model P w) A (pyIter (.ref it)) Q E s
abbrev TI:=St->Hp->(It->Hp->Prop)->Prop
def PIE(X:Cx)(pins:List (Addr × Obj))(σ:St)(tg:Expr)(R:It->Hp->Prop)(itv:Value)(s2:Shared):Prop :=
 ∃(it:Addr) (fp:List Addr) (tn:Nat->Heap->Prop) (J:It) (H':Hp),itv=.ref it/\Inv X pins σ H' s2/\Turn X.prog X.w X.K tg J fp it tn/\tn 0 s2.heap/\(∀b∈fp,Zf2 X pins H' b)/\R J H'
def PI(X:Cx)(tg iter:Expr)(wi:TI):Prop :=
 ∀(pins:List (Addr × Obj)) (s:Shared) (σ:St) (H:Hp) (R:It->Hp->Prop),Inv X pins σ H s->wi σ H R ->
  wpAny (model X.prog X.w) X.A (eval iter X.env) (λv s1=>wpAny (model X.prog X.w) X.A (pyIter v) (PIE X pins σ tg R) X.xe s1) X.xe s
theorem Zmq{M:Model}{A:Around}{E:Value->Shared->Prop}{s:Shared}{tg:Expr}{it:Addr}{u:Value}{o:Obj}{n:String}{vs:Array Value}{Q:Unit->Shared->Prop}(ho:s.heap.get? it=some o)(hc:o.cls=.type n)(hd:o.data=.fields vs)
    (hn:["enumerate","zip","dict_itemiterator","dict_reverseitemiterator","odict_iterator","itertools.zip_longest","itertools.pairwise"].contains n=false) (hQ:Q () s):wpAny M A (ZBd tg (.ref it) u) Q E s:=by
  unfold ZBd
  cases tg<;>first
    | exact ZxV hQ
    | (cases u<;>first
        | exact ZxV hQ
        | (refine ZxQ (wpAny_load ho ?_)
           rw [hc, hd]
           show wpAny M A (if (["enumerate", "zip", "dict_itemiterator", "dict_reverseitemiterator", "odict_iterator", "itertools.zip_longest", "itertools.pairwise"].contains n && vs[0]? == some (rawInt _)) = true then _ else _) Q E s
           rw [if_neg (by intro h; rw [hn, Bool.false_and] at h; cases h)]
           exact ZxV hQ))
def Itl(K:ZxR)(a:Addr):It :=
 ⟨λi H=>∃xs x,SqL K H a xs/\xs[i]?=some x,λi H x H'=>H'=H/\∀xs,SqL K H a xs->xs[i]?=some x,λi H=>∃xs,SqL K H a xs/\xs.length<=i⟩
def Itt(K:ZxR)(a:Addr):It :=
 ⟨λi H=>∃xs x,SqT K H a xs/\xs[i]?=some x,λi H x H'=>H'=H/\∀xs,SqT K H a xs->xs[i]?=some x,λi H=>∃xs,SqT K H a xs/\xs.length<=i⟩
def Itr(lo:Int)(n:Nat):It:=⟨λi _=>i<n,λi H x H'=>H'=H/\x=.int (lo+i),λi _=>n<=i⟩
theorem Zri{P:Program}{w:World}{K:ZxR}{tg:Expr}(a it:Addr):Turn P w K tg (Itl K a) [it] it (λi h=>h.IsListIter it a i) where
 mem:=by simp
 obj:=λi h st b hb=>by
  have e:b=it:=by simpa using hb
  subst e;obtain⟨o,e,c,d⟩:=st;exact⟨o,e,λv z=>by rw[d]at z; cases z⟩
 keep:=λi h h' st k=>st.at λo e=>k it (by simp) o e
 item:=by intro X hP hw hK hc i pins s σ H E I hf st hg;subst hP hw hK;obtain⟨xs,x,hq,hx⟩:=hg;obtain⟨its,rv,p,hz⟩:=I.list hq;obtain⟨u,hu,ru⟩:=rv.get hx;obtain⟨f0,f1,f2,f3,f4,f5⟩:=hf it (by simp);refine wpAny_pyNext_list_item st p.isList (x:=u) (by simpa using hu) λh' st' sb=>?_;have I1:Inv X pins σ H { s with heap:=h' }:=I.turned (t':=s.toks) (λb o hb e=>(sb.2 b hb).trans e) f0 f1 f3 f4 f5;obtain⟨o,e,c,d⟩:=id st';exact⟨u,rfl,Zmq (s:={ s with heap:=h' }) e c d (by decide) ⟨x,H,I1,ru,⟨rfl,λys hy=>by rw[I.list_inj hy hq]; exact hx⟩,st',λb hb=>(hf b hb).1⟩⟩
 done:=by intro X hP hw hK hc i pins s σ H E I hf st hg;subst hP hw hK;obtain⟨xs,hq,hx⟩:=hg;obtain⟨its,rv,p,hz⟩:=I.list hq;obtain⟨f0,f1,f2,f3,f4,f5⟩:=hf it (by simp);have hl:=rv.length;exact wpAny_pyNext_list_end (I.ok.hd hc) st p.isList (by simp; omega) λh' eb=>⟨rfl,I.turned (t':=s.toks) (λb o hb e=>eb b o hb e) f0 f1 f3 f4 f5⟩
 self:=λ_ _ _ _ _ st h=>wpAny_pyIter_listiter st h
theorem Zqs{P:Program}{w:World}{K:ZxR}{tg:Expr}(a it:Addr):Turn P w K tg (Itt K a) [it] it (λi h=>h.IsTupleIter it a i) where
 mem:=by simp
 obj:=λi h st b hb=>by
  have e:b=it:=by simpa using hb
  subst e;obtain⟨o,e,c,d⟩:=st;exact⟨o,e,λv z=>by rw[d]at z; cases z⟩
 keep:=λi h h' st k=>st.at λo e=>k it (by simp) o e
 item:=by intro X hP hw hK hc i pins s σ H E I hf st hg;subst hP hw hK;obtain⟨xs,x,hq,hx⟩:=hg;obtain⟨its,rv,p,hz⟩:=I.tuple hq;obtain⟨u,hu,ru⟩:=rv.get hx;obtain⟨f0,f1,f2,f3,f4,f5⟩:=hf it (by simp);refine wpAny_pyNext_tuple_item st (show s.heap.IsTuple a its.toArray from p) (x:=u) (by simpa using hu) λh' st' sb=>?_;have I1:Inv X pins σ H { s with heap:=h' }:=I.turned (t':=s.toks) (λb o hb e=>(sb.2 b hb).trans e) f0 f1 f3 f4 f5;obtain⟨o,e,c,d⟩:=id st';exact⟨u,rfl,Zmq (s:={ s with heap:=h' }) e c d (by decide) ⟨x,H,I1,ru,⟨rfl,λys hy=>by rw[I.tuple_inj hy hq]; exact hx⟩,st',λb hb=>(hf b hb).1⟩⟩
 done:=by intro X hP hw hK hc i pins s σ H E I hf st hg;subst hP hw hK;obtain⟨xs,hq,hx⟩:=hg;obtain⟨its,rv,p,hz⟩:=I.tuple hq;obtain⟨f0,f1,f2,f3,f4,f5⟩:=hf it (by simp);have hl:=rv.length;exact wpAny_pyNext_tuple_end (I.ok.hd hc) st (show s.heap.IsTuple a its.toArray from p) (by simp; omega) λh' eb=>⟨rfl,I.turned (t':=s.toks) (λb o hb e=>eb b o hb e) f0 f1 f3 f4 f5⟩
 self:=λ_ _ _ _ _ st h=>wpAny_pyIter_tupleiter st h
theorem Zp5{P:Program}{w:World}{K:ZxR}{tg:Expr}(it:Addr)(lo:Int)(n:Nat):Turn P w K tg (Itr lo n) [it] it (λi h=>IsRangeIter h it (lo+(i:Nat)*1) ((n:Int)-(i:Nat)) 1) where
 mem:=by simp
 obj:=λi h st b hb=>by
  have e:b=it:=by simpa using hb
  subst e;exact⟨_,st,λv z=>by have z':Data.fields _=Data.cell v:=z;cases z'⟩
 keep:=λi h h' st k=>k it (by simp) _ st
 item:=by intro X hP hw hK hc i pins s σ H E I hf st hg;subst hP hw hK;obtain⟨f0,f1,f2,f3,f4,f5⟩:=hf it (by simp);have W:=Walks.range (prog:=X.prog) (w:=X.w) (I.ok.hd hc) it lo 1 n;refine W.item i s _ _ hg st λv h' tk hv st' kk=>?_;obtain⟨t,rfl⟩:=hv;have I1:Inv X pins σ H { s with heap:=h',toks:=tk }:=I.turned (λb o hb e=>kk b o (by simpa using hb) e) f0 f1 f3 f4 f5;refine⟨_,rfl,Zmq (s:={ s with heap:=h',toks:=tk }) (n:="range_iterator") st' rfl rfl (by decide) ⟨.int (lo+i),H,I1,⟨t,?_⟩,⟨rfl,rfl⟩,st',λb hb=>(hf b hb).1⟩⟩;rw[Int.mul_one]
 done:=by intro X hP hw hK hc i pins s σ H E I hf st hg;subst hP hw hK;obtain⟨f0,f1,f2,f3,f4,f5⟩:=hf it (by simp);exact wpAny_pyNext_range_end (I.ok.hd hc) st (by have:n<=i:=hg; omega) λh' eb=>⟨rfl,I.turned (t':=s.toks) (λb o hb e=>eb b o hb e) f0 f1 f3 f4 f5⟩
 self:=λ_ _ _ _ _ st h=>wpAny_pyIter_rangeiter st h
end L2
namespace L2
open PySem PySem.Spec PyProof.Rows
section
variable{X:Cx}{tg:Expr}
theorem ZsZ{pins:List (Addr × Obj)}{σ:St}{H:Hp}{s:Shared}{R:It->Hp->Prop}{E:Value->Shared->Prop}{lo hi:Int}{t u v:Tok}{tk:Nat}(I:Inv X pins σ H s)(h1:-(2 ^ 62)<=lo)(h2:lo<2 ^ 62)(h3:-(2 ^ 62)<=hi)(h4:hi<2 ^ 62)
  (q:R (Itr lo (hi-lo).toNat) H):wpAny (model X.prog X.w) X.A (pyIter (.ref s.heap.objs.size)) (PIE X pins σ tg R) E { s with heap:=s.heap.push { cls:=.type "range",data:=.fields #[.int lo t,.int hi u,.int 1 v] },toks:=tk }:=by
 refine wpAny_pyIter_range (IsRange.new ..) (small_one h1 h2 h3 h4) ?_;have I1:Inv X pins σ H { s with heap:=s.heap.push { cls:=.type "range",data:=.fields #[.int lo t,.int hi u,.int 1 v] },toks:=tk }:=I.kept λb o e=>ZxX _ e;refine⟨(s.heap.push { cls:=.type "range",data:=.fields #[.int lo t,.int hi u,.int 1 v] }).objs.size,[(s.heap.push { cls:=.type "range",data:=.fields #[.int lo t,.int hi u,.int 1 v] }).objs.size],_,_,H,rfl,
  I1.kept (t':=tk) λb o e=>ZxX _ e,Zp5 _ lo (hi-lo).toNat,?_,λb hb=>?_,q⟩
 ·have e1:lo+((0:Nat):Int)*1=lo:=by simp
  have e2:(((hi-lo).toNat:Nat):Int)-((0:Nat):Int)=ZAe lo hi 1:=by rw[rangeSize_one]; split<;>omega
  show IsRangeIter _ _ (lo+((0:Nat):Int)*1) ((((hi-lo).toNat:Nat):Int)-((0:Nat):Int)) 1;rw[e1,e2];exact Zx9 _ rfl
 ·have e:b=(s.heap.push { cls:=.type "range",data:=.fields #[.int lo t,.int hi u,.int 1 v] }).objs.size:=by simpa using hb
  subst e;exact I1.fpOk (Zx2 _) (I1.hok.fresh (Zx2 _))
def Zb6(ta:TA):TI:=λσ H R=>ta σ H λvs H1=>∃j:Int,vs=[.int j]/\-(2 ^ 62)<=j/\j<2 ^ 62/\R (Itr 0 j.toNat) H1
theorem Zq5{a:Expr}{ta:TA}{p pos:Pos}(hg:Gl X "range")(hm:X.mg "range" = none)(ha:PA X [a] ta)(hs:Zx6 [a] X.env=[(false,eval a X.env)]:=by rfl):PI X tg (.Call (.Name "range" p) [a] [] pos) (Zb6 ta):=by
 intro pins s σ H R I h;refine Call_ (Ziw I hg hm boot_range (ZBt (thn (ha pos pins s σ H _ I h) λus s1 ⟨vs,H1,I1,r1,q1⟩=>?_) hs rfl));obtain⟨j,e,q1,q2,q⟩:=q1;subst e;cases r1 with
 | cons r rr=>cases rr;obtain⟨t,rfl⟩:=r;exact call_range_1 (ZsZ I1 (by omega) (by omega) q1 q2 (by simpa using q))
def Zxl(wi:TI)(g:TG)(tb:TS):TS:=λD σ H=>wi σ H λJ H1=>∃W:Nat->Nat->St->Hp->Prop,(∃m,W 0 m σ H1)/\∀i m σ H,W i m σ H ->
 (J.stop i H/\D.nx σ H)\/(J.go i H/\∃N:St->Hp->Prop,(∀σ' H',N σ' H'->∃m',m'<m/\W (i+1) m' σ' H')/\∀x H',J.yld i H x H'->g x σ H' λσ2 H2=>tb { D with nx:=N,ct:=N,bk:=D.nx } σ2 H2)
def Ziu(fp:List Addr)(h:Heap):List (Addr × Obj):=fp.filterMap λb=>(h.get? b).map λo=>(b,o)
theorem Zft{fp:List Addr}{h:Heap}{b:Addr}{o:Obj}(hb:b∈fp)(e:h.get? b=some o):(b,o)∈Ziu fp h:=Zza.mpr ⟨b,hb,by rw[e]; rfl⟩
theorem ZrR{fp:List Addr}{h:Heap}{p:Addr × Obj}(hp:p∈Ziu fp h):p.1∈fp/\h.get? p.1=some p.2:=by
 obtain⟨b,hb,e⟩:=Zza.mp hp;cases q:h.get? b with
 | none=>rw[q]at e; cases e
 | some o=>rw[q]at e;have e':(b,o)=p:=ZyK e;subst e';exact⟨hb,q⟩
theorem Inv.pinned{pins:List (Addr × Obj)}{σ:St}{H:Hp}{s:Shared}{fp:List Addr}(I:Inv X pins σ H s)(hf:∀b∈fp,Zf2 X pins H b)(ho:∀b∈fp,∃o,s.heap.get? b=some o/\∀v,o.data≠.cell v):Inv X (pins++Ziu fp s.heap) σ H s :=
 I.pins_of λp hp=>(Zyq.mp hp).elim (λz=>I.pin p (Zyn _ z)) λz=>by obtain⟨hb,e⟩:=ZrR z;obtain⟨f0,f1,f2,_⟩:=hf p.1 hb;obtain⟨o,e',d⟩:=ho p.1 hb;rw[e]at e'; cases e';exact⟨e,f0,f1,f2,d⟩
theorem Inv.unpinned{pins pl:List (Addr × Obj)}{σ:St}{H:Hp}{s:Shared}(I:Inv X (pins++pl) σ H s):Inv X pins σ H s:=I.pins_of λp hp=>I.pin p (Zyn _ (ZyT _ hp))
theorem Zsc{iter:Expr}{body:List Stmt}{wi:TI}{g:TG}{tb:TS}{pos:Pos}(hp:PassesOwn (model X.prog X.w) X.A X.env X.xe)(hc:X.calm=true)(hi:PI X tg iter wi)(hg:PG X tg g)(hb:PSs X body tb)
  (hs:∀x,Zzh iter X.env x=pure x:=by intro _; rfl):PS X (.For tg iter body [] pos) (Zxl wi g tb):=by
 intro pins s σ H D I h;refine wpAny_For (thn (hi pins s σ H _ I h) λv s1 h1=>thn h1 λitv s2 h2=>?_) hs;obtain⟨it,fp,tn,J,H2,e,I2,T,st2,f2,W,⟨m0,w0⟩,turn⟩:=h2;subst e;have stat:∀{H':Hp},(∀b∈fp,H' b=none)->∀b∈fp,Zf2 X pins H' b:=λhn b hb=>⟨hn b hb,(f2 b hb).2⟩;refine codeAny_forLoop_any (λn s'=>∃i σ' H',Inv X pins σ' H' s'/\tn i s'.heap/\(∀b∈fp,H' b=none)/\W i n σ' H') ?_ m0 ⟨0,σ,H2,I2,st2,λb hb=>(f2 b hb).1,w0⟩
 rintro n s3 ⟨i,σ3,H3,I3,st3,fr3,w3⟩
 rcases turn i n σ3 H3 w3 with⟨stop,qn⟩ | ⟨go,N,hN,step⟩
 ·refine ZzU hp (thn (T.done X rfl rfl rfl hc i pins s3 σ3 H3 X.xe I3 (stat fr3) st3 stop) λr s4 ⟨hr,I4⟩=>?_)
  subst hr;exact ZBc ⟨σ3,H3,I4,qn⟩
 ·refine ZzU hp (thn (T.item X rfl rfl rfl hc i pins s3 σ3 H3 X.xe I3 (stat fr3) st3 go) λr s4 ⟨u,hr,h4⟩=>?_)
  subst hr;refine ZzU hp (thn h4 λ_ s5 ⟨x,H5,I5,r5,y5,st5,fr5⟩=>?_);have I5':=I5.pinned (stat fr5) (T.obj _ _ st5);refine ZzU hp (thn (hg _ s5 σ3 H5 x u _ I5' r5 (step x H5 y5)) λ_ s6 ⟨σ6,H6,I6,q6⟩=>?_);refine ZzU hp (thn (hb _ s6 σ6 H6 _ I6 q6) λf s7 q7=>?_);have again:∀{σ7:St} {H7:Hp},Inv X (pins++Ziu fp s5.heap) σ7 H7 s7->N σ7 H7->∃m,m<n/\∃i σ' H',Inv X pins σ' H' s7/\tn i s7.heap/\(∀b∈fp,H' b=none)/\W i m σ' H':=λ{σ7 H7} I7 n7=>by obtain⟨m',hm,w7⟩:=hN σ7 H7 n7;refine⟨m',hm,i+1,σ7,H7,I7.unpinned,T.keep _ _ _ st5 λb hb o e=>(I7.pin (b,o) (Zyn _ (Zyn _ (Zft hb e)))).1,λb hb=>?_,w7⟩;obtain⟨o,e,d⟩:=T.obj _ _ st5 b hb;exact(I7.pin (b,o) (Zyn _ (Zyn _ (Zft hb e)))).2.1
  cases f with
  | next=>obtain⟨σ7,H7,I7,n7⟩:=q7; exact again I7 n7
  | cont=>obtain⟨σ7,H7,I7,n7⟩:=q7; exact again I7 n7
  | brk=>obtain⟨σ7,H7,I7,q7⟩:=q7; exact⟨σ7,H7,I7.unpinned,q7⟩
  | ret v=>obtain⟨x7,σ7,H7,I7,r7,q7⟩:=q7; exact⟨x7,σ7,H7,I7.unpinned,r7,q7⟩
end
end L2
namespace L2
open PySem PySem.Spec PyProof.Rows
abbrev R2:=V->V->Hp->VK->Prop
def OpR(X:Cx)(f:Value->Value->Sem Value)(r:R2):Prop :=
 ∀(pins:List (Addr × Obj)) (s:Shared) (σ:St) (H:Hp) (x y:V) (v u:Value) (Q:VK),Inv X pins σ H s->RelV x v->RelV y u->r x y H Q ->
  wpAny (model X.prog X.w) X.A (f v u) (EP X pins σ Q) X.xe s
def Za7(X:Cx)(f:Value)(r:List V->Hp->VK->Prop):Prop :=
 ∀(pins:List (Addr × Obj)) (s:Shared) (σ:St) (H:Hp) (xs:List V) (us:List Value) (Q:VK),Inv X pins σ H s->Vals xs us->r xs H Q ->
  wpAny (model X.prog X.w) X.A (call f us) (EP X pins σ Q) X.xe s
def tOp(r:R2)(ta tb:TE):TE:=λσ H Q=>ta σ H λx H1=>tb σ H1 λy H2=>r x y H2 Q
def rI(C:Int->Int->Prop)(g:Int->Int->V):R2:=λx y H Q=>∃i j,x=.int i/\y=.int j/\C i j/\Q (g i j) H
def rI0(g:Int->Int->V):R2:=λx y H Q=>∃i j,x=.int i/\y=.int j/\Q (g i j) H
section
variable{X:Cx}{a b c:Expr}{ta tb tc:TE}{pos:Pos}
theorem Zsu(ha:PE X a ta)(hb:PE X b tb){pins:List (Addr × Obj)}{s:Shared}{σ:St}{H:Hp}{R:V->V->Hp->Prop}(I:Inv X pins σ H s)
  (h:ta σ H λx H1=>tb σ H1 λy H2=>R x y H2) {Q:Value->Shared->Prop} {f:Value->Value->Sem Value}
  (hf:∀v u s2 x y H2,Inv X pins σ H2 s2->RelV x v->RelV y u->R x y H2->wpAny (model X.prog X.w) X.A (f v u) Q X.xe s2) :
  wpAny (model X.prog X.w) X.A (eval a X.env) (λv s₁=>wpAny (model X.prog X.w) X.A (eval b X.env) (λu s₂=>wpAny (model X.prog X.w) X.A (f v u) Q X.xe s₂) X.xe s₁) X.xe s:=by
 refine thn (ha pins s σ H _ I h) λv s1 ⟨x,H1,I1,r1,q1⟩=>?_;refine thn (hb pins s1 σ H1 _ I1 q1) λu s2 ⟨y,H2,I2,r2,q2⟩=>?_;exact hf v u s2 x y H2 I2 r1 r2 q2
theorem Zqf{op:Operator}{r:R2}(ho:OpR X (ZA6 op) r)(ha:PE X a ta)(hb:PE X b tb):PE X (.BinOp a op b pos) (tOp r ta tb):=by intro pins s σ H Q I h;exact wpAny_BinOp (Zsu ha hb I h λv u s2 x y H2 I2 rx ry q=>ho pins s2 σ H2 x y v u Q I2 rx ry q)
theorem opI{f:Value->Value->Sem Value}{C:Int->Int->Prop}{g:Int->Int->Int}
  (rule:∀(i j:Int) (t u:Tok) (s:Shared) (Q:Value->Shared->Prop) (E:Value->Shared->Prop),C i j->Q (.int (g i j) s.toks) { s with toks:=s.toks+1 }->wpAny (model X.prog X.w) X.A (f (.int i t) (.int j u)) Q E s) :
  OpR X f (rI C λi j=>.int (g i j)):=by
 intro pins s σ H x y v u Q I rx ry h;obtain⟨i,j,rfl,rfl,hc,q⟩:=h;obtain⟨t,rfl⟩:=rx;obtain⟨t',rfl⟩:=ry;exact rule i j t t' s _ _ hc ⟨.int (g i j),H,I.tok _,⟨_,rfl⟩,q⟩
theorem Zwn{f:Value->Value->Sem Value}{g:Int->Int->Int}
  (rule:∀(i j:Int) (t u:Tok) (s:Shared) (Q:Value->Shared->Prop) (E:Value->Shared->Prop),Q (.int (g i j) s.toks) { s with toks:=s.toks+1 }->wpAny (model X.prog X.w) X.A (f (.int i t) (.int j u)) Q E s) :
  OpR X f (rI0 λi j=>.int (g i j)):=by
 intro pins s σ H x y v u Q I rx ry h;obtain⟨i,j,rfl,rfl,q⟩:=h;obtain⟨t,rfl⟩:=rx;obtain⟨t',rfl⟩:=ry;exact rule i j t t' s _ _ ⟨.int (g i j),H,I.tok _,⟨_,rfl⟩,q⟩
theorem ZsC{f:Value->Value->Sem Value}{g:Int->Int->Bool}
  (rule:∀(i j:Int) (t u:Tok) (s:Shared) (Q:Value->Shared->Prop) (E:Value->Shared->Prop),Q (.bool (g i j)) s->wpAny (model X.prog X.w) X.A (f (.int i t) (.int j u)) Q E s) :
  OpR X f (rI0 λi j=>.bl (g i j)):=by
 intro pins s σ H x y v u Q I rx ry h;obtain⟨i,j,rfl,rfl,q⟩:=h;obtain⟨t,rfl⟩:=rx;obtain⟨t',rfl⟩:=ry;exact rule i j t t' s _ _ ⟨.bl (g i j),H,I,rfl,q⟩
def Zqk(i j:Int):Prop:=(-(2 ^ 64)<i/\i<2 ^ 64)\/(-(2 ^ 64)<j/\j<2 ^ 64)
theorem Zqk.ok{i j:Int}(h:Zqk i j):IntMulOk i j:=by
 rcases h with⟨h1,h2⟩ | ⟨h1,h2⟩
 ·exact .of_left (intBits_le_64 h1 h2)
 ·exact .of_right (intBits_le_64 h1 h2)
theorem Zwb:OpR X (ZA6 .Add) (rI0 λi j=>.int (i+j)):=Zwn λ_ _ _ _ _ _ _ q=>add_int q
theorem Zwj:OpR X (ZA6 .Sub) (rI0 λi j=>.int (i-j)):=Zwn λ_ _ _ _ _ _ _ q=>sub_int q
theorem ZvC:OpR X (ZA6 .Mult) (rI Zqk λi j=>.int (i*j)):=opI λ_ _ _ _ _ _ _ hc q=>mul_int q hc.ok
theorem Zwm:OpR X (ZA6 .Mod) (rI (λ_ j=>0<j) λi j=>.int (i % j)):=opI λi j _ _ _ _ _ hc q=>by have h1:(0:Int)<j:=hc;exact mod_int' (by omega) (by rw[Int.fmod_eq_emod_of_nonneg i (by omega)]; exact q)
end
section
variable{X:Cx}{a b c:Expr}{ta tb tc:TE}{pos:Pos}
theorem Zrf{pins:List (Addr × Obj)}{σ:St}{H:Hp}{s:Shared}{Q:VK}{k k':Bool}(I:Inv X pins σ H s)(q:Q (.bl k) H)(e:k=k'):EP X pins σ Q (.bool k') s:=by subst e;exact⟨.bl k,H,I,rfl,q⟩
theorem ZwH:OpR X (ZyY .Lt) (rI0 λi j=>.bl (decide (i<j))):=ZsC λ_ _ _ _ _ _ _ q=>lt_int q
theorem ZwG:OpR X (ZyY .LtE) (rI0 λi j=>.bl (decide (i<=j))):=ZsC λ_ _ _ _ _ _ _ q=>le_int q
theorem ZwT:OpR X (ZyY .Gt) (rI0 λi j=>.bl (decide (j<i))):=ZsC λ_ _ _ _ _ _ _ q=>gt_int q
theorem ZvS:OpR X (ZyY .Is) (λx y H Q=>y=.non/\Q (.bl (decide (x=.non))) H):=by
 intro pins s σ H x y v u Q I rx ry h;obtain⟨rfl,q⟩:=h;cases ry;refine is_none_gen (Zrf I q ?_);cases x<;>first
  | (cases rx; rfl)
  | (obtain⟨t,rfl⟩:=rx; rfl)
theorem Zua:OpR X (ZyY .IsNot) (λx y H Q=>y=.non/\Q (.bl (!decide (x=.non))) H):=by
 intro pins s σ H x y v u Q I rx ry h;obtain⟨rfl,q⟩:=h;cases ry;refine isnot_none_gen (Zrf I q ?_);cases x<;>first
  | (cases rx; rfl)
  | (obtain⟨t,rfl⟩:=rx; rfl)
theorem Zpe{op:CmpOp}{r:R2}(ho:OpR X (ZyY op) r)(ha:PE X a ta)(hb:PE X b tb)(hm:Zy4 op b=false):PE X (.Compare a [op] [b] pos) (tOp r ta tb):=by intro pins s σ H Q I h;exact wpAny_Compare1 (Zsu ha hb I h λv u s2 x y H2 I2 rx ry q=>ho pins s2 σ H2 x y v u Q I2 rx ry q) hm
def ZwO(t:TE):TT:=λσ H Q=>t σ H λx H'=>∃k,x=.bl k/\Q k H'
theorem Zk9{op:CmpOp}{r:R2}(ho:OpR X (ZyY op) r)(ha:PE X a ta)(hb:PE X b tb)(hm:Zy4 op b=false):PT X (.Compare a [op] [b] pos) (ZwO (tOp r ta tb)):=by intro pins s σ H Q I h;refine wpAny_isTrue_Compare1 (thn (ha pins s σ H _ I h) λv s1 ⟨x,H1,I1,r1,q1⟩=>thn (hb pins s1 σ H1 _ I1 q1) λu s2 ⟨y,H2,I2,r2,q2⟩=>thn (ho pins s2 σ H2 x y v u _ I2 r1 r2 q2) λc s3 ⟨z,H3,I3,r3,k,e,q3⟩=>?_) hm;subst e;cases r3;exact ZzM ⟨H3,I3,q3⟩
def ZvP(r r':R2)(ta tb tc:TE):TE:=λσ H Q=>ta σ H λx H1=>tb σ H1 λy H2=>r x y H2 λz H3=>∃k,z=.bl k /\
 (if k=true then tc σ H3 λw' H4=>r' y w' H4 Q else Q (.bl false) H3)
theorem Zol{op op':CmpOp}{r r':R2}(ho:OpR X (ZyY op) r)(ho':OpR X (ZyY op') r')(ha:PE X a ta)(hb:PE X b tb)(hc:PE X c tc)
  (hm:lastMarks [op,op'] [b,c]=false:=by with_unfolding_all rfl):PE X (.Compare a [op,op'] [b,c] pos) (ZvP r r' ta tb tc):=by
 intro pins s σ H Q I h;refine Compare_chain (thn (ha pins s σ H _ I h) λv s1 ⟨x,H1,I1,r1,q1⟩=>chain_link (thn (hb pins s1 σ H1 _ I1 q1) λu s2 ⟨y,H2,I2,r2,q2⟩=>thn (ho pins s2 σ H2 x y v u _ I2 r1 r2 q2) λd s3 ⟨z,H3,I3,r3,k,e,q3⟩=>?_)) hm;subst e;cases r3;refine ZzM ?_;cases k with
 | false=>exact ite_ff ⟨.bl false,H3,I3,rfl,q3⟩
 | true=>exact ite_tt (chain_last (thn (hc pins s3 σ H3 _ I3 q3) λw' s4 ⟨z',H4,I4,r4,q4⟩=>ho' pins s4 σ H4 y z' u w' Q I4 r2 r4 q4))
theorem ZiP:(sizeLine:Nat)<2 ^ 63:=by rw[Zzc]; decide
theorem vals1{x:V}{us:List Value}(r:Vals [x] us):∃u,us=[u]/\RelV x u:=by
 cases r with
 | cons r1 r2=>cases r2; exact⟨_,rfl,r1⟩
theorem vals2{x y:V}{us:List Value}(r:Vals [x,y] us):∃u w',us=[u,w']/\RelV x u/\RelV y w':=by
 cases r with
 | cons r1 r2 =>
  cases r2 with
  | cons r3 r4=>cases r4; exact⟨_,_,rfl,r1,r3⟩
theorem ZrC(hc:X.calm=true):Za7 X (.builtin "max") (λxs H Q=>∃i j,xs=[.int i,.int j]/\Q (.int (if j > i then j else i)) H):=by
 intro pins s σ H xs us Q I r h;obtain⟨i,j,rfl,q⟩:=h;obtain⟨u,w',rfl,⟨t,rfl⟩,⟨t',rfl⟩⟩:=vals2 r;refine max_two_ints (I.ok.hd hc) λh' tk k=>⟨_,H,I.kept k,?_,q⟩
 by_cases hj:j > i
 ·rw[if_pos hj,if_pos hj]; exact⟨_,rfl⟩
 ·rw[if_neg hj,if_neg hj]; exact⟨_,rfl⟩
theorem ZrU(hc:X.calm=true):Za7 X (.builtin "min") (λxs H Q=>∃i j,xs=[.int i,.int j]/\Q (.int (if j<i then j else i)) H):=by
 intro pins s σ H xs us Q I r h;obtain⟨i,j,rfl,q⟩:=h;obtain⟨u,w',rfl,⟨t,rfl⟩,⟨t',rfl⟩⟩:=vals2 r;refine min_two_ints (I.ok.hd hc) λh' tk k=>⟨_,H,I.kept k,?_,q⟩
 by_cases hj:j<i
 ·rw[if_pos hj,if_pos hj]; exact⟨_,rfl⟩
 ·rw[if_neg hj,if_neg hj]; exact⟨_,rfl⟩
theorem ZlD:Za7 X (.type "int") (λxs H Q=>(∃i,xs=[.int i]/\Q (.int i) H)\/∃k,xs=[.bl k]/\Q (.int (if k then 1 else 0)) H):=by
 intro pins s σ H xs us Q I r h;rcases h with⟨i,rfl,q⟩ | ⟨k,rfl,q⟩
 ·obtain⟨u,rfl,t,rfl⟩:=vals1 r
  exact call_int_int ⟨.int i,H,I,⟨_,rfl⟩,q⟩
 ·obtain⟨u,rfl,r1⟩:=vals1 r
  cases r1;exact call_int_bool ⟨.int (if k then 1 else 0),H,I.tok _,⟨_,rfl⟩,q⟩
end
end L2
namespace L2
open PySem PySem.Spec PyProof.Rows
theorem ZgJ.some_of{v:V}{o:Option Value}(r:ZgJ (some v) o):∃u,o=some u/\RelV v u:=by
 cases o with
 | none=>exact(show False from r).elim
 | some u=>exact⟨u,rfl,r⟩
end L2
namespace L2
open PySem PySem.Spec PyProof.Rows
structure Zaq(k:Nat)(A:Around):Prop where
 hd:A.handled=none
 dp:A.depth+3*k+5<recursionLimit
 un:A.units+16*k+200<cLine
theorem Zaq.mono{j k:Nat}{A:Around}(r:Zaq k A)(h:j<=k):Zaq j A:=⟨r.hd,by have:=r.dp; omega,by have:=r.un; omega⟩
theorem Zaq.deeper{k:Nat}{A:Around}(r:Zaq (k+1) A)(env:Env):Zaq k (A.deeper env) :=
 ⟨r.hd,by have:=r.dp; show A.depth+1+3*k+5<_; omega,by have:=r.un; show A.units+3+16*k+200<_; omega⟩
theorem Zaq.depth{k:Nat}{A:Around}(r:Zaq k A):A.depth<recursionLimit:=by have:=r.dp; omega
theorem Zaq.units{k:Nat}{A:Around}(r:Zaq k A):A.units+64<cLine:=by have:=r.un; omega
def Zxn:TA:=λ_ H Q=>Q [] H
def ZwR(ta:TE)(tr:TA):TA:=λσ H Q=>ta σ H λx H1=>tr σ H1 λxs H2=>Q (x::xs) H2
section
variable{X:Cx}{e:Expr}{es:List Expr}{te:TE}{t:TA}{pos:Pos}
theorem Zb3:PA X [] Zxn:=λ_ _ _ _ H Q I h=>Calls.spliced_nil ⟨[],H,I,.nil,h⟩
theorem ZaI(ha:PE X e te)(hr:PA X es t)(hs:Zx6 (e::es) X.env=(false,eval e X.env)::Zx6 es X.env:=by rfl):PA X (e::es) (ZwR te t):=by intro pos pins s σ H Q I h;rw[hs];show wpAny _ _ (spliced ((false,eval e X.env)::backTo pos (Zx6 es X.env))) _ _ s;refine ZBu (thn (ha pins s σ H _ I h) λu s1 ⟨x,H1,I1,r1,q1⟩=>?_);exact thn (hr pos pins s1 σ H1 _ I1 q1) λus s2 ⟨xs,H2,I2,r2,q2⟩=>⟨x::xs,H2,I2,.cons r1 r2,q2⟩
def Zxe(t:TA):TE:=λσ H Q=>t σ H λxs H1=>xs.length<=sizeLine/\∀p,H1 p=none->Q (.ref p) (upd H1 p (.tup xs))
def Zxb(t:TA):TE:=λσ H Q=>t σ H λxs H1=>xs.length<=sizeLine/\∀p,H1 p=none->Q (.ref p) (upd H1 p (.lst xs))
theorem Zve{x1}(h:PA X es t):PE X (.Tuple es x1 pos) (Zxe t):=by intro pins s σ H Q I hq;refine wpAny_Tuple_spliced (thn (h pos pins s σ H _ I hq) λus s1 ⟨xs,H1,I1,r,z,q⟩=>⟨by rw[<-r.length]; exact z,?_⟩);have hf:H1 s1.heap.objs.size=none:=I1.hok.fresh (Zx2 _);refine⟨.ref s1.heap.objs.size,upd H1 s1.heap.objs.size (.tup xs),I1.laid (t':=s1.toks) (λb u e=>ZxX _ e) (Zx2 _) ?_,rfl,q _ hf⟩;exact⟨z,us,r,⟨_,Zx9 _ rfl,rfl,_,rfl⟩⟩
theorem Zu9(h:PA X es t):PE X (.List es pos) (Zxb t):=by intro pins s σ H Q I hq;refine wpAny_List_spliced (thn (h pos pins s σ H _ I hq) λus s1 ⟨xs,H1,I1,r,z,q⟩=>⟨by rw[<-r.length]; exact z,?_⟩);have hf:H1 s1.heap.objs.size=none:=I1.hok.fresh (Zx2 _);refine⟨.ref s1.heap.objs.size,upd H1 s1.heap.objs.size (.lst xs),I1.laid (t':=s1.toks) (λb u e=>ZxX _ e) (Zx2 _) ?_,rfl,q _ hf⟩;exact⟨z,us,0,r,Zx9 _ rfl⟩
end
abbrev Sp:=List V->Hp->VK->XK->Prop
abbrev CXT:=List Env->Hp->Shared->XK->Value->Shared->Prop
structure ZeH(P:Program)(w:World)(K:ZxR)(mg:Str->Option Value)(base:Heap)(A:Around)(outer:List Env)(s:Shared)(H:Hp):Prop where
 frames:A.frames=some outer
 mod:Mod K mg base
 bs:∀b o,base.get? b=some o->s.heap.get? b=some o/\H b=none
 bsz:base.objs.size<=s.heap.objs.size
 funs:s.heap.FunFrames base outer
 frf:∀b∈frs outer,H b=none
 hok:HOk P w H s.heap
 bare:AllBare s.gens
def CE(outer:List Env)(P:Program)(w:World)(H:Hp)(s:Shared)(Q:VK)(u:Value)(s':Shared):Prop :=
 ∃v H',s'.os=s.os/\AllBare s'.gens/\Un (frs outer) [] H H' s.heap s'.heap/\HOk P w H' s'.heap/\RelV v u/\Q v H'
def CR(CX:CXT)(outer:List Env)(P:Program)(w:World)(H:Hp)(s:Shared)(Q:VK)(E:XK)(r:Result)(s':Shared):Prop :=
 match r with
 | .ok (.ret u)=>CE outer P w H s Q u s'
 | .ok _=>False
 | .error e=>CX outer H s E e s'
structure Zde(P:Program)(w:World)(K:ZxR)(mg:Str->Option Value)(base:Heap)(CX:CXT)(k:Nat)(f:Addr)(fd:FuncData)(ps:List Str)(sp:Sp):Prop where
 len:∀vs H Q E,sp vs H Q E->vs.length=ps.length
 run:∀(A:Around) (outer:List Env) (s:Shared) (H:Hp) (args:Args) (us:List Value) (vs:List V) (Q:VK) (E:XK),Zaq k A->ZeH P w K mg base A outer s H->BindsTo s fd args (ps.zip us)->Vals vs us->sp vs H Q E ->
  codeAny (model P w) A (.call (.ref f) args) (CR CX outer P w H s Q E) s
theorem Zde.mono{P:Program}{w:World}{K:ZxR}{mg:Str->Option Value}{base:Heap}{CX:CXT}{j k:Nat}{f:Addr}{fd:FuncData}{ps:List Str}{sp:Sp}(F:Zde P w K mg base CX j f fd ps sp)(h:j<=k) :
  Zde P w K mg base CX k f fd ps sp:=⟨F.len,λA outer s H args us vs Q E hr=>F.run A outer s H args us vs Q E (hr.mono h)⟩
section
variable{X:Cx}{pins:List (Addr × Obj)}{σ:St}{H:Hp}{s s':Shared}
theorem Inv.env0(I:Inv X pins σ H s):ZeH X.prog X.w X.K X.mg X.base X.A X.stack s H :=
 ⟨I.ok.frames,I.ok.mod,I.bs,ZyG I.ok.bsz I.sz,I.stack,I.stkFree,I.hok,I.bare⟩
theorem Inv.after{Q:VK}{u:Value}(I:Inv X pins σ H s)(h:CE X.stack X.prog X.w H s Q u s'):EP X pins σ Q u s':=by obtain⟨v,H',os,bare,un,hok,r,q⟩:=h;obtain⟨hh,g,d,t,os'⟩:=s';obtain rfl:os'=s.os:=os;exact⟨v,H',I.call (h':=hh) (g':=g) (d':=d) (t':=t) (ch:=[]) un hok bare (λb z=>absurd z (by simp)),r,q⟩
end
def Zwu(sp:Sp)(dvs:List V)(E:XK)(t:TA):TE:=λσ H Q=>t σ H λvs H1=>sp (vs++dvs) H1 Q E
def Binds(K:ZxR)(fd:FuncData)(ps:List Str)(ds:List Value):Prop :=
 ∀(s:Shared) (us:List Value),K.In s.heap->(us++ds).length=ps.length->BindsTo s fd ⟨us,[]⟩ (ps.zip (us++ds))
theorem Binds.all{K:ZxR}{fd:FuncData}{ps:List Str}(h:∀us:List Value,us.length=ps.length->bindArgs fd ⟨us,[]⟩=pure (ps.zip us)):Binds K fd ps []:=λs us _ hl=>by rw[Zyu]at hl ⊢;exact .of_eq (h us hl)
def Passes(CX:CXT)(X:Cx)(E:XK):Prop:=∀(pins:List (Addr × Obj)) (σ:St) (H:Hp) (s:Shared) (e:Value) (s':Shared),Inv X pins σ H s->CX X.stack H s E e s'->X.xe e s'
section
variable{X:Cx}{CX:CXT}{k:Nat}{f C:Addr}{fd:FuncData}{ps:List Str}{sp:Sp}{dvs:List V}{ds:List Value}{E:XK}{x m:Str}{p pos apos:Pos}{e o:Expr}{es:List Expr}{ta:TE}{t:TA}
theorem ZvN{pins:List (Addr × Obj)}{σ:St}{H:Hp}{s:Shared}{Q:VK}{us:List Value}{vs:List V}(F:Zde X.prog X.w X.K X.mg X.base CX k f fd ps sp)(hr:Zaq k X.A)(hb:Binds X.K fd ps ds)(hd:Vals dvs ds)(hx:Passes CX X E)
  (I:Inv X pins σ H s) (r:Vals vs us) (h:sp (vs++dvs) H Q E):wpAny (model X.prog X.w) X.A (call (.ref f) us) (EP X pins σ Q) X.xe s:=by
 have r2:Vals (vs++dvs) (us++ds):=r.append hd;have hl:(us++ds).length=ps.length:=by rw[<-r2.length]; exact F.len _ _ _ _ h
 refine wpAny_call (ZzS (F.run X.A X.stack s H ⟨us,[]⟩ (us++ds) (vs++dvs) Q E hr I.env0 (hb s us I.kIn hl) r2 h) λr s' hq=>?_);cases r with
 | error e=>exact hx pins σ H s e s' I hq
 | ok fl =>
  cases fl with
  | ret u=>exact I.after hq
  | next=>exact ZyU hq
  | brk=>exact ZyU hq
  | cont=>exact ZyU hq
theorem Zk4(F:Zde X.prog X.w X.K X.mg X.base CX k f fd ps sp)(hr:Zaq k X.A)(hg:Gl X x)(hm:X.mg x=some (.ref f))(hk:Zzd X.K (.ref f)=true)(hb:Binds X.K fd ps ds)(hd:Vals dvs ds)(hx:Passes CX X E)
  (ha:PA X (e::es) t) (hdb:(x==("__debug__":Str))=false:=by decide) (he:Zx6 (e::es) X.env=(false,eval e X.env)::Zx6 es X.env:=by rfl) (hpl:(backTo pos (Zx6 es X.env)).any (·.1)=false:=by rfl) :
  PE X (.Call (.Name x p) (e::es) [] pos) (Zwu sp dvs E t):=by
 intro pins s σ H Q I h;refine ZzT (Zli I hg hm ?_ hdb);refine ZCz (h₀:=X.base) I.ok.mod.kin hk (thn (ha pos pins s σ H _ I h) λus s1 ⟨vs,H1,I1,r,q⟩=>⟨I1.kIn,?_⟩) he hpl;exact ZvN F hr hb hd hx I1 r q
end
structure Zs(N P:List Str)(sc:Scope):Prop where
 kind:sc.kind=.function
 co:sc.isCoroutine=false
 gen:sc.isGenerator=false
 nd:N.Nodup
 pre:N.take P.length=P
 par:∀x∈P,sc.names.lookup x=some .local\/sc.names.lookup x=some .cell
 nofree:∀y∈sc.names,y.2≠.free
theorem Zlr{kindOf:Str->Option NameKind}{x:Str}:∀{binds:List (Str × Value)} {m:Str->Option Value},(∀v,(x,v) ∉ binds)->bindL kindOf binds m x=m x
 | [],_,_=>rfl
 | (n,v)::r,m,h=>by
  unfold bindL;rw[Zlr λw hw=>h w (ZxW _ hw)];split
  ·have:x≠n:=by rintro rfl; exact h v ZxU
   simp[this]
  ·rfl
theorem Zlt{kindOf:Str->Option NameKind}{x:Str}:∀{binds:List (Str × Value)} {m:Str->Option Value},(∀v,(x,v) ∉ binds)->bindC kindOf binds m x=m x
 | [],_,_=>rfl
 | (n,v)::r,m,h=>by
  unfold bindC;rw[Zlt λw hw=>h w (ZxW _ hw)];split
  ·rfl
  ·have:x≠n:=by rintro rfl; exact h v ZxU
   simp[this]
theorem Zls{kindOf:Str->Option NameKind}{x:Str}{v:Value}:∀{P:List Str} {vs:List Value} {i:Nat} {m:Str->Option Value},P.Nodup->P[i]?=some x->vs[i]?=some v->kindOf x=some .local ->
  bindL kindOf (P.zip vs) m x=some v
 | [],_,_,_,_,h,_,_=>by simp at h
 | _::_,[],_,_,_,_,h,_=>by simp at h
 | p::P,w::vs,0,m,nd,h1,h2,hk=>by simp at h1 h2; subst h1; subst h2;show bindL kindOf ((p,w)::P.zip vs) m p=_;unfold bindL;rw[Zlr λv hv=>(ZyL.mp nd).1 (ZB2 hv).1,if_pos hk];simp
 | p::P,w::vs,i+1,m,nd,h1,h2,hk=>by show bindL kindOf ((p,w)::P.zip vs) m x=_;unfold bindL;exact Zls (i:=i) (ZyL.mp nd).2 (by simpa using h1) (by simpa using h2) hk
theorem Zlv{kindOf:Str->Option NameKind}{x:Str}{v:Value}:∀{P:List Str} {vs:List Value} {i:Nat} {m:Str->Option Value},P.Nodup->P[i]?=some x->vs[i]?=some v->kindOf x≠some .local ->
  bindC kindOf (P.zip vs) m x=some v
 | [],_,_,_,_,h,_,_=>by simp at h
 | _::_,[],_,_,_,_,h,_=>by simp at h
 | p::P,w::vs,0,m,nd,h1,h2,hk=>by simp at h1 h2; subst h1; subst h2;show bindC kindOf ((p,w)::P.zip vs) m p=_;unfold bindC;rw[Zlt λv hv=>(ZyL.mp nd).1 (ZB2 hv).1,if_neg hk];simp
 | p::P,w::vs,i+1,m,nd,h1,h2,hk=>by show bindC kindOf ((p,w)::P.zip vs) m x=_;unfold bindC;exact Zlv (i:=i) (ZyL.mp nd).2 (by simpa using h1) (by simpa using h2) hk
def start(N:List Str)(vs:List V):St:=vs.map some++Zyp (N.length-vs.length) none
def Zf4(CX:CXT)(P:Program)(w:World)(K:ZxR)(mg:Str->Option Value)(base:Heap)(N:List Str)(qual:Str)(scope:Scope)(f:Addr)(cd:Value)(A:Around)(outer:List Env)(s:Shared)(H:Hp)(E:XK):Cx where
 prog:=P
 w:=w
 K:=K
 mg:=mg
 base:=base
 A:=A.deeper (envOfC qual scope s.heap.objs.size f cd)
 N:=N
 s₀:=s
 H₀:=H
 env:=envOfC qual scope s.heap.objs.size f cd
 outer:=outer
 stack:=envOfC qual scope s.heap.objs.size f cd::outer
 ex:=[]
 calm:=true
 fn:=λ_=>true
 pn:=[]
 xe:=λe s'=>wpAny (model P w) (A.deeper (envOfC qual scope s.heap.objs.size f cd)) (leaving (envOfC qual scope s.heap.objs.size f cd) e) (λ_ s''=>CX outer H s E e s'') (λe' s''=>CX outer H s E e' s'') s'
theorem Znp{sc:Scope}{n:Nat}{x:Str}(h:sc.names.lookup x=some .cell):∃c,(cellsFrom n sc.names []).lookup x=some c:=by have q:=ZCa sc.names n [] (.inl h);exact Zys.mp q
theorem ZrY{CX:CXT}{P:Program}{w:World}{K:ZxR}{mg:Str->Option Value}{base:Heap}{N ps:List Str}{qual:Str}{scope:Scope}{f:Addr}{cd:Value}{A:Around}{outer:List Env}{s s1:Shared}{H:Hp}{E:XK}{us:List Value}{vs:List V}
  (S:Zs N ps scope) (hd:A.handled=none) (e0:ZeH P w K mg base A outer s H) (hl:vs.length=ps.length) (r:Vals vs us)
  (x:InCallC s s.heap.objs.size (bindL (envOfC qual scope s.heap.objs.size f cd).kindOf (ps.zip us) λ_=>none) (cellsFrom (s.heap.objs.size+1) scope.names []) (bindC (envOfC qual scope s.heap.objs.size f cd).kindOf (ps.zip us) λ_=>none) s1) :
  Inv (Zf4 CX P w K mg base N qual scope f cd A outer s H E) [] (start N vs) H s1:=by
 have hpl:ps.length<=N.length:=by have:=congrArg ZyB S.pre; rw[Zzp]at this; omega
 obtain⟨h1,tk,rfl,hk⟩:=x.done;have noA:∀b:Addr,b ∉ (Zf4 CX P w K mg base N qual scope f cd A outer s H E).ex:=λb z=>absurd (show b∈([]:List Addr) from z) (by simp);refine⟨⟨e0.mod,S.kind,rfl,rfl,Zx2 _,λy z c h1 h2=>?_,λy hy=>?_,λy c _ h=>?_,λ_=>hd,ZCo e0.frames,.inr ⟨rfl,rfl⟩,λb z=>absurd z (noA b),e0.bs,e0.bsz,λb _ _=>noA b,λb z=>absurd z (noA b),e0.funs,e0.frf⟩,
  rfl,e0.bare,Un.kept hk,⟨_,x.toInCall.ns,λi y v h1 h2 h3=>?_⟩,λy c h=>⟨_,x.cell y c h⟩,e0.hok.fresh (Zx2 _),λy c h=>?_,λp hp=>absurd (show p∈([]:List (Addr × Obj)) from hp) (by simp),e0.hok.kept hk,?_⟩
 ·exact name_of_addr x.apart (Zzk h1) (Zzk h2)
 ·have hy:scope.names.lookup y=some .cell\/scope.names.lookup y=some .free:=hy
  rcases hy with hy | hy
  ·exact Znp hy
  ·exact absurd rfl (S.nofree _ (Zzk hy))
 ·exact ZzG (x.above y c (Zzk h))
 ·have hi:i<vs.length:=by
   unfold start at h2
   by_cases hi:i<vs.length
   ·exact hi
   ·rw[ZyA (by simpa using hi)]at h2
    rw[ZAf]at h2;split at h2<;>cases h2
  have ha:vs[i]?=some v:=by
   unfold start at h2;rw[ZyE (by simpa using hi),Zyk]at h2;cases e:vs[i]? with
   | none=>rw[e]at h2; cases h2
   | some a=>rw[e]at h2; cases h2; rfl
  obtain⟨u,hu,rv⟩:=r.get ha;have hp:ps[i]?=some y:=by rw[<-S.pre,ZBR (by omega)]; exact h1
  have ndP:ps.Nodup:=by rw[<-S.pre]; exact S.nd.sublist (List.take_sublist _ _)
  refine⟨u,rv,?_⟩;rcases S.par y (Zym hp)with k | k
  ·exact .inl ⟨k,Zls ndP hp hu k⟩
  ·obtain⟨c,e⟩:=Znp (n:=s.heap.objs.size+1) k
   refine .inr ⟨.inl k,c,e,?_⟩;have q:=x.cell y c e;rw[Zlv ndP hp hu (by show scope.names.lookup y≠_; rw[k]; decide)]at q;exact q
 ·exact e0.hok.fresh (ZzG (x.above y c (Zzk h)))
 ·unfold start
  show _=N.length;rw[Zyc,ZxS,ZyC];omega
theorem ZtK{CX:CXT}{P:Program}{w:World}{K:ZxR}{mg:Str->Option Value}{base:Heap}{k:Nat}{f:Addr}{name qual:Str}{params:Arguments}{body:List Stmt}{scope:Scope}{dV kV doc pm cdv ct oc:Value}{an od:Option Addr}
  {osl:Array (Option Value)} {N ps:List Str} {sp:Sp} (lk:K.lookup f=some ⟨oc,od,.func (Zy6 name qual params body scope dV kV doc pm an cdv ct),osl⟩) (hcd:ZzO K cdv qual=true) (S:Zs N ps scope)
  (len:∀vs H Q E,sp vs H Q E->vs.length=ps.length)
  (hbody:∀(A:Around) (outer:List Env) (s:Shared) (H:Hp) (vs:List V) (Q:VK) (E:XK),Zaq k (A.deeper (envOfC qual scope s.heap.objs.size f cdv))->sp vs H Q E ->
   ∃t,PSs (Zf4 CX P w K mg base N qual scope f cdv A outer s H E) body t/\t { nx:=λ_ H'=>Q .non H',rt:=Q } (start N vs) H) :
  Zde P w K mg base CX (k+1) f (Zy6 name qual params body scope dV kV doc pm an cdv ct) ps sp:=by
 refine⟨len,λA outer s H args us vs Q E hr e0 hb r hsp=>?_⟩;have hl:=len _ _ _ _ hsp;have KX:K.In s.heap:=e0.mod.kin.keeps λb o e=>(e0.bs b o e).1;have lim:s.heap.NoLimit:=e0.mod.nolimit.keeps λb o e=>(e0.bs b o e).1;have hkind:∀y∈ps.zip us,scope.names.lookup y.1=some .local\/(scope.names.lookup y.1=some .cell/\((cellsFrom (s.heap.objs.size+1) scope.names []).lookup y.1).isSome=true):=λ⟨n,v⟩ hy=>by
  rcases S.par n (ZB2 hy).1 with q | q
  ·exact .inl q
  ·exact .inr ⟨q,ZCa _ _ _ (.inl q)⟩
 refine codeAny_call_function hr.depth (KX _ _ lk) rfl S.co S.gen rfl (PySem.W.codeRec_of KX hcd) (hb _ _ _ _ ?_);refine wpAny_newFunctionEnv_cells S.kind hkind λenv he s1 x=>?_;subst he;refine⟨lim.keeps x.toInCall.keep,codeAny_func ?_⟩;obtain⟨t,ht,hq⟩:=hbody A outer s H vs Q E (hr.deeper _) hsp;have I:Inv (Zf4 CX P w K mg base N qual scope f cdv A outer s H E) [] (start N vs) H s1:=ZrY S hr.hd e0 hl r x;refine Zy3 (ht [] s1 (start N vs) H _ I hq) (λfl s' hs=>?_) λe s' hs=>hs;have fin:∀{σ':St} {H':Hp} {v:V} {u:Value},Inv (Zf4 CX P w K mg base N qual scope f cdv A outer s H E) [] σ' H' s'->RelV v u->Q v H'->CE outer P w H s Q u s' :=
  λ{σ' H' v u} J rv q=>⟨v,H',J.os,J.bare,J.base,J.hok,rv,q⟩
 cases fl with
 | ret u=>obtain⟨v,σ',H',J,rv,q⟩:=hs;exact fin J rv q
 | next=>obtain⟨σ',H',J,q⟩:=hs;exact fin (v:=V.non) (u:=ZyS) J rfl q
 | brk=>obtain⟨_,_,_,q⟩:=hs;exact ZyU q
 | cont=>obtain⟨_,_,_,q⟩:=hs;exact ZyU q
end L2
namespace L2
open PySem PySem.Spec PyProof.Rows
section
variable{X:Cx}{x:Str}{p pos:Pos}{e:Expr}{es:List Expr}{t:TA}{id T:String}{r:List V->Hp->VK->Prop}
def tCB(r:List V->Hp->VK->Prop)(t:TA):TE:=λσ H Q=>t σ H λvs H1=>r vs H1 Q
theorem Zdh(hc:Za7 X (.builtin id) r)(hg:Gl X x)(hm:X.mg x=none)(hv:ZyN x=some (.builtin id))(ha:PA X (e::es) t)(hn:x ≠ "__name__":=by decide)(hdb:(x==("__debug__":Str))=false:=by decide)
  (he:Zx6 (e::es) X.env=(false,eval e X.env)::Zx6 es X.env:=by rfl) (hpl:(backTo pos (Zx6 es X.env)).any (·.1)=false:=by rfl):PE X (.Call (.Name x p) (e::es) [] pos) (tCB r t):=by
 intro pins s σ H Q I h;refine ZzT (Ziw I hg hm hv ?_ hn hdb);exact PyProof.Rows.callWith_builtin1 (thn (ha pos pins s σ H _ I h) λus s1 ⟨vs,H1,I1,r1,q1⟩=>hc pins s1 σ H1 vs us Q I1 r1 q1) he hpl
theorem Zdf(hc:Za7 X (.type T) r)(hg:Gl X x)(hm:X.mg x=none)(hv:ZyN x=some (.type T))(ha:PA X (e::es) t)(hn:x ≠ "__name__":=by decide)(hdb:(x==("__debug__":Str))=false:=by decide)
  (he:Zx6 (e::es) X.env=(false,eval e X.env)::Zx6 es X.env:=by rfl) (hpl:(backTo pos (Zx6 es X.env)).any (·.1)=false:=by rfl):PE X (.Call (.Name x p) (e::es) [] pos) (tCB r t):=by
 intro pins s σ H Q I h;refine ZzT (Ziw I hg hm hv ?_ hn hdb);exact ZBt (thn (ha pos pins s σ H _ I h) λus s1 ⟨vs,H1,I1,r1,q1⟩=>hc pins s1 σ H1 vs us Q I1 r1 q1) he hpl
end
end L2
namespace HT
set_option maxHeartbeats 8000000
open PySem PyProof.Rows
section
open PySem.SeqAt
open PySem.AutoSeq1 (wpAny_loadPart')
open PySem.MeetsSeq PySem.MeetsSeq2 PySem.MeetsSeq3
end
section
variable{prog:Program}{w:World}{A:Around}{E:Value->Shared->Prop}{s:Shared}
def sIx(n d:Nat):Option Int->Nat
 | none=>d
 | some v=>if v<0 then(v+(n:Int)).toNat else min v.toNat n
end
end HT
namespace L2
open PySem PySem.Spec PyProof.Rows
abbrev TO:=St->Hp->(Option Int->Hp->Prop)->Prop
def PO(X:Cx)(e:Option Expr)(t:TO):Prop :=
 ∀(pins:List (Addr × Obj)) (s:Shared) (σ:St) (H:Hp) (Q:Option Int->Hp->Prop),Inv X pins σ H s->t σ H Q ->
  wpAny (model X.prog X.w) X.A (evalPart e X.env) (λu s'=>∃o H',Inv X pins σ H' s'/\IsPart u o/\Q o H') X.xe s
def Zus:TO:=λ_ H Q=>Q none H
def ZwN(t:TE):TO:=λσ H Q=>t σ H λx H1=>∃i,x=.int i/\Q (some i) H1
section
variable{X:Cx}{e:Expr}{te:TE}{lo hi:Option Expr}{tl th:TO}{pos p2:Pos}
theorem Zuk:PO X none Zus:=by intro pins s σ H Q I h;rw[evalPart_none];exact ZxV ⟨none,H,I,.none,h⟩
theorem Zuy(h:PE X e te):PO X (some e) (ZwN te):=by intro pins s σ H Q I hw;rw[evalPart_some];refine thn (h pins s σ H _ I hw) λu s1 ⟨x,H1,I1,r1,q1⟩=>?_;obtain⟨i,rfl,q⟩:=q1;obtain⟨t,rfl⟩:=r1;exact⟨some i,H1,I1,.int i t,q⟩
def SlR(X:Cx)(r:V->Option Int->Option Int->Hp->VK->Prop):Prop :=
 ∀(pins:List (Addr × Obj)) (s:Shared) (σ:St) (H:Hp) (x:V) (v vl vu:Value) (lo hi:Option Int) (sl:Addr) (Q:VK),Inv X pins σ H s->RelV x v->s.heap.IsSliceOf sl vl vu .none->IsPart vl lo->IsPart vu hi->r x lo hi H Q ->
  ∃T id,typeLookup (.type T) "__getitem__" = pure (some (.builtin id))/\s.TypeIs v T/\wpAny (model X.prog X.w) X.A (getItem v (.ref sl)) (EP X pins σ Q) X.xe s
def tSl(r:V->Option Int->Option Int->Hp->VK->Prop)(te:TE)(tl th:TO):TE:=λσ H Q=>te σ H λx H1=>tl σ H1 λl H2=>th σ H2 λu H3=>r x l u H3 Q
theorem ZsJ{r:V->Option Int->Option Int->Hp->VK->Prop}(hr:SlR X r)(he:PE X e te)(hl:PO X lo tl)(hu:PO X hi th):PE X (.Subscript e (.Slice lo hi none p2) pos) (tSl r te tl th):=by intro pins s σ H Q I h;refine Subscript_ (thn (he pins s σ H _ I h) λv s1 ⟨x,H1,I1,r1,q1⟩=>?_);refine wpAny_Slice (thn (hl pins s1 σ H1 _ I1 q1) λvl s2 ⟨l,H2,I2,pl,q2⟩=>thn (hu pins s2 σ H2 _ I2 q2) λvu s3 ⟨u,H3,I3,pu,q3⟩=>?_);rw[evalPart_none];refine ZxV ?_;have I4:Inv X pins σ H3 { s3 with heap:=s3.heap.push { cls:=.type "slice",data:=.fields #[vl,vu,.none] } }:=I3.kept (t':=s3.toks) λb ob q=>ZxX _ q;obtain⟨T,id,hT,ht,hg⟩:=hr pins { s3 with heap:=s3.heap.push { cls:=.type "slice",data:=.fields #[vl,vu,.none] } } σ H3 x v vl vu l u s3.heap.objs.size Q I4 r1 (Heap.IsSliceOf.new ..) pl pu q3;show wpAny (model X.prog X.w) X.A (subscriptTail e (.Slice lo hi none p2) v (.ref s3.heap.objs.size)) (EP X pins σ Q) X.xe { s3 with heap:=s3.heap.push { cls:=.type "slice",data:=.fields #[vl,vu,.none] } };exact tail_any (ops:=[.ref s3.heap.objs.size,v]) ht hT hg (by with_unfolding_all rfl)
def Zn5(xs:List V)(lo hi:Option Int):List V:=(xs.drop (HT.sIx xs.length 0 lo)).take (HT.sIx xs.length xs.length hi-HT.sIx xs.length 0 lo)
theorem Zo5(xs:List V)(lo hi:Option Int):(Zn5 xs lo hi).length<=xs.length:=by unfold Zn5;rw[Zzp,ZAu];omega
end
end L2
namespace L2
open PySem PySem.Spec PyProof.Rows
def ixN(n:Nat)(i:Int):Option Nat:=if 0<=i then(if i<n then some i.toNat else none)else if -(n:Int)<=i then some (i+n).toNat else none
def atI{α:Type}(xs:List α)(i:Int):Option α:=(ixN xs.length i).bind λj=>xs[j]?
theorem ZpJ{n:Nat}{i:Int}{j:Nat}(h:ixN n i=some j):seqIndex? i n=some j/\j<n/\-(n:Int)<=i/\i<n:=by
 unfold ixN at h
 by_cases h0:0<=i
 ·rw[if_pos h0]at h
  by_cases h1:i<n
  ·rw[if_pos h1]at h
   have e:i.toNat=j:=ZyK h;exact⟨by rw[seqIndex_of h0 h1,e],by omega,by omega,h1⟩
  ·rw[if_neg h1]at h; cases h
 ·rw[if_neg h0]at h
  by_cases h1:-(n:Int)<=i
  ·rw[if_pos h1]at h
   have e:(i+n).toNat=j:=ZyK h;exact⟨by rw[seqIndex_neg (by omega) h1,e],by omega,h1,by omega⟩
  ·rw[if_neg h1]at h; cases h
theorem Zk6{α:Type}{xs:List α}{i:Int}{v:α}(h:atI xs i=some v):∃j,seqIndex? i xs.length=some j/\xs[j]?=some v/\j<xs.length/\-(xs.length:Int)<=i/\i<xs.length:=by
 unfold atI at h;cases e:ixN xs.length i with
 | none=>rw[e]at h; cases h
 | some j=>rw[e]at h;obtain⟨h1,h2,h3,h4⟩:=ZpJ e;exact⟨j,h1,h,h2,h3,h4⟩
def ZpL(b:Expr):Prop:=∀o i,ZCb b false o i=operate [o,i] (getItem o i)
def IxR(X:Cx)(r:R2):Prop :=
 ∀(value slice:Expr) (pins:List (Addr × Obj)) (s:Shared) (σ:St) (H:Hp) (x y:V) (v u:Value) (Q:VK),Inv X pins σ H s->RelV x v->RelV y u->r x y H Q ->
  ZCb slice false v u=operate [v,u] (getItem v u)->wpAny (model X.prog X.w) X.A (subscriptTail value slice v u) (EP X pins σ Q) X.xe s
def MtR(X:Cx)(id:String)(r:V->List V->Hp->VK->Prop):Prop :=
 ∀(pins:List (Addr × Obj)) (s:Shared) (σ:St) (H:Hp) (x:V) (xs:List V) (v:Value) (us:List Value) (Q:VK),Inv X pins σ H s->RelV x v->Vals xs us->r x xs H Q ->
  wpAny (model X.prog X.w) X.A (call (.builtin id) (v::us)) (EP X pins σ Q) X.xe s
section
variable{X:Cx}{a b:Expr}{ta tb:TE}{pos:Pos}
theorem IxR.or{r r':R2}(h:IxR X r)(h':IxR X r'):IxR X (λx y H Q=>r x y H Q\/r' x y H Q):=by
 intro value slice pins s σ H x y v u Q I rx ry q hs;rcases q with q | q
 ·exact h value slice pins s σ H x y v u Q I rx ry q hs
 ·exact h' value slice pins s σ H x y v u Q I rx ry q hs
theorem Zwv{r:R2}(hr:IxR X r)(ha:PE X a ta)(hb:PE X b tb)(hs:ZpL b):PE X (.Subscript a b pos) (tOp r ta tb):=by intro pins s σ H Q I h;exact Subscript_ (Zsu ha hb I h λv u s2 x y H2 I2 rx ry q=>hr a b pins s2 σ H2 x y v u Q I2 rx ry q (hs _ _))
def Zwo(K:ZxR):R2:=λx y H Q=>∃p xs i v,x=.ref p/\y=.int i/\SqL K H p xs/\atI xs i=some v/\Q v H
def Zvf(K:ZxR):R2:=λx y H Q=>∃p xs i v,x=.ref p/\y=.int i/\SqT K H p xs/\atI xs i=some v/\Q v H
def Zwp:R2:=λx y H Q=>∃z i c,x=.str z/\y=.int i/\z.length<=sizeLine/\atI z.cps.toList i=some c/\Q (.str ⟨#[c]⟩) H
theorem ZuB:IxR X (Zwo X.K):=by
 intro value slice pins s σ H x y v u Q I rx ry h hs;obtain⟨p,xs,i,z,rfl,rfl,hq,he,q⟩:=h;cases rx;obtain⟨t,rfl⟩:=ry;obtain⟨its,r,pl,hz⟩:=I.list hq;obtain⟨j,h1,h2,h3,h4,h5⟩:=Zk6 he;obtain⟨w,ew,rw'⟩:=r.get h2;have hl:=r.length;have hn:=ZiP;have fin:EP X pins σ Q w s:=⟨z,H,I,rw',q⟩
 by_cases h0:0<=i
 ·have hj:i.toNat=j:=by
   rw[seqIndex_of h0 h5]at h1;exact ZyK h1
  exact item_listR pl.isList h0 (by omega) (by rw[hj]; simpa using ew) fin hs
 ·have hj:(i+(its.toArray.size:Int)).toNat=j:=by
   rw[seqIndex_neg (by omega) h4]at h1;rw[Zya,<-hl];exact ZyK h1
  exact subscriptTail_builtinR (x:=w) pl.isList.typeIs slot_list_getitem.lookup
   (wpAny_getItem_list_neg (Q:=λr s'=>r=w/\EP X pins σ Q r s') pl.isList (by omega) (by rw[Zya]<;>omega) (by omega) (by rw[hj]; simpa using ew) ⟨rfl,fin⟩) hs
theorem Zv7:IxR X (Zvf X.K):=by
 intro value slice pins s σ H x y v u Q I rx ry h hs;obtain⟨p,xs,i,z,rfl,rfl,hq,he,q⟩:=h;cases rx;obtain⟨t,rfl⟩:=ry;obtain⟨its,r,pl,hz⟩:=I.tuple hq;obtain⟨j,h1,h2,h3,h4,h5⟩:=Zk6 he;obtain⟨w,ew,rw'⟩:=r.get h2;have hl:=r.length;have hn:=ZiP;have fin:EP X pins σ Q w s:=⟨z,H,I,rw',q⟩;exact subscriptTail_builtinR (x:=w) pl.typeIs slot_tuple_getitem.lookup
  (getItem_tuple (j:=j) (Q:=λr s'=>r=w/\EP X pins σ Q r s') pl (by omega) (by omega) (by rw[Zya,<-hl]; exact h1) (by simpa using ew) ⟨rfl,fin⟩) hs
theorem Zvt:IxR X Zwp:=by
 intro value slice pins s σ H x y v u Q I rx ry h hs;obtain⟨z,i,c,rfl,rfl,hz,he,q⟩:=h;obtain⟨t,rfl⟩:=rx;obtain⟨t',rfl⟩:=ry;obtain⟨j,h1,h2,h3,h4,h5⟩:=Zk6 he;have hl:z.cps.toList.length=z.length:=by simp[Str.length]
 rw[hl]at h1 h4 h5;have hn:=ZiP;exact tail_any (typeIs_str s z t) slot_str_getitem.lookup (getItem_str (c:=c) (by have e1:decide (i < -(2 ^ 63:Int))=false:=decide_eq_false (by omega);have e2:decide (i ≥ 2 ^ 63)=false:=decide_eq_false (by omega);rw[e1,e2,Bool.or_false]) (by rw[h1]; simpa using h2) ⟨.str ⟨#[c]⟩,H,I.tok _,⟨_,rfl⟩,q⟩) hs
def rIx(K:ZxR):R2:=λx y H Q=>Zwo K x y H Q\/Zvf K x y H Q\/Zwp x y H Q
theorem ZvW:IxR X (rIx X.K):=ZuB.or (Zv7.or Zvt)
theorem Zqc(its:List Value)(n j:Nat)(u:Value):ZAL (·.setIfInBounds j u) { cls:=.type "list",data:=.seq its.toArray n }={ cls:=.type "list",data:=.seq (its.set j u).toArray n }:=by simp[ZAL]
theorem Inv.lst{pins:List (Addr × Obj)}{σ:St}{H:Hp}{s:Shared}{p:Addr}{xs:List V}(I:Inv X pins σ H s)(h:H p=some (.lst xs)) :
  ∃(its:List Value) (n:Nat),Vals xs its/\s.heap.get? p=some { cls:=.type "list",data:=.seq its.toArray n }/\xs.length<=sizeLine:=by
 obtain⟨z,its,n,r,e⟩:=I.hok p _ h;exact⟨its,n,r,e,z⟩
theorem Inv.lstUpd{pins:List (Addr × Obj)}{σ:St}{H:Hp}{s:Shared}{p:Addr}{xs ys:List V}{its its':List Value}{n n':Nat}{f:Obj->Obj}(I:Inv X pins σ H s)(h:H p=some (.lst xs))
  (ho:s.heap.get? p=some { cls:=.type "list",data:=.seq its.toArray n }) (hf:f { cls:=.type "list",data:=.seq its.toArray n }={ cls:=.type "list",data:=.seq its'.toArray n' }) (r:Vals ys its') (hz:ys.length<=sizeLine) (t:Nat) :
  Inv X pins σ (upd H p (.lst ys)) { s with heap:=s.heap.update p f,toks:=t }:=by
 have e:(s.heap.update p f).get? p=some { cls:=.type "list",data:=.seq its'.toArray n' }:=by rw[ZyZ f ho (by rw[hf]<;>rfl),hf]
 refine I.write (x:=p) (e:=p) (by rw[h]; trivial) (.inl rfl) (λb u hb q=>(Zze _ _ (ZyR hb)).trans q) ⟨_,e⟩ ?_;exact⟨hz,its',n',r,e⟩
def ZwE:V->V->V->Hp->(Hp->Prop)->Prop:=λo i v H Q=>∃p xs k j,o=.ref p/\i=.int k/\H p=some (.lst xs)/\ixN xs.length k=some j/\Q (upd H p (.lst (xs.set j v)))
theorem set_list:ZvR X ZwE:=by
 intro pins s σ H o i v ov iv u Q I ro ri rv h;obtain⟨p,xs,k,j,rfl,rfl,hp,hj,q⟩:=h;cases ro;obtain⟨t,rfl⟩:=ri;obtain⟨its,n,r,ho,hz⟩:=I.lst hp;obtain⟨h1,h2,h3,h4⟩:=ZpJ hj;have hl:=r.length;have hn:=ZiP;have I':Inv X pins σ (upd H p (.lst (xs.set j v))) { s with heap:=s.heap.update p (ZAL (·.setIfInBounds j u)) } :=
  I.lstUpd hp ho (Zqc its n j u) (r.set rv j) (by rw[Zy1]; exact hz) s.toks
 by_cases h0:0<=k
 ·have hk:k.toNat=j:=by
   rw[seqIndex_of h0 h4]at h1;exact ZyK h1
  exact PySem.W.ki_setAt ho h0 (by omega) (by rw[Zya,<-hl]; exact h4) (by rw[hk]; exact⟨_,I',q⟩)
 ·have hk:(k+(its.toArray.size:Int)).toNat=j:=by
   rw[seqIndex_neg (by omega) h3]at h1;rw[Zya,<-hl];exact ZyK h1
  exact PySem.W.ki_setBack ho (by omega) (by rw[Zya,<-hl]; exact h3) (by omega) (by rw[hk]; exact⟨_,I',q⟩)
theorem ZnH(lo hi:Option Int)(n:Nat):(ZAz lo hi none n).1=((HT.sIx n 0 lo:Nat):Int)/\(ZAz lo hi none n).2.1=((HT.sIx n n hi:Nat):Int)/\(ZAz lo hi none n).2.2=1:=by
 refine⟨?_,?_,rfl⟩
 ·cases lo with
  | none=>simp[ZAz,HT.sIx]
  | some i =>
   simp only[ZAz,HT.sIx,Option.getD_none,show(1:Int) > 0 by decide,if_true]
   by_cases h:i<0
   ·simp only[h,if_true]<;>omega
   ·simp only[h,if_false]<;>omega
 ·cases hi with
  | none=>simp[ZAz,HT.sIx]
  | some i =>
   simp only[ZAz,HT.sIx,Option.getD_none,show(1:Int) > 0 by decide,if_true]
   by_cases h:i<0
   ·simp only[h,if_true]<;>omega
   ·simp only[h,if_false]<;>omega
theorem Zmf(its:List Value)(lo hi:Option Int):slicePick its.toArray lo hi none=((its.drop (HT.sIx its.length 0 lo)).take (HT.sIx its.length its.length hi-HT.sIx its.length 0 lo)).toArray:=by obtain⟨h1,h2,h3⟩:=ZnH lo hi its.toArray.size;unfold slicePick;rw[h1,h2,h3];simp only[sliceRange_one,pick_run,Zya]<;>rfl
def Zxo(K:ZxR):V->Option Int->Option Int->Hp->VK->Prop:=λx lo hi H Q=>∃a xs,x=.ref a/\SqL K H a xs/\∀p,H p=none->Q (.ref p) (upd H p (.lst (Zn5 xs lo hi)))
theorem ZtX:SlR X (Zxo X.K):=by intro pins s σ H x v vl vu lo hi sl Q I rx hs pl pu h;obtain⟨a,xs,rfl,hx,q⟩:=h;cases rx;obtain⟨its,r,ht,hz⟩:=I.list hx;have hlen:=r.length;refine⟨"list",_,slot_list_getitem.lookup,ht.isList.typeIs,?_⟩;refine wpAny_getItem_list_slice ht.isList hs pl pu .none (by simp) ?_ (by rw[Zya]<;>omega);rw[Zmf,<-hlen];refine⟨.ref s.heap.objs.size,_,I.laid (t':=s.toks) (o:=.lst (Zn5 xs lo hi)) (λb ob q=>ZxX _ q) (Zx2 _) ?_,rfl,q _ (I.hok.fresh (Zx2 _))⟩;exact⟨ZyG (Zo5 xs lo hi) hz,_,0,(r.drop (HT.sIx xs.length 0 lo)).take (HT.sIx xs.length xs.length hi-HT.sIx xs.length 0 lo),Zx9 _ rfl⟩
def ZbJ:V->Bool
 | .non=>true
 | .bl _=>true
 | .int _=>true
 | .str _=>true
 | _=>false
def eqV:V->V->Bool
 | .non,.non=>true
 | .bl a,.bl b=>a==b
 | .bl a,.int b=>(if a then 1 else 0)==b
 | .int a,.bl b=>a==(if b then 1 else 0)
 | .int a,.int b=>a==b
 | .str a,.str b=>a==b
 | _,_=>false
theorem Zu8{A:Around}{s:Shared}{y x:V}{u v:Value}(ry:RelV y u)(rx:RelV x v)(fy:ZbJ y=true)(fx:ZbJ x=true):SeqAt.EqAt A s u v (eqV y x):=by
 cases y with
 | non =>
  cases ry;cases x with
  | non=>cases rx; exact SeqAt.EqAt.same _
  | bl b=>cases rx; exact SeqAt.EqAt.none_bool b
  | int b=>obtain⟨t,rfl⟩:=rx; exact SeqAt.EqAt.none_int b t
  | str b=>obtain⟨t,rfl⟩:=rx; exact SeqAt.EqAt.none_str b t
  | _=>exact absurd (show false=true from fx) Zyy
 | bl a =>
  cases ry;cases x with
  | non=>cases rx; exact SeqAt.EqAt.bool_none a
  | bl b=>cases rx; exact SeqAt.EqAt.bool_bool a b
  | int b=>obtain⟨t,rfl⟩:=rx; exact SeqAt.EqAt.bool_int a b t
  | str b=>obtain⟨t,rfl⟩:=rx; exact SeqAt.EqAt.bool_str a b t
  | _=>exact absurd (show false=true from fx) Zyy
 | int a =>
  obtain⟨t',rfl⟩:=ry;cases x with
  | non=>cases rx; exact SeqAt.EqAt.int_none a t'
  | bl b=>cases rx; exact SeqAt.EqAt.int_bool a t' b
  | int b=>obtain⟨t,rfl⟩:=rx; exact SeqAt.EqAt.int_int a t' b t
  | str b=>obtain⟨t,rfl⟩:=rx; exact ZCx a t' b t
  | _=>exact absurd (show false=true from fx) Zyy
 | str a =>
  obtain⟨t',rfl⟩:=ry;cases x with
  | non=>cases rx; exact SeqAt.EqAt.str_none a t'
  | bl b=>cases rx; exact SeqAt.EqAt.str_bool a t' b
  | int b=>obtain⟨t,rfl⟩:=rx; exact ZCy a t' b t
  | str b=>obtain⟨t,rfl⟩:=rx; exact SeqAt.EqAt.str_str a t' b t
  | _=>exact absurd (show false=true from fx) Zyy
 | _=>exact absurd (show false=true from fy) Zyy
def eqU(x:V)(u:Value):Bool:=match u with
 | .none=>eqV .non x
 | .bool b=>eqV (.bl b) x
 | .int i _=>eqV (.int i) x
 | .str z _=>eqV (.str z) x
 | _=>false
theorem ZrM{x y:V}{u:Value}(r:RelV y u)(f:ZbJ y=true):eqU x u=eqV y x:=by
 cases y with
 | non=>cases r; rfl
 | bl b=>cases r; rfl
 | int i=>obtain⟨t,rfl⟩:=r; rfl
 | str z=>obtain⟨t,rfl⟩:=r; rfl
 | _=>exact absurd (show false=true from f) Zyy
theorem Zhc{x:V}:∀{xs:List V} {us:List Value},Vals xs us->xs.all ZbJ=true->us.any (eqU x)=xs.any λy=>eqV y x
 | _,_,.nil,_=>rfl
 | y::xs,u::us,.cons r t,f=>by rw[Zy5,Zyd]at f;rw[ZzA,ZzA,ZrM r f.1,Zhc t f.2]
theorem Zgc{A:Around}{s:Shared}{x:V}{v:Value}(rx:RelV x v)(fx:ZbJ x=true):∀{xs:List V} {us:List Value},Vals xs us->xs.all ZbJ=true->∀u∈us,SeqAt.EqAt A s u v (eqU x u)
 | _,_,.nil,_=>λu hu=>by cases hu
 | y::xs,u::us,.cons r t,f=>λu' hu=>by
  rw[Zy5,Zyd]at f;rcases Zye.mp hu with rfl | hu
  ·rw[ZrM r f.1]; exact Zu8 r rx f.1 fx
  ·exact Zgc rx fx t f.2 u' hu
def inV(x:V)(xs:List V):Bool:=xs.any λy=>eqV y x
def rIn(K:ZxR)(neg:Bool):R2:=λx y H Q=>∃p xs,y=.ref p/\(SqL K H p xs\/SqT K H p xs)/\ZbJ x=true/\xs.all ZbJ=true/\Q (.bl (if neg then !inV x xs else inV x xs)) H
theorem Zq4:OpR X (ZyY .In) (rIn X.K false):=by
 intro pins s σ H x y v u Q I rx ry h;obtain⟨p,xs,rfl,hq,fx,fs,q⟩:=h;cases ry;rcases hq with hq | hq
 ·obtain⟨its,r,pl,hz⟩:=I.list hq
  refine SeqAt.in_listAt (eqU x) pl.isList (λw hw=>Zgc rx fx r fs w (by simpa using hw)) ⟨.bl _,H,I,rfl,?_⟩;rw[show its.toArray.any (eqU x)=its.any (eqU x) by simp,Zhc r fs];exact q
 ·obtain⟨its,r,pl,hz⟩:=I.tuple hq
  refine SeqAt.in_tupleAt (eqU x) pl (λw hw=>Zgc rx fx r fs w (by simpa using hw)) ⟨.bl _,H,I,rfl,?_⟩;rw[show its.toArray.any (eqU x)=its.any (eqU x) by simp,Zhc r fs];exact q
theorem ZnX:OpR X (ZyY .NotIn) (rIn X.K true):=by
 intro pins s σ H x y v u Q I rx ry h;obtain⟨p,xs,rfl,hq,fx,fs,q⟩:=h;cases ry;rcases hq with hq | hq
 ·obtain⟨its,r,pl,hz⟩:=I.list hq
  refine SeqAt.notIn_listAt (eqU x) pl.isList (λw hw=>Zgc rx fx r fs w (by simpa using hw)) ⟨.bl _,H,I,rfl,?_⟩;rw[show its.toArray.any (eqU x)=its.any (eqU x) by simp,Zhc r fs];exact q
 ·obtain⟨its,r,pl,hz⟩:=I.tuple hq
  refine SeqAt.notIn_tupleAt (eqU x) pl (λw hw=>Zgc rx fx r fs w (by simpa using hw)) ⟨.bl _,H,I,rfl,?_⟩;rw[show its.toArray.any (eqU x)=its.any (eqU x) by simp,Zhc r fs];exact q
theorem ZnE:Za7 X (.builtin "len") (λxs H Q=>∃p ys,xs=[.ref p]/\(SqL X.K H p ys\/SqT X.K H p ys)/\Q (.int ys.length) H):=by
 intro pins s σ H xs us Q I r h;obtain⟨p,ys,rfl,hq,q⟩:=h;obtain⟨u,rfl,rx⟩:=vals1 r;cases rx;have hn:=ZiP;rcases hq with hq | hq
 ·obtain⟨its,r',pl,hz⟩:=I.list hq
  have hlen:=r'.length;exact Calls.call_len_list pl.isList (by simp only[Zya]<;>omega) ⟨.int ys.length,H,I.tok _,⟨s.toks+1,by rw[Zya,hlen]⟩,q⟩
 ·obtain⟨its,r',pl,hz⟩:=I.tuple hq
  have hlen:=r'.length;exact len_tuple pl (by simp only[Zya]<;>omega) ⟨.int ys.length,H,I.tok _,⟨s.toks+1,by rw[Zya,hlen]⟩,q⟩
theorem Za7.or{f:Value}{r r':List V->Hp->VK->Prop}(h:Za7 X f r)(h':Za7 X f r'):Za7 X f (λxs H Q=>r xs H Q\/r' xs H Q):=by
 intro pins s σ H xs us Q I rs q;rcases q with q | q
 ·exact h pins s σ H xs us Q I rs q
 ·exact h' pins s σ H xs us Q I rs q
theorem ZnJ:Za7 X (.type "list") (λxs H Q=>∃p ys,xs=[.ref p]/\(SqL X.K H p ys\/SqT X.K H p ys)/\∀l,H l=none->Q (.ref l) (upd H l (.lst ys))):=by
 intro pins s σ H xs us Q I r h;obtain⟨p,ys,rfl,hq,q⟩:=h;obtain⟨u,rfl,rx⟩:=vals1 r;cases rx;have fin:∀(its:List Value),Vals ys its->ys.length<=sizeLine->∀(h':Heap) (c':Nat),(∀b o',s.heap.get? b=some o'->h'.get? b=some o') ->
   h'.get? s.heap.objs.size=some { cls:=.type "list",dict:=none,data:=.seq its.toArray c',slots:=#[] }->EP X pins σ Q (.ref s.heap.objs.size) { s with heap:=h' }:=λits r' hz h' c' kp e =>
  ⟨.ref s.heap.objs.size,_,I.laid (t':=s.toks) kp (Zx2 _) (show Zab X.prog X.w _ h' _ (.lst ys) from⟨hz,its,c',r',e⟩),rfl,q _ (I.hok.fresh (Zx2 _))⟩
 rcases hq with hq | hq
 ·obtain⟨its,r',pl,hz⟩:=I.list hq
  have hlen:=r'.length;obtain⟨o,ho,hc,n,hd⟩:=pl.isList;exact call_list_seq p (.inl rfl) ho hc hd (λh' c' kp e=>fin its r' hz h' c' kp e) (by simp only[Zya]<;>omega)
 ·obtain⟨its,r',pl,hz⟩:=I.tuple hq
  have hlen:=r'.length;obtain⟨o,ho,hc,n,hd⟩:=pl;exact call_list_seq p (.inr rfl) ho hc hd (λh' c' kp e=>fin its r' hz h' c' kp e) (by simp only[Zya]<;>omega)
theorem Zmh:Za7 X (.type "tuple") (λxs H Q=>∃p ys,xs=[.ref p]/\((SqL X.K H p ys/\∀l,H l=none->Q (.ref l) (upd H l (.tup ys)))\/(SqT X.K H p ys/\Q (.ref p) H))):=by
 intro pins s σ H xs us Q I r h;obtain⟨p,ys,rfl,h⟩:=h;obtain⟨u,rfl,rx⟩:=vals1 r;cases rx;rcases h with⟨hq,q⟩ | ⟨hq,q⟩
 ·obtain⟨its,r',pl,hz⟩:=I.list hq
  have hlen:=r'.length;refine call_tuple_list pl.isList (λh' kp=>?_) (by simp only[Zya]<;>omega);have I1:Inv X pins σ H { s with heap:=h' }:=I.kept (t':=s.toks) kp;have I2:Inv X pins σ (upd H h'.objs.size (.tup ys)) { s with heap:=h'.push { cls:=.type "tuple",data:=.seq its.toArray } } :=
   I1.laid (t':=s.toks) (λb o e=>ZxX _ e) (Zx2 _) (show Zab X.prog X.w _ _ _ (.tup ys) from⟨hz,its,r',IsTup.new _ _⟩)
  exact⟨.ref h'.objs.size,_,I2,rfl,q _ (I1.hok.fresh (Zx2 _))⟩
 ·obtain⟨its,r',pl,hz⟩:=I.tuple hq
  exact call_tuple_same pl ⟨.ref p,H,I,rfl,q⟩
def tyV(K:ZxR)(T:String)(x:V)(H:Hp):Prop:=match x with
 | .str _=>T = "str"
 | .int _=>T = "int"
 | .ref p=>(T = "list"/\∃xs,SqL K H p xs)\/(T = "tuple"/\∃o,K.lookup p=some o/\o.cls=.type "tuple"/\o.dict=none) \/
   (T = "dict"/\((∃kvs,H p=some (.dK kvs))\/∃kvs,H p=some (.dT kvs)))\/(T = "set"/\∃S n,H p=some (.set S n))
 | _=>False
theorem ZrH{pins:List (Addr × Obj)}{σ:St}{H:Hp}{s:Shared}{T:String}{x:V}{v:Value}(I:Inv X pins σ H s)(r:RelV x v)(ty:tyV X.K T x H) :
  s.TypeIs v T/\∀a,v=.ref a->∃ob,s.heap.get? a=some ob/\ob.dict=none:=by
 cases x with
 | str z=>obtain⟨t,rfl⟩:=r;cases(show T = "str" from ty);exact⟨typeIs_str s z t,λ_ e=>nomatch e⟩
 | int i=>obtain⟨t,rfl⟩:=r;cases(show T = "int" from ty);exact⟨typeIs_int s i t,λ_ e=>nomatch e⟩
 | ref p =>
  cases r;rcases ty with⟨rfl,xs,hq⟩ | ⟨rfl,o,hk,hc,hd⟩ | ⟨rfl,hk⟩ | ⟨rfl,S,n,hk⟩
  ·obtain⟨its,_,pl,_⟩:=I.list hq
   refine⟨pl.isList.typeIs,λa e=>?_⟩;cases e;obtain⟨o,n,e,c,hd,_⟩:=pl;exact⟨o,e,hd⟩
  ·refine⟨⟨o,I.kIn p o hk,hc⟩,λa e=>?_⟩
   cases e;exact⟨o,I.kIn _ o hk,hd⟩
  ·have z:∃o,s.heap.get? p=some o/\o.ExactDict:=by
    rcases hk with⟨kvs,hk⟩ | ⟨kvs,hk⟩
    ·obtain⟨_,_,_,_,o,_,_,e,ex,_⟩:=I.hok p _ hk
     exact⟨o,e,ex⟩
    ·obtain⟨_,_,_,_,o,_,_,e,ex,_⟩:=I.hok p _ hk
     exact⟨o,e,ex⟩
   obtain⟨o,e,ex⟩:=z;refine⟨⟨o,e,ex.1⟩,λa e2=>?_⟩;cases e2;exact⟨o,e,ex.2.1⟩
  ·obtain⟨o,_,_,_,e,ex,_⟩:=I.hok p _ hk
   refine⟨⟨o,e,ex.1⟩,λa e2=>?_⟩;cases e2;exact⟨o,e,ex.2.1⟩
 | _=>exact ZyU ty
def ZxB(K:ZxR)(T:String)(r:V->List V->Hp->VK->Prop)(to:TE):TE:=λσ H Q=>to σ H λx H1=>tyV K T x H1/\r x [] H1 Q
def tBM(K:ZxR)(T:String)(r:V->List V->Hp->VK->Prop)(to:TE)(t:TA):TE:=λσ H Q=>to σ H λx H1=>tyV K T x H1/\t σ H1 λxs H2=>r x xs H2 Q
variable{o e:Expr}{es:List Expr}{to:TE}{t:TA}{name:Str}{apos cpos:Pos}{T id:String}{r:V->List V->Hp->VK->Prop}
theorem Zwi(pa:PlainAttrs T)(slot:Slot T name id)(hty:typeOf (.builtin id)=pure (.type "method_descriptor"))(hm:MtR X id r)(ho:PE X o to)
  (hbase:ZAk o name X.env (eval o X.env)=eval o X.env:=by rfl) (hline:(apos.endLine==cpos.line)=true:=by rfl):PE X (.Call (.Attribute o name apos) [] [] cpos) (ZxB X.K T r to):=by
 intro pins s σ H Q I h;refine wpAny_Call_method0_late hbase hline (thn (ho pins s σ H _ I h) λv s1 ⟨x,H1,I1,r1,ty,q1⟩=>?_);obtain⟨h1,h2⟩:=ZrH I1 r1 ty;exact⟨T,id,pa,slot,hty,h1,h2,ZAZ rfl (PySem.evalArgs_none (hm pins s1 σ H1 x [] v [] Q I1 r1 .nil q1))⟩
theorem Zp9(pa:PlainAttrs T)(slot:Slot T name id)(hty:typeOf (.builtin id)=pure (.type "method_descriptor"))(hm:MtR X id r)(ho:PE X o to)(ha:PA X (e::es) t)
  (hbase:ZAk o name X.env (eval o X.env)=eval o X.env:=by rfl)
  (hfew:((backTo cpos (Zx6 (e::es) X.env)).all (λx=>!x.1)&&(backToKw cpos (ZBr [] X.env)).all (λx=>x.1.isSome)
   && decide ((e::es).length+([]:List Keyword).length+(if([]:List Keyword).isEmpty then 0 else 1)<30))=true:=by rfl)
  (hline:(apos.endLine==cpos.line)=true:=by rfl) (hs:Zx6 (e::es) X.env=(false,eval e X.env)::Zx6 es X.env:=by rfl) (hplain:(backTo cpos (Zx6 es X.env)).any (·.1)=false:=by rfl) :
  PE X (.Call (.Attribute o name apos) (e::es) [] cpos) (tBM X.K T r to t):=by
 intro pins s σ H Q I h;refine wpAny_Call_method_late hbase hfew hline rfl (thn (ho pins s σ H _ I h) λv s1 ⟨x,H1,I1,r1,ty,q1⟩=>?_);obtain⟨h1,h2⟩:=ZrH I1 r1 ty;refine⟨T,id,pa,slot,hty,h1,h2,?_⟩;have hA:=ha cpos pins s1 σ H1 _ I1 q1;rw[hs]at hA ⊢;refine ZAZ (by show(false||(backTo cpos (Zx6 es X.env)).any (·.1))=false; rw[hplain]<;>rfl) (ZCp ?_);exact thn hA λus s2 ⟨vs,H2,I2,r2,q2⟩=>hm pins s2 σ H2 x vs v us Q I2 r1 r2 q2
end
end L2
namespace L2
open PySem PySem.Spec PyProof.Rows
def MtM(X:Cx)(id:String)(r:V->List V->Hp->VK->Prop):Prop :=
 ∀(pins:List (Addr × Obj)) (s:Shared) (σ:St) (H:Hp) (x:V) (xs:List V) (v:Value) (us:List Value) (Q:VK),Inv X pins σ H s->RelV x v->Vals xs us->r x xs H Q ->
  wpAny (model X.prog X.w) X.A (call (.builtin id) (v::us)) (EP X pins σ Q) X.xe s
theorem Vals.one:∀{x:V} {us:List Value},Vals [x] us->∃u,us=[u]/\RelV x u
 | _,_,.cons r .nil=>⟨_,rfl,r⟩
theorem Vals.zero:∀{us:List Value},Vals [] us->us=[]
 | _,.nil=>rfl
theorem Vals.dropLast{xs:List V}{us:List Value}(h:Vals xs us):Vals xs.dropLast us.dropLast:=by
 induction h with
 | nil=>exact .nil
 | cons r t ih =>
  cases t with
  | nil=>exact .nil
  | cons q t'=>exact .cons r ih
theorem Vals.rep{xs:List V}{us:List Value}(h:Vals xs us):∀k:Nat,Vals (Zyp k xs).flatten (Zyp k us).flatten
 | 0=>.nil
 | k+1=>by rw[Zzw,Zzw,Zz1,Zz1];exact Vals.append h (Vals.rep h k)
theorem ZqO{α:Type}(l:List α):l.eraseIdx (l.length-1)=l.dropLast:=by
 induction l with
 | nil=>rfl
 | cons a r ih =>
  cases r with
  | nil=>rfl
  | cons b r =>
   have e:(a::b::r).length-1=((b::r).length-1)+1:=by have h1:(a::b::r).length=r.length+2:=rfl;have h2:(b::r).length=r.length+1:=rfl;omega
   rw[e,List.eraseIdx_cons_succ,ih]
   all_goals rfl
theorem foldl_rep(its:List Value):∀(k:Nat) (acc:List Value),
  List.foldl (λx1 x2=>x1++x2) acc.toArray (Zyp k its.toArray)=(acc++(Zyp k its).flatten).toArray
 | 0,acc=>by simp
 | k+1,acc=>by
  have e:acc.toArray++its.toArray=(acc++its).toArray:=by simp
  have e2:(acc++its)++(Zyp k its).flatten=acc++(Zyp (k+1) its).flatten:=by rw[Zzw,Zz1,Zzv]
  rw[<-e2,<-foldl_rep its k (acc++its),<-e,Zzw,ZzV]
section
variable{X:Cx}{pins:List (Addr × Obj)}{σ:St}{H:Hp}{s:Shared}{l b:Addr}{xs ys zs:List V}
theorem Inv.lset{its its':List Value}{n:Nat}{f:Array Value->Array Value}{t':Nat}(I:Inv X pins σ H s)(hH:H l=some (.lst xs))
  (e:s.heap.get? l=some { cls:=.type "list",data:=.seq its.toArray n }) (hf:f its.toArray=its'.toArray) (hv:Vals ys its') (hz:ys.length<=sizeLine) :
  Inv X pins σ (upd H l (.lst ys)) { s with heap:=s.heap.update l (ZAL f),toks:=t' }:=by
 have q:=PySem.IsL.update e f;rw[hf]at q;refine I.write (x:=l) (e:=l) (by rw[hH]; exact trivial) (.inl rfl) (λb' u hb hu=>(Zze s.heap (ZAL f) (ZyR hb)).trans hu) ⟨_,q⟩ ?_;exact⟨hz,its',_,hv,q⟩
theorem Inv.lnew{its:List Value}{t':Nat}(I:Inv X pins σ H s)(hv:Vals ys its)(hz:ys.length<=sizeLine) :
  Inv X pins σ (upd H s.heap.objs.size (.lst ys)) { s with heap:=s.heap.push { cls:=.type "list",data:=.seq its.toArray },toks:=t' } :=
 I.laid (λ_ _ q=>ZxX _ q) (Zx2 _) ⟨hz,its,0,hv,Zx9 _ rfl⟩
theorem Inv.fresh(I:Inv X pins σ H s):H s.heap.objs.size=none:=I.hok.fresh (Zx2 _)
theorem Inv.lstM(I:Inv X pins σ H s)(hH:H l=some (.lst xs)):xs.length<=sizeLine/\∃(its:List Value) (n:Nat),Vals xs its/\xs.length=its.length/\s.heap.get? l=some { cls:=.type "list",data:=.seq its.toArray n }:=by obtain⟨z,its,n,r,e⟩:=I.hok l _ hH;exact⟨z,its,n,r,r.length,e⟩
theorem Znf{n:Nat}(h:n<=sizeLine):Zz7 n=false:=by unfold Zz7;exact decide_eq_false (by omega)
end
section
variable{X:Cx}
def Zpk:V->List V->Hp->VK->Prop:=λx vs H Q=>∃l xs y,x=.ref l/\vs=[y]/\H l=some (.lst xs)/\xs.length<sizeLine/\Q .non (upd H l (.lst (xs++[y])))
theorem Zir:MtM X "list.append" Zpk:=by intro pins s σ H x vs v us Q I rx rv h;obtain⟨l,xs,y,rfl,rfl,hH,hz,q⟩:=h;cases rx;obtain⟨u,rfl,ru⟩:=rv.one;obtain⟨z,its,n,r,hl,e⟩:=I.lstM hH;refine ZBM F.slot_list_append ⟨_,e,rfl⟩ F.entry_list_append (F.args_list_append_2 _ _) (PySem.list_append l its.toArray n u (by rw[Zya]; omega)) ⟨e,?_⟩;refine⟨.non,_,I.lset (its':=its++[u]) hH e (by simp) (r.append (.cons ru .nil)) ?_,rfl,q⟩;rw[Zyc,Zy7];omega
def ZuD:V->List V->Hp->VK->Prop:=λx vs H Q=>∃l b xs zs,x=.ref l/\vs=[.ref b]/\H l=some (.lst xs)/\H b=some (.lst zs)/\xs.length+zs.length<=sizeLine/\Q .non (upd H l (.lst (xs++zs)))
theorem Zr5:MtM X "list.extend" ZuD:=by
 intro pins s σ H x vs v us Q I rx rv h;obtain⟨l,b,xs,zs,rfl,rfl,hH,hB,hz,q⟩:=h;cases rx;obtain⟨u,rfl,ru⟩:=rv.one;cases ru;obtain⟨z,its,n,r,hl,e⟩:=I.lstM hH;obtain⟨z2,its2,n2,r2,hl2,e2⟩:=I.lstM hB;have hsz:its.toArray.size+its2.toArray.size<=sizeLine:=by rw[Zya,Zya]; omega
 have hlong:¬(!its.toArray.isEmpty&&Zz7 (its.toArray.size+its2.toArray.size))=true:=by rw[Znf hsz,Bool.and_false];exact Zyy
 refine ZBM F.slot_list_extend ⟨_,e,rfl⟩ F.entry_list_extend (F.args_list_extend_2 _ _)
  (AutoSeq1.list_extend_list_list_0 l its.toArray n b its2.toArray n2 hlong (by rw[Zya]; omega) (by omega)) ⟨e,e2,?_⟩
 refine⟨.non,_,I.lset (its':=its++its2) hH e (by simp) (r.append r2) ?_,rfl,q⟩;rw[Zyc];omega
def Zxc:V->List V->Hp->VK->Prop:=λx vs H Q=>∃l xs y,x=.ref l/\vs=[]/\H l=some (.lst xs)/\xs[xs.length-1]?=some y/\Q y (upd H l (.lst xs.dropLast))
theorem Zvg:MtM X "list.pop" Zxc:=by
 intro pins s σ H x vs v us Q I rx rv h;obtain⟨l,xs,y,rfl,rfl,hH,hy,q⟩:=h;cases rx;have hus:=rv.zero;subst hus;obtain⟨z,its,n,r,hl,e⟩:=I.lstM hH;obtain⟨u,hu,ru⟩:=r.get hy;have hy':its.toArray[its.toArray.size-1]?=some u:=by show its.toArray[its.length-1]?=some u;rw[<-ZyJ,<-hl];exact hu
 refine ZBM F.slot_list_pop ⟨_,e,rfl⟩ F.entry_list_pop (F.args_list_pop_1 _) (MeetsSeq.list_pop_last l its.toArray n u hy' (by rw[Zya]; omega)) ⟨e,?_⟩;refine⟨y,_,I.lset (its':=its.dropLast) hH e ?_ r.dropLast ?_,ru,q⟩
 ·show its.toArray.eraseIdxIfInBounds (its.toArray.size-1)=its.dropLast.toArray
  rw[Zya,List.eraseIdxIfInBounds_toArray,ZqO]
 ·rw[List.length_dropLast]
  omega
def ZxD:R2:=λx y H Q=>∃l b xs zs,x=.ref l/\y=.ref b/\H l=some (.lst xs)/\H b=some (.lst zs)/\xs.length+zs.length<=sizeLine/\∀p,H p=none->Q (.ref p) (upd H p (.lst (xs++zs)))
theorem Zvq:OpR X (ZA6 .Add) ZxD:=by
 intro pins s σ H x y v u Q I rx ry h;obtain⟨l,b,xs,zs,rfl,rfl,hH,hB,hz,q⟩:=h;cases rx;cases ry;obtain⟨z,its,n,r,hl,e⟩:=I.lstM hH;obtain⟨z2,its2,n2,r2,hl2,e2⟩:=I.lstM hB;refine PySem.P.add_list e e2 ?_ (by rw[Zya,Zya]; omega);have ea:its.toArray++its2.toArray=(its++its2).toArray:=by simp
 rw[ea];exact⟨.ref _,_,I.lnew (t':=s.toks) (r.append r2) (by rw[Zyc]; omega),rfl,q _ I.fresh⟩
def Zxu:R2:=λx y H Q=>∃l k xs,x=.ref l/\y=.int k/\H l=some (.lst xs)/\-(2 ^ 63)<=k/\k<2 ^ 63/\xs.length*k.toNat<=sizeLine /\
 ∀p,H p=none->Q (.ref p) (upd H p (.lst (Zyp k.toNat xs).flatten))
theorem len_rep{α:Type}(xs:List α)(k:Nat):(Zyp k xs).flatten.length=k*xs.length:=by
 induction k with
 | zero=>simp
 | succ k ih=>rw[Zzw,Zz1,Zyc,ih,Nat.succ_mul,Nat.add_comm]
theorem ZvM:OpR X (ZA6 .Mult) Zxu:=by
 intro pins s σ H x y v u Q I rx ry h;obtain⟨l,k,xs,rfl,rfl,hH,h1,h2,hz,q⟩:=h;cases rx;obtain⟨t,rfl⟩:=ry;obtain⟨z,its,n,r,hl,e⟩:=I.lstM hH;have hlen:its.toArray.size*k.toNat<=sizeLine:=by rw[Zya,<-hl]; exact hz
 have hcap:¬its.toArray.size*k.toNat > (2 ^ 63-1) / 8:=by
  have:(sizeLine:Nat)<=(2 ^ 63-1) / 8:=by decide
  omega
 have hfit:¬(!Builtin.List.listFitsIndex k)=true:=by rw[fitsIndex_both h1 h2];exact Zyy
 have hlong:¬Zz7 (its.toArray.size*k.toNat)=true:=by rw[Znf hlen];exact Zyy
 have hnew:List.foldl (λx1 x2=>x1++x2) #[] (Zyp (if its.toArray.isEmpty=true then 0 else k.toNat) its.toArray)=(Zyp k.toNat its).flatten.toArray:=by
  have f0:∀m:Nat,List.foldl (λx1 x2=>x1++x2) #[] (Zyp m its.toArray)=(Zyp m its).flatten.toArray:=λm=>by have:=foldl_rep its m [];rw[ZzW]at this;exact this
  rw[f0];cases its with
  | nil=>simp
  | cons a r'=>rw[if_neg (by simp)]
 refine wpAny_binaryOp_repeat_ref (T:="list") (U:="int") (by decide) ⟨_,e,rfl⟩ (λs'=>typeIs_int s' k t) noFill_list_mul F.fills_int_mul F.slot_int_rmul repeat_list F.slot_int_index.lookup
  (ZBM F.slot_int_rmul (typeIs_int s k t) F.entry_int_rmul (F.args_int_rmul_2 _ _) (int___rmul___int_list k t l its.toArray n)
   ⟨e,rfl,⟨_,e,rfl⟩,ZBM F.slot_list_mul ⟨_,e,rfl⟩ F.entry_list_mul (F.args_list_mul_2 _ _) (AutoListH.list___mul___list_int_3 l its.toArray n k t hfit hcap hlong) ⟨e,?_⟩⟩)
 rw[hnew];exact⟨.ref _,_,I.lnew (t':=s.toks) (r.rep k.toNat) (by rw[len_rep,Nat.mul_comm]; exact hz),rfl,q _ I.fresh⟩
end
end L2
namespace L2
open PySem PySem.Spec PyProof.Rows
section
variable{κ:Type}[DecidableEq κ]
def ZaT(kvs:List (κ × V))(k:κ):Option V:=(kvs.find? λkv=>decide (kv.1=k)).map (·.2)
def putK(kvs:List (κ × V))(k:κ)(v:V):List (κ × V) :=
 if(kvs.any λkv=>decide (kv.1=k))=true then kvs.map (λkv=>if kv.1=k then(kv.1,v)else kv)else kvs++[(k,v)]
theorem ZdI{p:κ × V}{r:List (κ × V)}{k:κ}(e:p.1=k):ZaT (p::r) k=some p.2:=by simp[ZaT,ZyH,e]
theorem ZdR{p:κ × V}{r:List (κ × V)}{k:κ}(e:¬p.1=k):ZaT (p::r) k=ZaT r k:=by simp[ZaT,ZyH,e]
theorem Zj4(k:κ):∀kvs:List (κ × V),(kvs.any λkv=>decide (kv.1=k))=(ZaT kvs k).isSome
 | []=>rfl
 | p::r=>by
  rw[ZzA]
  by_cases e:p.1=k
  ·simp only[ZdI e,decide_eq_true e,Bool.true_or,Option.isSome_some]
  ·rw[ZdR e,decide_eq_false e,ZCq]; exact Zj4 k r
theorem ZgG(kvs:List (κ × V))(k:κ)(v:V):(putK kvs k v).length<=kvs.length+1:=by
 unfold putK;split
 ·rw[ZxS]; omega
 ·rw[Zyc,Zx8,List.length_nil]; omega
theorem ZgJ.isSome_eq{o:Option V}{u:Option Value}(r:ZgJ o u):o.isSome=u.isSome:=by
 cases o with
 | none=>cases u with
  | none=>rfl
  | some _=>exact(show False from r).elim
 | some _=>cases u with
  | none=>exact(show False from r).elim
  | some _=>rfl
theorem KV.val{kvs:List (κ × V)}{vs:List (κ × Value)}(r:KV kvs vs)(k:κ):ZgJ (ZaT kvs k) (valueAt vs k):=by
 unfold KV at r
 induction r with
 | nil=>exact ZAM
 | @cons p q ps qs h t ih =>
  obtain⟨h1,h2⟩:=h
  by_cases e:p.1=k
  ·have e':q.1=k:=h1.symm.trans e
   have b:valueAt (q::qs) k=some q.2:=by simp[valueAt,ZyH,e']
   rw[ZdI e,b]; exact h2
  ·have e':¬q.1=k:=λz=>e (h1.trans z)
   have b:valueAt (q::qs) k=valueAt qs k:=by simp[valueAt,ZyH,e']
   rw[ZdR e,b]; exact ih
theorem KV.any{kvs:List (κ × V)}{vs:List (κ × Value)}(r:KV kvs vs)(k:κ):(kvs.any λkv=>decide (kv.1=k))=vs.any λkv=>decide (kv.1=k):=by
 unfold KV at r
 induction r with
 | nil=>rfl
 | cons h t ih=>rw[ZzA,ZzA,ih,h.1]
theorem KV.repl{kvs:List (κ × V)}{vs:List (κ × Value)}(r:KV kvs vs)(k:κ){y:V}{u:Value}(ry:RelV y u) :
  KV (kvs.map λkv=>if kv.1=k then(kv.1,y)else kv) (vs.map λkv=>if kv.1=k then(kv.1,u)else kv):=by
 unfold KV at r ⊢
 induction r with
 | nil=>exact .nil
 | @cons p q ps qs h t ih =>
  rw[ZxY,ZxY];refine .cons ?_ ih;obtain⟨h1,h2⟩:=h
  by_cases e:p.1=k
  ·rw[if_pos e,if_pos (h1.symm.trans e)]; exact⟨h1,ry⟩
  ·rw[if_neg e,if_neg (λz=>e (h1.trans z))]; exact⟨h1,h2⟩
theorem KV.put{kvs:List (κ × V)}{vs:List (κ × Value)}(r:KV kvs vs)(k:κ){y:V}{u:Value}(ry:RelV y u):KV (putK kvs k y) (stored vs k u):=by
 unfold putK stored;rw[r.any k]
 by_cases e:(vs.any λkv=>decide (kv.1=k))=true
 ·rw[if_pos e,if_pos e]; exact r.repl k ry
 ·rw[if_neg e,if_neg e]; exact Paired.snoc r ⟨rfl,ry⟩
theorem KV.length{kvs:List (κ × V)}{vs:List (κ × Value)}(r:KV kvs vs):kvs.length=vs.length:=ZAj r
end
theorem ZiZ{P:Program}{w:World}{k:Key}{u:Value}(r:RelV (kV k) u):(ZaN P w).is k u=true:=by
 cases k with
 | inl i=>obtain⟨t,e⟩:=(show ∃t,u=ZzD i t from r); subst e; exact ZoY P w i t
 | inr x=>obtain⟨t,e⟩:=(show ∃t,u=Value.str x t from r); subst e; exact Zo0 P w x t
theorem Zlq{P:Program}{w:World}:∀{ks:List Key} {us:List Value},Vals (ks.map kV) us->ItemsAre (ZaN P w) ks us
 | [],_,r=>by rw[ZzI]at r; cases r; exact .nil
 | k::ks,_,r=>by
  rw[ZxY]at r;cases r with
  | cons h t=>exact .cons (ZiZ h) (Zlq t)
abbrev KT(H:Hp):List (List Key × V)->List (List Key × Addr × Value)->Prop:=Paired λp q=>p.1=q.1/\H q.2.1=some (.tup (p.1.map kV))/\RelV p.2 q.2.2
theorem KT.val{H:Hp}{kvs:List (List Key × V)}{xs:List (List Key × Addr × Value)}(r:KT H kvs xs)(k:List Key):ZgJ (ZaT kvs k) ((atKey xs k).map (·.2)):=by
 induction r with
 | nil=>exact ZAM
 | @cons p q ps qs h t ih =>
  obtain⟨h1,_,h2⟩:=h
  by_cases e:p.1=k
  ·have e':q.1=k:=h1.symm.trans e
   have b:atKey (q::qs) k=some q.2:=by simp[atKey,ZyH,e']
   rw[ZdI e,b]; exact h2
  ·have e':¬q.1=k:=λz=>e (h1.trans z)
   have b:atKey (q::qs) k=atKey qs k:=by simp[atKey,ZyH,e']
   rw[ZdR e,b]; exact ih
theorem KT.repl{H:Hp}{kvs:List (List Key × V)}{xs:List (List Key × Addr × Value)}(r:KT H kvs xs)(k:List Key){y:V}{u:Value}(ry:RelV y u) :
  KT H (kvs.map λkv=>if kv.1=k then(kv.1,y)else kv) (xs.map (putAt k u)):=by
 induction r with
 | nil=>exact .nil
 | @cons p q ps qs h t ih =>
  rw[ZxY,ZxY];refine .cons ?_ ih;obtain⟨h1,h2,h3⟩:=h;unfold putAt
  by_cases e:p.1=k
  ·rw[if_pos e,if_pos (h1.symm.trans e)]; exact⟨h1,h2,ry⟩
  ·rw[if_neg e,if_neg (λz=>e (h1.trans z))]; exact⟨h1,h2,h3⟩
theorem KT.put{H:Hp}{kvs:List (List Key × V)}{xs:List (List Key × Addr × Value)}(r:KT H kvs xs)(k:List Key){b:Addr}{y:V}{u:Value}(hb:H b=some (.tup (k.map kV)))(ry:RelV y u) :
  KT H (putK kvs k y) (storedH xs k b u):=by
 have e:(kvs.any λkv=>decide (kv.1=k))=(atKey xs k).isSome:=by rw[Zj4,(r.val k).isSome_eq,Zzi]
 unfold putK storedH;rw[e]
 by_cases q:(atKey xs k).isSome=true
 ·rw[if_pos q,if_pos q]; exact r.repl k ry
 ·rw[if_neg q,if_neg q]; exact Paired.snoc r ⟨rfl,hb,ry⟩
theorem KT.keeps{H H':Hp}{kvs:List (List Key × V)}{xs:List (List Key × Addr × Value)}(r:KT H kvs xs)(ht:∀b ys,H b=some (.tup ys)->H' b=some (.tup ys)):KT H' kvs xs :=
 Paired.mapP r λ_ _ z=>⟨z.1,ht _ _ z.2.1,z.2.2⟩
section
variable{P:Program}{w:World}{H:Hp}{h:Heap}{a:Addr}
theorem Zkt{u:HO}(ok:HOk P w H h)(e:Rd H a u):Zab P w H h a u:=e.ok ok
theorem ZhL{kvs:List (Key × V)}(ok:HOk P w H h)(e:Rd H a (.dK kvs)):kvs.length<=sizeLine/\(a==Zzl)=false/\∃vs,KV kvs vs/\h.DictOf (ZaN P w) a vs :=
 show Zab P w H h a (.dK kvs) from Zkt ok e
theorem Zqu{kvs:List (Key × V)}(ok:HOk P w H h)(e:H a=some (.dK kvs)):kvs.length<=sizeLine/\(a==Zzl)=false/\∃vs,KV kvs vs/\h.DictOf (ZaN P w) a vs:=ZhL ok (.inl e)
theorem ZgZ{ks:List Key}(ok:HOk P w H h)(e:H a=some (.tup (ks.map kV))):(ZA9 (ZaN P w)).is h ks a:=by obtain⟨_,its,r,o,h1,h2,n,h3⟩:=(show Zab P w H h a (.tup (ks.map kV)) from ok a _ e);exact⟨o,its.toArray,n,h1,h2,h3,by simpa using Zlq r⟩
theorem ZiX{kvs:List (List Key × V)}(ok:HOk P w H h)(e:Rd H a (.dT kvs)):kvs.length<=sizeLine/\(a==Zzl)=false /\
  ∃xs,KT H kvs xs/\h.DictOfH (ZA9 (ZaN P w)) a xs:=by
 obtain⟨z,y,xs,r,o,es,ep,h1,h2,h3,h4,h5⟩:=(show Zab P w H h a (.dT kvs) from Zkt ok e);refine⟨z,y,xs,r,o,es,ep,h1,h2,h3,h4,λx hx=>?_,h5⟩;have all:∀{l:List (List Key × V)} {m:List (List Key × Addr × Value)},KT H l m->∀x∈m,(ZA9 (ZaN P w)).is h x.1 x.2.1:=by
  intro l m q
  induction q with
  | nil=>intro x hx; exact nomatch hx
  | @cons p q ps qs hq t ih =>
   intro x hx;rcases Zye.mp hx with e | hx
   ·subst e
    exact ZgZ ok (by rw[<-hq.1]; exact hq.2.1)
   ·exact ih x hx
 exact all r x hx
theorem ZtO{kvs:List (List Key × V)}(ok:HOk P w H h)(e:H a=some (.dT kvs)):kvs.length<=sizeLine/\(a==Zzl)=false /\
  ∃xs,KT H kvs xs/\h.DictOfH (ZA9 (ZaN P w)) a xs:=ZiX ok (.inl e)
end
def ZdM(H:Hp)(a:Addr)(y:V)(r:Option V):Prop :=
 (∃kvs k,Rd H a (.dK kvs)/\y=kV k/\r=ZaT kvs k)\/∃kvs k b,Rd H a (.dT kvs)/\y=.ref b/\H b=some (.tup (k.map kV))/\r=ZaT kvs k
def ZiE(H:Hp)(a:Addr)(y v:V)(H':Hp):Prop :=
 (∃kvs k,H a=some (.dK kvs)/\y=kV k/\kvs.length<sizeLine/\H'=upd H a (.dK (putK kvs k v))) \/
 ∃kvs k b,H a=some (.dT kvs)/\y=.ref b/\H b=some (.tup (k.map kV))/\kvs.length<sizeLine/\H'=upd H a (.dT (putK kvs k v))
theorem ZdM.k{H:Hp}{a:Addr}{kvs:List (Key × V)}{k:Key}(e:H a=some (.dK kvs)):ZdM H a (kV k) (ZaT kvs k):=.inl ⟨kvs,k,.inl e,rfl,rfl⟩
theorem ZdM.t{H:Hp}{a b:Addr}{kvs:List (List Key × V)}{k:List Key}(e:H a=some (.dT kvs))(eb:H b=some (.tup (k.map kV))):ZdM H a (.ref b) (ZaT kvs k):=.inr ⟨kvs,k,b,.inl e,rfl,eb,rfl⟩
theorem ZiE.k{H:Hp}{a:Addr}{kvs:List (Key × V)}{k:Key}{v:V}(e:H a=some (.dK kvs))(hl:kvs.length<sizeLine):ZiE H a (kV k) v (upd H a (.dK (putK kvs k v))):=.inl ⟨kvs,k,e,rfl,hl,rfl⟩
theorem ZiE.t{H:Hp}{a b:Addr}{kvs:List (List Key × V)}{k:List Key}{v:V}(e:H a=some (.dT kvs))(eb:H b=some (.tup (k.map kV)))(hl:kvs.length<sizeLine) :
  ZiE H a (.ref b) v (upd H a (.dT (putK kvs k v))):=.inr ⟨kvs,k,b,e,rfl,eb,hl,rfl⟩
section
variable{X:Cx}{pins:List (Addr × Obj)}{σ:St}{H:Hp}{s:Shared}{a:Addr}{y v:V}{u r:Value}{o:Option V}{A:Around}{E:Value->Shared->Prop}
theorem Inv.big(I:Inv X pins σ H s):Zzl<s.heap.objs.size:=by have h:Zyz<s.heap.objs.size:=(I.mod.glob.keeps I.bk).lt;exact ZzJ (by decide) h
theorem Zrg{Q:Value->Shared->Prop}(hu:A.units+1<cLine)(I:Inv X pins σ H s)(g:ZdM H a y (some v))(ry:RelV y u)(h:∀w' s',Inv X pins σ H s'->RelV v w'->Q w' s') :
  wpAny (model X.prog X.w) A (getItem (.ref a) u) Q E s:=by
 rcases g with⟨kvs,k,e,ey,l⟩ | ⟨kvs,k,b,e,ey,eb,l⟩
 ·subst ey
  obtain⟨z,hd,vs,rel,dd⟩:=ZhL I.hok e;obtain⟨w',hw,rw'⟩:=ZgJ.some_of (v:=v) (o:=valueAt vs k) (by rw[l]; exact rel.val k);exact wpAny_getItem_of (ZiZ ry) dd.mapOf hw (h w' _ (I.tok _) rw')
 ·subst ey
  cases(show u=ZyO b from ry);obtain⟨z,hd,xs,rel,dd⟩:=ZiX I.hok e;obtain⟨w',hw,rw'⟩:=ZgJ.some_of (v:=v) (o:=(atKey xs k).map (·.2)) (by rw[l]; exact rel.val k);obtain⟨p,hp,hp2⟩:=ZxT.mp hw;refine wpAny_getItem_heap (ZAl hu) (ZgZ I.hok eb) dd hp ?_;rw[hp2];exact h w' _ (I.tok _) rw'
theorem Zxs{Q:Value->Shared->Prop}(hu:A.units+1<cLine)(I:Inv X pins σ H s)(g:ZdM H a y o)(ry:RelV y u)(h:∀s',Inv X pins σ H s'->Q (.bool o.isSome) s') :
  wpAny (model X.prog X.w) A (ZyY .In u (.ref a)) Q E s:=by
 rcases g with⟨kvs,k,e,ey,l⟩ | ⟨kvs,k,b,e,ey,eb,l⟩
 ·subst ey
  obtain⟨z,hd,vs,rel,dd⟩:=ZhL I.hok e;refine wpAny_in_of (ZiZ ry) hd dd.mapOf ?_;rw[<-(rel.val k).isSome_eq,<-l];exact h _ (I.tok _)
 ·subst ey
  cases(show u=ZyO b from ry);obtain⟨z,hd,xs,rel,dd⟩:=ZiX I.hok e;refine wpAny_in_heap (ZAl hu) (ZgZ I.hok eb) hd dd ?_;have q:=(rel.val k).isSome_eq;rw[Zzi]at q;rw[<-q,<-l];exact h _ (I.tok _)
theorem Zt6{Q:Value->Shared->Prop}(hu:A.units+1<cLine)(I:Inv X pins σ H s)(g:ZdM H a y o)(ry:RelV y u)(h:∀s',Inv X pins σ H s'->Q (.bool (!o.isSome)) s') :
  wpAny (model X.prog X.w) A (ZyY .NotIn u (.ref a)) Q E s:=by
 rcases g with⟨kvs,k,e,ey,l⟩ | ⟨kvs,k,b,e,ey,eb,l⟩
 ·subst ey
  obtain⟨z,hd,vs,rel,dd⟩:=ZhL I.hok e;refine wpAny_notIn_of (ZiZ ry) hd dd.mapOf ?_;rw[<-(rel.val k).isSome_eq,<-l];exact h _ (I.tok _)
 ·subst ey
  cases(show u=ZyO b from ry);obtain⟨z,hd,xs,rel,dd⟩:=ZiX I.hok e;refine wpAny_notIn_heap (ZAl hu) (ZgZ I.hok eb) hd dd ?_;have q:=(rel.val k).isSome_eq;rw[Zzi]at q;rw[<-q,<-l];exact h _ (I.tok _)
theorem Zi4{h':Heap}{t':Nat}{ob:HO}(I:Inv X pins σ H s)(mu:Mut (H a))(hs:ZzH a s.heap h')(he:∃q,h'.get? a=some q)(new:Zab X.prog X.w (upd H a ob) h' a ob) :
  Inv X pins σ (upd H a ob) { s with heap:=h',toks:=t' } :=
 I.write (x:=a) (e:=a) mu (.inl rfl) (λb q hb z=>(hs.2 b hb).trans z) he new
theorem ZrQ{P:Program}{w:World}{H':Hp}{h':Heap}{kvs:List (Key × V)}{vs:List (Key × Value)}(z:kvs.length<=sizeLine)(hd:(a==Zzl)=false)(rel:KV kvs vs)(dd:h'.DictOf (ZaN P w) a vs) :
  Zab P w H' h' a (.dK kvs):=⟨z,hd,vs,rel,dd⟩
theorem Zrl{H':Hp}{Q:Unit->Shared->Prop}(hu:A.units+1<cLine)(I:Inv X pins σ H s)(g:ZiE H a y v H')(ry:RelV y u)(rv:RelV v r)(h:∀s',Inv X pins σ H' s'->Q () s') :
  wpAny (model X.prog X.w) A (setItem (.ref a) u r) Q E s:=by
 rcases g with⟨kvs,k,e,ey,l,eH⟩ | ⟨kvs,k,b,e,ey,eb,l,eH⟩
 ·subst ey eH
  obtain⟨z,hd,vs,rel,dd⟩:=Zqu I.hok e;have hz:vs.length<=sizeLine:=by rw[<-rel.length]; exact z
  have hl:(putK kvs k v).length<=sizeLine:=by have:=ZgG kvs k v; omega
  refine wpAny_setItem_pairs (hsz:=hz) (ZiZ ry) dd λh' dd' hs=>h _ ?_;have he:∃q,h'.get? a=some q:=let ⟨q,_,_,hq,_⟩:=dd'; ⟨q,hq⟩
  exact Zi4 I (by rw[e]; exact ZAM) hs he (ZrQ hl hd (rel.put k rv) dd')
 ·subst ey eH
  cases(show u=ZyO b from ry);obtain⟨z,hd,xs,rel,dd⟩:=ZtO I.hok e;have hz:xs.length<=sizeLine:=by rw[<-ZAj rel]; exact z
  have hl:(putK kvs k v).length<=sizeLine:=by have:=ZgG kvs k v; omega
  refine wpAny_setItem_heap (hsz:=hz) (ZAl hu) (ZgZ I.hok eb) dd λh' dd' hs=>h _ ?_;obtain⟨q,es,ep,hq,h2,h3,h4,_,h5⟩:=dd';refine Zi4 I (by rw[e]; exact ZAM) hs ⟨q,hq⟩ ⟨hl,hd,_,(rel.put k eb rv).keeps λc ys ec=>?_,q,es,ep,hq,h2,h3,h4,h5⟩;rw[ZA (ZtJ ec e (λz=>nomatch z))];exact ec
end
section
variable{X:Cx}{pins:List (Addr × Obj)}{σ:St}{H:Hp}{s:Shared}{a:Addr}{kvs:List (Key × V)}{k:Key}{u:Value}{A:Around}{E:Value->Shared->Prop}
theorem ZwF{Q:Value->Shared->Prop}(I:Inv X pins σ H s)(e:Rd H a (.dK kvs))(h:∀t s',Inv X pins σ H s'->Q (.int kvs.length t) s'):wpAny (model X.prog X.w) A (call (.builtin "len") [.ref a]) Q E s:=by obtain⟨z,hd,vs,rel,dd⟩:=ZhL I.hok e;refine call_len_dict hd dd (by rw[<-rel.length]; rw[Zzc]at z; omega) ?_;rw[<-rel.length];exact h _ _ (I.tok _)
end
def ZqD(i:Expr):Prop:=∀ov iv,ZCb i false ov iv=operate [ov,iv] (getItem ov iv)
theorem Zuj{prog:Program}{w:World}{A:Around}{E:Value->Shared->Prop}{s:Shared}{env:Env}{value slice:Expr}{pos:Pos}{T id:String}{Q:Value->Shared->Prop}
  (hl:typeLookup (.type T) "__getitem__" = pure (some (.builtin id))) (hs:ZqD slice)
  (h:wpAny (model prog w) A (eval value env) (λo s₁=>wpAny (model prog w) A (eval slice env) (λi s₂=>s₂.TypeIs o T/\wpAny (model prog w) A (getItem o i) Q E s₂) E s₁) E s) :
  wpAny (model prog w) A (eval (.Subscript value slice pos) env) Q E s:=by
 refine Subscript_ (Zy3 h (λo s₁ h₁=>Zy3 h₁ (λi s₂ h₂=>?_) λ_ _ x=>x) λ_ _ x=>x);obtain⟨hT,h₂⟩:=h₂;unfold subscriptTail;refine ZxQ ?_;rw[getitemInPython_of_ne hT.not_modules];refine ZxQ (wpAny_specialOf hT hl ?_);have fin:wpAny (model prog w) A (ZCb slice false o i) (λr s₃=>wpAny (model prog w) A (letTemporaryGo value o r >>= λ_=>pure r) Q E s₃) E s₂:=by rw[hs o i];exact wpAny_operating (Zy3 h₂ (λr s₃ h₃=>ZxQ (wpAny_letTemporaryGo (ZxV h₃))) λ_ _ x=>x)
 first
  | exact ZxV (ZxQ fin)
  | exact ZxQ (ZxV (ZxQ fin))
  | exact ZxQ fin
theorem Zo7{X:Cx}{pins:List (Addr × Obj)}{σ:St}{H:Hp}{s:Shared}{a:Addr}{y:V}{o:Option V}(I:Inv X pins σ H s)(g:ZdM H a y o):s.TypeIs (.ref a) "dict":=by
 rcases g with⟨kvs,k,e,_,_⟩ | ⟨kvs,k,b,e,_,_,_⟩
 ·obtain⟨_,_,vs,_,dd⟩:=ZhL I.hok e
  exact dd.typeIs
 ·obtain⟨_,_,xs,_,dd⟩:=ZiX I.hok e
  exact dd.typeIs
def ZwA(td ty:TE):TE:=λσ H Q=>td σ H λx H1=>ty σ H1 λy H2=>∃a v,x=.ref a/\ZdM H2 a y (some v)/\Q v H2
def Zxm(ty td:TE):TE:=λσ H Q=>ty σ H λy H1=>td σ H1 λx H2=>∃a o,x=.ref a/\ZdM H2 a y o/\Q (.bl o.isSome) H2
def ZuG(ty td:TE):TE:=λσ H Q=>ty σ H λy H1=>td σ H1 λx H2=>∃a o,x=.ref a/\ZdM H2 a y o/\Q (.bl (!o.isSome)) H2
def ZwI(td ty tv:TE):TS:=λD σ H=>tv σ H λv H1=>td σ H1 λx H2=>ty σ H2 λy H3=>∃a H4,x=.ref a/\ZiE H3 a y v H4/\D.nx σ H4
section
variable{X:Cx}{o i e value:Expr}{pos pos' tpos:Pos}{td ty tv:TE}
theorem Zpx(hu:X.A.units+1<cLine)(ho:PE X o td)(hi:PE X i ty)(hs:ZqD i):PE X (.Subscript o i pos) (ZwA td ty):=by intro pins s σ H Q I h;refine Zuj PySem.F.slot_dict_getitem.lookup hs (thn (ho pins s σ H _ I h) λu s1 ⟨x,H1,I1,rx,q1⟩=>thn (hi pins s1 σ H1 _ I1 q1) λiv s2 ⟨y,H2,I2,ry,a,v,ex,g,q2⟩=>?_);subst ex;obtain rfl:u=ZyO a:=rx;exact⟨Zo7 I2 g,Zrg hu I2 g ry λw' s3 I3 rw'=>⟨v,H2,I3,rw',q2⟩⟩
theorem Zv1(hu:X.A.units+1<cLine)(hi:PE X i ty)(ho:PE X o td):PC X .In i o (Zxm ty td):=by intro pins s σ H Q I h;refine thn (hi pins s σ H _ I h) λiv s1 ⟨y,H1,I1,ry,q1⟩=>thn (ho pins s1 σ H1 _ I1 q1) λu s2 ⟨x,H2,I2,rx,a,ov,ex,g,q2⟩=>?_;subst ex;obtain rfl:u=ZyO a:=rx;exact Zxs hu I2 g ry λs3 I3=>⟨.bl ov.isSome,H2,I3,rfl,q2⟩
theorem ZrP(hu:X.A.units+1<cLine)(hi:PE X i ty)(ho:PE X o td):PC X .NotIn i o (ZuG ty td):=by intro pins s σ H Q I h;refine thn (hi pins s σ H _ I h) λiv s1 ⟨y,H1,I1,ry,q1⟩=>thn (ho pins s1 σ H1 _ I1 q1) λu s2 ⟨x,H2,I2,rx,a,ov,ex,g,q2⟩=>?_;subst ex;obtain rfl:u=ZyO a:=rx;exact Zt6 hu I2 g ry λs3 I3=>⟨.bl (!ov.isSome),H2,I3,rfl,q2⟩
theorem Zpq(hu:X.A.units+1<cLine)(ho:PE X o td)(hi:PE X i ty)(hv:PE X value tv)(hs:Zz6 value (some (.Subscript o i pos')) pos.line X.env=pure false) :
  PS X (.Assign [.Subscript o i pos'] value pos) (ZwI td ty tv):=by
 intro pins s σ H D I h;refine wpAny_Assign_Subscript (thn (hv pins s σ H _ I h) λr s1 ⟨v,H1,I1,rv,q1⟩=>thn (ho pins s1 σ H1 _ I1 q1) λu s2 ⟨x,H2,I2,rx,q2⟩=>thn (hi pins s2 σ H2 _ I2 q2) λiv s3 ⟨y,H3,I3,ry,a,H4,ex,g,q3⟩=>?_) hs;subst ex;obtain rfl:u=ZyO a:=rx;exact Zrl hu I3 g ry rv λs4 I4=>⟨σ,H4,I4,q3⟩
end
theorem Zoe{P:Program}{w:World}{H:Hp}(h:Heap)(hb:Zzl<h.objs.size):Zab P w H (h.push { cls:=.type "dict",data:=.dict #[] }) h.objs.size (.dK []) :=
 ⟨Zzu _,beq_eq_false_iff_ne.mpr (ZyR (Zyf hb)),[],.nil,Heap.DictOf.new h⟩
theorem Zs2{P:Program}{w:World}{H:Hp}(h:Heap)(hb:Zzl<h.objs.size):Zab P w H (h.push { cls:=.type "dict",data:=.dict #[] }) h.objs.size (.dT []) :=
 ⟨Zzu _,beq_eq_false_iff_ne.mpr (ZyR (Zyf hb)),[],.nil,_,#[],0,Zx9 _ rfl,⟨rfl,rfl,rfl⟩,rfl,rfl,ZzE⟩
def ZvV:TE:=λ_ H Q=>∀p,H p=none->Q (.ref p) (upd H p (.dK []))
def Zvz:TE:=λ_ H Q=>∀p,H p=none->Q (.ref p) (upd H p (.dT []))
section
variable{X:Cx}{pos:Pos}
theorem ZsG:PE X (.Dict [] [] pos) ZvV:=λpins s σ H Q I h=>wpAny_Dict_empty ⟨.ref s.heap.objs.size,_,I.laid (a:=s.heap.objs.size) (o:=.dK []) (t':=s.toks) (λ_ _ q=>ZxX _ q) (Zx2 _) (Zoe s.heap I.big),rfl,h _ (I.hok.fresh (Zx2 _))⟩
theorem Znz:PE X (.Dict [] [] pos) Zvz:=λpins s σ H Q I h=>wpAny_Dict_empty ⟨.ref s.heap.objs.size,_,I.laid (a:=s.heap.objs.size) (o:=.dT []) (t':=s.toks) (λ_ _ q=>ZxX _ q) (Zx2 _) (Zs2 s.heap I.big),rfl,h _ (I.hok.fresh (Zx2 _))⟩
end
def Zn2:List (TE × TE)->St->Hp->(List (V × V)->Hp->Prop)->Prop
 | [],_,H,Q=>Q [] H
 | (tk,tv)::r,σ,H,Q=>tk σ H λx H1=>tv σ H1 λy H2=>Zn2 r σ H2 λps H3=>Q ((x,y)::ps) H3
abbrev VV:List (V × V)->List (Value × Value)->Prop:=Paired λp q=>RelV p.1 q.1/\RelV p.2 q.2
def PPs(X:Cx)(pos:Pos)(keys:List (Option Expr))(values:List Expr)(trs:List (TE × TE)):Prop :=
 ∀(pins:List (Addr × Obj)) (s:Shared) (σ:St) (H:Hp) (Q:List (V × V)->Hp->Prop),Inv X pins σ H s->Zn2 trs σ H Q ->
  wpAny (model X.prog X.w) X.A (evalPairs (pairTrees keys values X.env pos)) (λvs s'=>∃ps H',Inv X pins σ H' s'/\VV ps vs/\Q ps H') X.xe s
theorem ZuQ{X:Cx}{pos:Pos}:PPs X pos [] [] []:=λpins s σ H Q I h=>pairTrees_nil_walk ⟨[],H,I,.nil,h⟩
theorem Zsz{X:Cx}{pos:Pos}{k v:Expr}{ks:List (Option Expr)}{vs:List Expr}{tk tv:TE}{trs:List (TE × TE)}(hk:PE X k tk)(hv:PE X v tv)(hr:PPs X pos ks vs trs) :
  PPs X pos (some k::ks) (v::vs) ((tk,tv)::trs):=λpins s σ H Q I h =>
 pairTrees_cons_walk (thn (hk pins s σ H _ I h) λu s1 ⟨x,H1,I1,rx,q1⟩=>thn (hv pins s1 σ H1 _ I1 q1) λw2 s2 ⟨y,H2,I2,ry,q2⟩=>thn (hr pins s2 σ H2 _ I2 q2) λws s3 ⟨ps,H3,I3,rel,q3⟩=>⟨(x,y)::ps,H3,I3,.cons ⟨rx,ry⟩ rel,q3⟩)
def Zg3(kvs more:List (Key × V)):List (Key × V):=more.foldl (λacc kv=>putK acc kv.1 kv.2) kvs
theorem KV.merge:∀{more:List (Key × V)} {rs:List (Key × Value)} {kvs:List (Key × V)} {vs:List (Key × Value)},KV more rs->KV kvs vs->KV (Zg3 kvs more) (merged vs rs):=by
 intro more rs kvs vs r;unfold KV at r
 induction r generalizing kvs vs with
 | nil=>intro q; exact q
 | @cons p q ps qs h t ih =>
  intro r0;have e:KV (putK kvs p.1 p.2) (stored vs q.1 q.2):=by have:=r0.put p.1 h.2;rw[<-h.1]; exact this
  exact ih e
theorem ZhZ:∀(more kvs:List (Key × V)),(Zg3 kvs more).length<=kvs.length+more.length
 | [],kvs=>by show kvs.length<=kvs.length+0; omega
 | p::r,kvs=>by have h1:=ZhZ r (putK kvs p.1 p.2);have h2:=ZgG kvs p.1 p.2;show(Zg3 (putK kvs p.1 p.2) r).length<=_;rw[Zx8]; omega
theorem ZkL{P:Program}{w:World}:∀{kvs:List (Key × V)} {ws:List (Value × Value)},VV (kvs.map λkv=>(kV kv.1,kv.2)) ws->∃rs,Carries (ZaN P w) ws rs/\KV kvs rs
 | [],_,r=>by rw[ZzI]at r; cases r; exact⟨[],ZAM,.nil⟩
 | p::kvs,_,r=>by
  rw[ZxY]at r;cases r with
  | @cons a b as bs h t=>obtain⟨rs,c,q⟩:=ZkL (P:=P) (w:=w) t;obtain⟨b1,b2⟩:=b;exact⟨(p.1,b2)::rs,⟨ZiZ h.1,rfl,c⟩,.cons ⟨rfl,h.2⟩ q⟩
def ZwS(trs:List (TE × TE)):TE:=λσ H Q=>∀p,H p=none->Zn2 trs σ (upd H p (.dK [])) λps H2=>H2 p=some (.dK [])/\∃kvs:List (Key × V),ps=kvs.map (λkv=>(kV kv.1,kv.2))/\kvs.length<=15/\Q (.ref p) (upd H2 p (.dK (Zg3 [] kvs)))
theorem ZuO{X:Cx}{pos:Pos}{keys:List (Option Expr)}{values:List Expr}{trs:List (TE × TE)}(h:PPs X pos keys values trs)(hall:keys.all (·.isSome)=true)(hl:keys.length=values.length)(h0:keys≠[])
  (h15:keys.length<=15):PE X (.Dict keys values pos) (ZwS trs):=by
 intro pins s σ H Q I q;have hn:=I.hok.fresh (Zx2 s.heap.objs.size);have I1:=I.laid (a:=s.heap.objs.size) (o:=.dK []) (h':=s.heap.push { cls:=.type "dict",data:=.dict #[] }) (t':=s.toks) (λ_ _ q=>ZxX _ q) (Zx2 _) (Zoe s.heap I.big);refine wpAny_Dict_walk (knd:=ZaN X.prog X.w) hall hl h0 h15 (thn (h pins _ σ _ _ I1 (q _ hn)) λws s2 ⟨ps,H2,I2,rel,e,kvs,ep,lk,q2⟩=>?_);subst ep;obtain⟨rs,c,rk⟩:=ZkL (P:=X.prog) (w:=X.w) rel;obtain⟨z,hd,vs0,r0,dd⟩:=Zqu I2.hok e;cases r0;refine⟨rs,c,dd,λh' dd' hs=>⟨.ref s.heap.objs.size,_,?_,rfl,q2⟩⟩;have hz:(Zg3 [] kvs).length<=sizeLine:=by have h1:=ZhZ kvs [];rw[List.length_nil]at h1;rw[Zzc]; omega
 have he:∃q,h'.get? s.heap.objs.size=some q:=let ⟨q,_,_,hq,_⟩:=dd'; ⟨q,hq⟩
 exact Zi4 I2 (by rw[e]; exact ZAM) hs he (ZrQ hz hd (rk.merge .nil) dd')
structure M2(X:Cx)(o:Expr)(m:Str)(apos:Pos)(e f:Expr)(cpos:Pos):Prop where
 base:ZAk o m X.env (eval o X.env)=eval o X.env
 few:((backTo cpos (Zx6 [e,f] X.env)).all (λx=>!x.1)&&(backToKw cpos (ZBr [] X.env)).all (λx=>x.1.isSome)
  && decide (([e,f]:List Expr).length+([]:List Keyword).length+(if([]:List Keyword).isEmpty then 0 else 1)<30))=true
 line:(apos.endLine==cpos.line)=true
 trees:backTo cpos (Zx6 [e,f] X.env)=[(false,eval e X.env),(false,eval f X.env)]
def IsD(H:Hp)(a:Addr):Prop:=(∃kvs,Rd H a (.dK kvs))\/∃kvs,Rd H a (.dT kvs)
theorem Zv3{X:Cx}{pins:List (Addr × Obj)}{σ:St}{H:Hp}{s:Shared}{a:Addr}(I:Inv X pins σ H s)(d:IsD H a) :
  s.TypeIs (.ref a) "dict"/\(∀b,ZyO a=.ref b->∃ob,s.heap.get? b=some ob/\ob.dict=none)/\(a==Zzl)=false:=by
 rcases d with⟨kvs,e⟩ | ⟨kvs,e⟩
 ·obtain⟨_,hd,vs,_,dd⟩:=ZhL I.hok e
  refine⟨dd.typeIs,λb q=>?_,hd⟩;cases q;obtain⟨ob,_,_,h1,h2,_⟩:=dd;exact⟨ob,h1,h2.2.1⟩
 ·obtain⟨_,hd,xs,_,dd⟩:=ZiX I.hok e
  refine⟨dd.typeIs,λb q=>?_,hd⟩;cases q;obtain⟨ob,_,_,h1,h2,_⟩:=dd;exact⟨ob,h1,h2.2.1⟩
end L2
namespace Att
open PySem PySem.W PySem.Calls PyProof.Rows
theorem ZkC{P:Params}{h:Heap}:∀(ns:List Int) (vs:List Value),WellAll P h vs (ns.map WData.int)->IntsAre vs ns:=by
 intro ns
 induction ns with
 | nil=>intro vs w;rw[ZzI]at w;cases w;exact .nil
 | cons n ns ih =>
  intro vs w;rw[ZxY]at w;cases w with
  | cons a b=>cases a;exact .cons _ _ (ih _ b)
theorem ZrA{l:OpenLaw}{n:Nat}(hn:l.most=some n){P:Params}{h:Heap}{args:List WData}{vals:List Value}
  (hpre:l.row.toRowW.claim.pre args=true) (hwl:WellAll P h vals args) :
  ∃a vs ns,vals=[ZyO a]/\args=[WData.list (ns.map WData.int)]/\h.get? a=some { cls:=.type "list",data:=.seq vs.toArray }/\IntsAre vs ns/\ns.length<=n:=by
 have hsh:WShape.hasAll [] args [.list .int]=true:=(pre_splitW hpre).1;have hc:l.pre.holds [] { args:=args }=true:=(pre_splitW hpre).2;obtain⟨d,r,rfl,h1,h2⟩:=hasAllW_cons hsh;obtain rfl:=hasAllW_nil h2;obtain⟨xs,rfl,h3⟩:=hasW_list h1;obtain⟨ns,rfl⟩:=items_int h3;have hlen:ns.length<=n:=by
  unfold OpenLaw.pre at hc;have h4:(WTm.not (.lt (.lit (.int (n:Int))) (.len (.arg 0)))).holds [] { args:=[.list (ns.map .int)] }=true:=by have h4:=(holds_andW hc).1;rw[hn]at h4;exact h4
  have h5:=condW_of h4 (w_not (w_lt w_lit (w_len_list (w_arg rfl))));rw[ZxS]at h5;refine ZAv λq=>?_;have q':(n:Int)<((ns.length:Nat):Int):=by omega
  first
   | (rw[decide_eq_true q']at h5; exact absurd h5 (by decide))
   | (simp at h5; omega)
 cases hwl with
 | cons w1 w2 =>
  cases w2;cases w1 with
  | list ho hall=>exact⟨_,_,ns,rfl,rfl,ho,ZkC ns _ hall,hlen⟩
theorem ZrO(l:OpenLaw)(args:List WData):l.row.toRowW.claim.post args (.bool true) args=true :=
 postW_of (r:=l.row.toRowW) (X:=(true==true))
  (show WShape.has [] (.bool true) .bool=true by first | rfl | decide | simp[WShape.has,WShape.arms,WShape.armsAll])
  (show(WTm.eq .res (.lit (.bool true))).value [] { args:=args,res:=some (.bool true),after:=args }=some (.bool (true==true)) from w_eq_bool (w_res rfl) w_lit) rfl
theorem Zo1{l:OpenLaw}{n:Nat}{q:Program}{loose:List Str}{XP:(Str->Option Value)->Heap->Prop}{YP:World->Heap->Prop}{d:DefRec}
  (hn:l.most=some n) (hdf:d.params.defaults=[])
  (call:∀(w:World) (s₀ s₁:Shared) (mg mb:Str->Option Value) (fa:Addr) (o:Obj) (pm cd doc:Value) (a:Addr) (vs:List Value) (ns:List Int),
   Ground q loose [] XP w s₀ mg mb s₁.heap->YP w s₁.heap ->
   s₁.heap.get? fa=some o->o.data=.func (docDef d.name d.params d.body d.scope pm cd doc)->s₁.heap.CodeRec cd d.name->mg d.name=some (.ref fa) ->
   s₁.heap.get? a=some { cls:=.type "list",data:=.seq vs.toArray }->IntsAre vs ns->ns.length<=n->s₁.gens=#[] ->
   codeAny (model l.prog w) callerA (.call (.ref fa) ⟨[.ref a],[]⟩) (λr s'=>r=.ok (.ret (.bool true))/\OldK s₁.heap s'.heap/\s'.os=s₁.os/\AllBare s'.gens) s₁) :
  WalkO q loose XP YP l.row.toRowW d [] (λf vs=>PySem.call f vs):=by
 intro w s₀ s₁ mg mb G Y fa o pm cd doc dV kV ho hd hcd hD hmg hg args vals as hpre hlay hrd hwl hlo;obtain rfl:dV=.none:=Dflts.none hD hdf;obtain rfl:kV=.none:=Dflts.noKw hD;obtain⟨a,vs,ns,rfl,rfl,hobj,hints,hlen⟩:=ZrA hn hpre hwl;refine enter_call (ZzS (call w s₀ s₁ mg mb fa o pm cd doc a vs ns G Y ho (fd_plain hd) hcd hmg hobj hints hlen hg) λr s' hq=>?_);obtain⟨rfl,h2,h3,h4⟩:=hq;exact⟨.inl ⟨.bool true,.bool true,[],rfl,λ_=>rfl,.bool true,ZrO l _,λ_=>⟨List.Pairwise.nil,λ_ hm=>(nomatch hm)⟩⟩,h2,h3,h4⟩
end Att
namespace L2
open PySem PySem.Spec PyProof.Rows
theorem ZlB:∀{vs:List Value} {ns:List Int},IntsAre vs ns->Vals (ns.map V.int) vs
 | _,_,.nil=>.nil
 | _,_,.cons n t h=>.cons ⟨t,rfl⟩ (ZlB h)
end L2
namespace L2
open PySem PySem.Spec PyProof.Rows
end L2
namespace L2
open PySem PySem.Spec PyProof.Rows
def Zca(s:Stmt):Arguments:=match s with
 | .FunctionDef _ a _ _ _ _ _ _ _ _=>a
 | _=>{ posonlyargs:=[],args:=[],vararg:=none,kwonlyargs:=[],kw_defaults:=[],kwarg:=none,defaults:=[] }
def Za2(s:Stmt):List Stmt:=match s with
 | .FunctionDef _ _ b _ _ _ _ _ _ _=>b
 | _=>[]
def Zf(s:Stmt):Scope:=match s with
 | .FunctionDef _ _ _ _ _ _ sc _ _ _=>sc
 | _=>{ kind:=.function,names:=[],isGenerator:=false,isCoroutine:=false }
abbrev CX0:CXT:=λ_ _ _ _ _ _=>False
abbrev E0:XK:=λ_ _ _=>False
theorem Zqd{X:Cx}:Passes CX0 X E0:=λ_ _ _ _ _ _ _ h=>h.elim
structure Fun(K:ZxR)(x qual:Str)(st:Stmt)(f:Addr)(fd:FuncData):Prop where
 ex:∃(oc:Value) (od:Option Addr) (kV doc pm:Value) (an:Option Addr) (cdv ct:Value) (osl:Array (Option Value)),
  fd=Zy6 x qual (Zca st) (Za2 st) (Zf st) .none kV doc pm an cdv ct/\K.lookup f=some ⟨oc,od,.func fd,osl⟩/\ZzO K cdv qual=true
 kp:Zzd K (.ref f)=true
section
variable{P:Program}{w:World}{K:ZxR}{mg:Str->Option Value}{base:Heap}
theorem Fun.ok{x qual:Str}{st:Stmt}{f:Addr}{fd:FuncData}{N ps:List Str}{k:Nat}{sp:Sp}(F:Fun K x qual st f fd)(S:Zs N ps (Zf st))(len:∀vs H Q E,sp vs H Q E->vs.length=ps.length)
  (hbody:∀(cdv:Value) (A:Around) (outer:List Env) (s:Shared) (H:Hp) (vs:List V) (Q:VK) (E:XK),Zaq k (A.deeper (envOfC qual (Zf st) s.heap.objs.size f cdv))->sp vs H Q E ->
   ∃t,PSs (Zf4 CX0 P w K mg base N qual (Zf st) f cdv A outer s H E).nox (Za2 st) t/\t { nx:=λ_ H'=>Q .non H',rt:=Q } (start N vs) H):Zde P w K mg base CX0 (k+1) f fd ps sp:=by
 obtain⟨oc,od,kV,doc,pm,an,cdv,ct,osl,rfl,lk,hcd⟩:=F.ex;refine ZtK lk hcd S len λA outer s H vs Q E hr hsp=>?_;obtain⟨t,h,q⟩:=hbody cdv A outer s H vs Q E hr hsp;exact⟨t,h.nox,q⟩
theorem Fun.binds{x qual:Str}{st:Stmt}{f:Addr}{fd:FuncData}{ps:List Str}(F:Fun K x qual st f fd)
  (h:∀(kV doc pm:Value) (an:Option Addr) (cdv ct:Value) (us:List Value),us.length=ps.length->bindArgs (Zy6 x qual (Zca st) (Za2 st) (Zf st) .none kV doc pm an cdv ct) ⟨us,[]⟩=pure (ps.zip us)):Binds K fd ps []:=by
 obtain⟨oc,od,kV,doc,pm,an,cdv,ct,osl,rfl,lk,hcd⟩:=F.ex;exact .all (h kV doc pm an cdv ct)
theorem ZnO{x qual:Str}{st:Stmt}{f:Addr}{oc:Value}{od an:Option Addr}{osl:Array (Option Value)}{kV doc pm cdv ct:Value}(l:K.lookup f=some ⟨oc,od,.func (Zy6 x qual (Zca st) (Za2 st) (Zf st) .none kV doc pm an cdv ct),osl⟩)
  (c:ZzO K cdv qual=true) (k:Zzd K (.ref f)=true):Fun K x qual st f (Zy6 x qual (Zca st) (Za2 st) (Zf st) .none kV doc pm an cdv ct):=⟨⟨oc,od,kV,doc,pm,an,cdv,ct,osl,rfl,l,c⟩,k⟩
end
theorem ZJ{A:Around}{k:Nat}(hr:Zaq k A):A.units+1<cLine:=Nat.lt_of_le_of_lt (Nat.add_le_add_left (by decide:1<=64) _) hr.units
theorem Zoh{A B:Prop}(h:B):if false=true then A else B:=by rw[if_neg Zyy];exact h
theorem ZnF{A B:Prop}(h:A):if true=true then A else B:=by rw[if_pos rfl];exact h
def Zp(H H':Hp):Prop:=∀b o,H b=some o->H' b=some o
theorem Zp.refl(H:Hp):Zp H H:=λ_ _ h=>h
theorem Zp.trans{H H1 H2:Hp}(a:Zp H H1)(b:Zp H1 H2):Zp H H2:=λc o h=>b c o (a c o h)
theorem Zp.free{H H':Hp}(e:Zp H H'){l:Addr}(h:H' l=Option.none):H l=Option.none:=by
 cases q:H l with
 | none=>rfl
 | some o=>rw[e l o q]at h;cases h
theorem Zp.seq{K:ZxR}{H H':Hp}{a:Addr}{xs:List V}(e:Zp H H')(h:SqL K H a xs):SqL K H' a xs:=by
 rcases h with(h | ⟨o,h⟩) | h
 ·exact .inl (.inl (e _ _ h))
 ·exact .inl (.inr ⟨o,e _ _ h⟩)
 ·exact .inr h
end L2
namespace L2
open PySem PySem.Spec PyProof.Rows
section
variable{X:Cx}
theorem Zrw:Za7 X (.builtin "len") (λxs H Q=>∃a kvs,xs=[V.ref a]/\H a=some (.dK kvs)/\Q (.int kvs.length) H):=by intro pins s σ H xs us Q I r h;obtain⟨a,kvs,rfl,ha,q⟩:=h;obtain⟨u,rfl,ru⟩:=vals1 r;cases ru;exact ZwF I (.inl ha) λt s' I'=>⟨.int kvs.length,H,I',⟨t,rfl⟩,q⟩
end
end L2
namespace HM
open PySem
abbrev D:=PyData
abbrev Ky:=Sum Int Str
inductive B where
 | pl (d:D)
 | ol (ds:List D)
 | ok (kvs:List (Ky × D))
 | ot (kvs:List (List Ky × D))
 | otl (kvs:List (List Ky × List D))
 | hd (es:List (D × D))
abbrev Env:=List (Option B)
inductive Out where
 | nx (r:Env)
 | rt (d:D)
 | bk (r:Env)
 | ct (r:Env)
abbrev EF:=Env->Option D
abbrev BF:=Env->Option B
abbrev TF:=Env->Option Bool
abbrev IF:=Env->Option (List D)
abbrev AF:=Env->Option (List D)
abbrev SF:=Env->Option Out
@[simp] def big:Nat:=1000000
@[simp] def Zd(i:Nat):EF:=λr=>match r[i]? with
 | some (some (.pl d))=>some d
 | _=>none
@[simp] def Zr(i:Nat):BF:=λr=>match r[i]? with
 | some (some b)=>some b
 | _=>none
@[simp] def bOf(f:EF):BF:=λr=>(f r).map B.pl
def ZaL:Ky->D
 | .inl i=>.int i
 | .inr x=>.str x
def Zi(kvs:List (List Ky × D)):List (D × D):=kvs.map λp=>(.tuple (p.1.map ZaL),p.2)
@[simp] def frz:B->Option D
 | .pl d=>some d
 | .ol ds=>some (.list ds)
 | .ot kvs=>some (.dict (Zi kvs))
 | .hd es=>some (.dict es)
 | _=>none
@[simp] def eOf(f:BF):EF:=λr=>(f r).bind frz
@[simp] def eC(d:D):EF:=λ_=>some d
@[simp] def op2(g:D->D->Option D)(a b:EF):EF:=λr=>match a r with
 | some x=>match b r with
  | some y=>g x y
  | none=>none
 | none=>none
@[simp] def Zfc(g:Int->Int->Option D):D->D->Option D
 | .int i,.int j=>g i j
 | _,_=>none
def Z0(i:Int):Bool:=Nat.blt i.natAbs 18446744073709551616
@[simp] def Zbb(x y:D):Option D:=Zfc (λi j=>some (.int (i+j))) x y
@[simp] def Zkc(x y:D):Option D:=Zfc (λi j=>some (.int (i-j))) x y
@[simp] def Zb4(x y:D):Option D:=Zfc (λi j=>if Z0 i||Z0 j then some (.int (i*j))else none) x y
@[simp] def ZjQ(x y:D):Option D:=Zfc (λi j=>if 0<j then some (.int (i % j))else none) x y
@[simp] def gLt(x y:D):Option D:=Zfc (λi j=>some (.bool (decide (i<j)))) x y
@[simp] def gLe(x y:D):Option D:=Zfc (λi j=>some (.bool (decide (i<=j)))) x y
@[simp] def gGt(x y:D):Option D:=Zfc (λi j=>some (.bool (decide (j<i)))) x y
def Zan(d:D):Bool:=d.canLay0&&decide (d.depth<=60)
@[simp] def gEq(a b:D):Option D:=if Zan a&&Zan b then some (.bool (ZyW a b))else none
@[simp] def gNe(a b:D):Option D:=if Zan a&&Zan b then some (.bool (!PyData.eqv a b))else none
@[simp] def ZqA(a b:D):Option D:=match b with
 | .none=>match a with
  | .none=>some (.bool true)
  | _=>some (.bool false)
 | _=>none
@[simp] def Zfu(a b:D):Option D:=match b with
 | .none=>match a with
  | .none=>some (.bool false)
  | _=>some (.bool true)
 | _=>none
@[simp] def Zks(g g':D->D->Option D)(a b c:EF):EF:=λr=>match a r with
 | some x=>match b r with
  | some y=>match g x y with
   | some (.bool true)=>match c r with
    | some z=>g' y z
    | none=>none
   | some (.bool false)=>some (.bool false)
   | _=>none
  | none=>none
 | none=>none
@[simp] def ZhB(a b:EF):EF:=λr=>match a r with
 | some (.bool true)=>b r
 | some (.bool false)=>some (.bool false)
 | _=>none
@[simp] def tV(a:EF):TF:=λr=>match a r with
 | some (.bool b)=>some b
 | _=>none
@[simp] def Zdd(a:TF):TF:=λr=>(a r).map (!·)
@[simp] def tOr(a b:TF):TF:=λr=>match a r with
 | some true=>some true
 | some false=>b r
 | none=>none
@[simp] def eIf(c:TF)(a b:EF):EF:=λr=>match c r with
 | some true=>a r
 | some false=>b r
 | none=>none
@[simp] def Zcm:B->Option (List D)
 | .pl (.tuple ds)=>some ds
 | .pl (.list ds)=>some ds
 | .ol ds=>some ds
 | _=>none
def ixN(n:Nat)(i:Int):Option Nat :=
 if 0<=i then(if i<n then some i.toNat else none)else(if -(n:Int)<=i then some (i+n).toNat else none)
def atD(ds:List D)(i:Int):Option D:=match ixN ds.length i with
 | some j=>ds[j]?
 | none=>none
@[simp] def eIx(a:BF)(b:EF):EF:=λr=>match a r with
 | some x=>match Zcm x with
  | some ds=>match b r with
   | some (.int i)=>atD ds i
   | _=>none
  | none=>none
 | none=>none
@[simp] def Zxr:B->Option Nat
 | .pl (.tuple ds)=>some ds.length
 | .pl (.list ds)=>some ds.length
 | .ol ds=>some ds.length
 | .ok kvs=>some kvs.length
 | _=>none
@[simp] def Zbg(a:BF):EF:=λr=>match a r with
 | some x=>(Zxr x).map λ(n:Nat)=>ZyI (n:Int)
 | none=>none
@[simp] def Zba(a:BF):EF:=λr=>match a r with
 | some x=>(Zcm x).map λds=>.tuple ds
 | none=>none
@[simp] def Zi2(a:BF):BF:=λr=>match a r with
 | some x=>(Zcm x).map λds=>.ol ds
 | none=>none
def Ze2:List D->Option (List Bool)
 | []=>some []
 | .bool b::r=>(Ze2 r).map (b::·)
 | _::_=>none
@[simp] def ZkV:B->Option (List D)
 | .pl (.list ds)=>some ds
 | .ol ds=>some ds
 | _=>none
@[simp] def Zio(a:BF):EF:=λr=>match a r with
 | some x=>match ZkV x with
  | some ds=>(Ze2 ds).map λbs=>.bool (bs.all id)
  | none=>none
 | none=>none
@[simp] def Zk:AF:=λ_=>some []
@[simp] def Zb(a:EF)(b:AF):AF:=λr=>match a r with
 | some x=>(b r).map (x::·)
 | none=>none
@[simp] def ZdK(a:AF):EF:=λr=>(a r).map λds=>.tuple ds
@[simp] def Zdg(a:AF):BF:=λr=>(a r).map λds=>.ol ds
inductive Ty where
 | bool | int | str | tuple | list | dict
@[simp] def ZhA:Ty->D->Bool
 | .bool,.bool _=>true
 | .int,.int _=>true
 | .int,.bool _=>true
 | .str,.str _=>true
 | .tuple,.tuple _=>true
 | .list,.list _=>true
 | .dict,.dict _=>true
 | _,_=>false
@[simp] def Zfi(a:EF)(t:Ty):EF:=λr=>match a r with
 | some (.dict _)=>none
 | some d=>some (.bool (ZhA t d))
 | none=>none
@[simp] def Zwc(x y:D):Option D:=Zfc (λi j=>some (.int (if j > i then j else i))) x y
@[simp] def ZvL(x y:D):Option D:=Zfc (λi j=>some (.int (if j<i then j else i))) x y
@[simp] def Zoa(a:EF):EF:=λr=>match a r with
 | some (.int i)=>some (.int i)
 | some (.bool b)=>some (.int (if b then 1 else 0))
 | _=>none
@[simp] def Zqn(a b:BF):BF:=λr=>match a r with
 | some (.ol xs)=>match b r with
  | some (.ol ys)=>if xs.length+ys.length<big then some (.ol (xs++ys))else none
  | _=>none
 | _=>none
@[simp] def ZsL(a:BF)(b:EF):BF:=λr=>match a r with
 | some (.ol xs)=>match b r with
  | some (.int k)=>if decide (k.natAbs<1000)&&decide (xs.length<1000)then some (.ol (Zyp k.toNat xs).flatten)else none
  | _=>none
 | _=>none
def sIx(n d:Nat):Option Int->Nat
 | none=>d
 | some v=>if v<0 then(v+(n:Int)).toNat else min v.toNat n
def cutD(xs:List D)(lo hi:Option Int):List D:=(xs.drop (sIx xs.length 0 lo)).take (sIx xs.length xs.length hi-sIx xs.length 0 lo)
@[simp] def Zqv(a:Option EF)(r:Env):Option (Option Int):=match a with
 | none=>some none
 | some f=>match f r with
  | some (.int i)=>some (some i)
  | _=>none
@[simp] def Zts(a:BF)(lo hi:Option EF):BF:=λr=>match a r with
 | some x=>match ZkV x with
  | some xs=>match Zqv lo r with
   | some l=>match Zqv hi r with
    | some h=>some (.ol (cutD xs l h))
    | none=>none
   | none=>none
  | none=>none
 | none=>none
def ZaO:List D->Option (List Int)
 | []=>some []
 | .int i::r=>(ZaO r).map (i::·)
 | _::_=>none
def Zi5:List D->Option (List (List Int))
 | []=>some []
 | .tuple ds::r=>match ZaO ds with
  | some ns=>(Zi5 r).map (ns::·)
  | none=>none
 | _::_=>none
def lexLt:List Int->List Int->Bool
 | [],[]=>false
 | [],_::_=>true
 | _::_,[]=>false
 | a::r,b::q=>if a=b then lexLt r q else decide (a<b)
def sortI(ns:List Int):List Int:=ns.mergeSort λa b=>decide (a<=b)
def Zex(ts:List (List Int)):List (List Int):=ts.mergeSort λa b=>!lexLt b a
def ofInts(ns:List Int):List D:=ns.map λi=>ZyI i
def Ze4(ts:List (List Int)):List D:=ts.map λt=>Zyv (ofInts t)
def ZdC(ds:List D):Option (List D) :=
 if ds.length<64 then match ZaO ds with
  | some ns=>some (ofInts (sortI ns))
  | none=>match Zi5 ds with
   | some ts=>if ds.length<2||ts.all (λt=>!t.isEmpty)then some (Ze4 (Zex ts))else none
   | none=>none
 else none
@[simp] def ZtP:B->Option (List D)
 | .pl (.tuple ds)=>some ds
 | .pl (.list ds)=>some ds
 | .ol ds=>some ds
 | .ok kvs=>some (kvs.map λp=>ZaL p.1)
 | .ot kvs=>some (kvs.map λp=>.tuple (p.1.map ZaL))
 | .otl kvs=>some (kvs.map λp=>.tuple (p.1.map ZaL))
 | _=>none
@[simp] def Zc2(a:BF):BF:=λr=>match a r with
 | some x=>match ZtP x with
  | some ds=>(ZdC ds).map λds=>.ol ds
  | none=>none
 | none=>none
def dedup:List Int->List Int->List Int
 | acc,[]=>acc
 | acc,i::r=>if acc.contains i then dedup acc r else dedup (acc++[i]) r
def Zs5(ns:List Int):Bool:=ns.all λn=>decide (0<=n)&&decide (n<8)
@[simp] def Zhs(a:BF):BF:=λr=>match a r with
 | some x=>match ZkV x with
  | some ds=>match ZaO ds with
   | some ns=>if Zs5 ns then some (.ol (ofInts (sortI (dedup [] ns))))else none
   | none=>none
  | none=>none
 | none=>none
@[simp] def Zj(m:List D->Option D)(a:AF):EF:=λr=>match a r with
 | some ds=>m ds
 | none=>none
@[simp] def Zah(a:BF):IF:=λr=>match a r with
 | some x=>Zcm x
 | none=>none
def ZcR(lo:Int)(n:Nat):List D:=(ZxZ n).map λ(k:Nat)=>ZyI (lo+(k:Int))
def okR(j:Int):Bool:=Nat.blt j.natAbs 1000000
@[simp] def Zb6(a:EF):IF:=λr=>match a r with
 | some (.int j)=>if okR j then some (ZcR 0 j.toNat)else none
 | _=>none
@[simp] def ZjT(i:IF):EF:=λr=>match i r with
 | some ds=>if ds.length<big then some (.tuple ds)else none
 | none=>none
def ZaK(c:TF)(e:EF)(r:Env):List D->Option (List D)
 | []=>some []
 | x::xs=>match c (some (.pl x)::r)with
  | some true=>match e (some (.pl x)::r)with
   | some y=>(ZaK c e r xs).map (y::·)
   | none=>none
  | some false=>ZaK c e r xs
  | none=>none
@[simp] def Zam:TF:=λ_=>some true
@[simp] def ZR(i:IF)(c:TF)(e:EF):BF:=λr=>match i r with
 | some xs=>if xs.length<big then(ZaK c e r xs).map λys=>.ol ys else none
 | none=>none
@[simp] def Zo(a b:SF):SF:=λr=>match a r with
 | some (.nx r')=>b r'
 | some (.rt d)=>some (.rt d)
 | some (.bk r')=>some (.bk r')
 | some (.ct r')=>some (.ct r')
 | none=>none
@[simp] def ZaJ:SF:=λr=>some (.nx r)
@[simp] def Zg8:SF:=λ_=>none
@[simp] def ZC(a:EF):SF:=λr=>(a r).map Out.rt
@[simp] def Zai(i:Nat)(a:EF):SF:=λr=>(a r).map λd=>.nx (r.set i (some (.pl d)))
@[simp] def Z8(i:Nat)(a:BF):SF:=λr=>(a r).map λb=>.nx (r.set i (some b))
@[simp] def ZkD(i:Nat)(r:Env):Env:=match r[i]? with
 | some (some (.ol ds))=>r.set i (some (.pl (.list ds)))
 | some (some (.ot kvs))=>r.set i (some (.pl (.dict (Zi kvs))))
 | _=>r
@[simp] def ZgO(i:Nat):SF->SF:=λa r=>a (ZkD i r)
@[simp] def Zcj(a:EF):SF:=λr=>(a r).map λ_=>.nx r
@[simp] def sIf(c:TF)(a b:SF):SF:=λr=>match c r with
 | some true=>a r
 | some false=>b r
 | none=>none
def ZaG(i:Nat)(body:SF):List D->Env->Option Out
 | [],r=>some (.nx r)
 | x::xs,r=>match body (r.set i (some (.pl x)))with
  | some (.nx r')=>ZaG i body xs r'
  | some (.ct r')=>ZaG i body xs r'
  | some (.bk r')=>some (.nx r')
  | some (.rt d)=>some (.rt d)
  | none=>none
@[simp] def ZbF(i:Nat)(it:IF)(body:SF):SF:=λr=>match it r with
 | some xs=>if xs.length<big then ZaG i body xs r else none
 | none=>none
def ZbI(c:TF)(body:SF):Nat->Env->Option Out
 | 0,_=>none
 | n+1,r=>match c r with
  | some true=>match body r with
   | some (.nx r')=>ZbI c body n r'
   | some (.ct r')=>ZbI c body n r'
   | some (.bk r')=>some (.nx r')
   | some (.rt d)=>some (.rt d)
   | none=>none
  | some false=>some (.nx r)
  | none=>none
@[simp] def ZdW(i:Nat)(a:EF):SF:=λr=>match r[i]? with
 | some (some (.ol ds))=>match a r with
  | some d=>if ds.length<big then some (.nx (r.set i (some (.ol (ds++[d])))))else none
  | none=>none
 | _=>none
@[simp] def Zqt(i:Nat)(k v:EF):SF:=λr=>match v r with
 | some d=>match r[i]? with
  | some (some (.ol ds))=>match k r with
   | some (.int n)=>match ixN ds.length n with
    | some j=>some (.nx (r.set i (some (.ol (ds.set j d)))))
    | none=>none
   | _=>none
  | _=>none
 | none=>none
def putD{k v:Type}[DecidableEq k](kvs:List (k × v))(x:k)(y:v):List (k × v) :=
 if(kvs.any λp=>decide (p.1=x))=true then kvs.map (λp=>if p.1=x then(p.1,y)else p)else kvs++[(x,y)]
def Zn{k v:Type}[DecidableEq k](kvs:List (k × v))(x:k):Option v:=(kvs.find? λp=>decide (p.1=x)).map (·.2)
@[simp] def ZiG:D->Option Ky
 | .int i=>some (.inl i)
 | .str x=>some (.inr x)
 | _=>none
def Zgp:List D->Option (List Ky)
 | []=>some []
 | d::r=>match ZiG d with
  | some k=>(Zgp r).map (k::·)
  | none=>none
def tkL:D->Option (List Ky)
 | .tuple ds=>Zgp ds
 | _=>none
def Zk5:List D->Option (List Ky)
 | []=>some []
 | .int i::r=>(Zk5 r).map (ZzC i::·)
 | _::_=>none
def Zbx:D->Option (List Ky)
 | .tuple ds=>Zk5 ds
 | _=>none
@[simp] def ZhT(i:Nat)(k v:EF):SF:=λr=>match v r with
 | some d=>match k r with
  | some x=>match r[i]? with
   | some (some (.ok kvs))=>match ZiG x with
    | some y=>if kvs.length<big then some (.nx (r.set i (some (.ok (putD kvs y d)))))else none
    | none=>none
   | some (some (.ot kvs))=>match Zbx x with
    | some y=>if kvs.length<big then some (.nx (r.set i (some (.ot (putD kvs y d)))))else none
    | none=>none
   | _=>none
  | none=>none
 | none=>none
@[simp] def fDk:BF:=λ_=>some (.ok [])
@[simp] def fDt:BF:=λ_=>some (.ot [])
@[simp] def ZvB:BF:=λ_=>some (.otl [])
@[simp] def Zoo(k v:EF):BF:=λr=>match k r with
 | some x=>match v r with
  | some d=>match ZiG x with
   | some y=>some (.ok [(y,d)])
   | none=>none
  | none=>none
 | none=>none
def ZcE{k v:Type}[DecidableEq k](kvs:List (k × List v))(x:k):List (k × List v):=match Zn kvs x with
 | some _=>kvs
 | none=>kvs++[(x,[])]
def Zdt{k v:Type}[DecidableEq k]:List (k × List v)->k->v->List (k × List v)
 | [],_,_=>[]
 | (x,ds)::r,y,d=>if x=y then(x,ds++[d])::r else(x,ds)::Zdt r y d
@[simp] def ZnT(i:Nat)(k v:EF):SF:=λr=>match k r with
 | some x=>match r[i]? with
  | some (some (.otl kvs))=>match Zbx x with
   | some y=>if kvs.length<big then
     match v (r.set i (some (.otl (ZcE kvs y))))with
     | some d=>match Zn (ZcE kvs y) y with
      | some ds=>if ds.length<big then some (.nx (r.set i (some (.otl (Zdt (ZcE kvs y) y d)))))else none
      | none=>none
     | none=>none
    else none
   | none=>none
  | _=>none
 | none=>none
@[simp] def ZeN(i:Nat)(k:EF):BF:=λr=>match k r with
 | some x=>match r[i]? with
  | some (some (.ok kvs))=>match ZiG x with
   | some y=>(Zn kvs y).map B.pl
   | none=>none
  | some (some (.ot kvs))=>match Zbx x with
   | some y=>(Zn kvs y).map B.pl
   | none=>none
  | some (some (.otl kvs))=>match Zbx x with
   | some y=>(Zn kvs y).map B.ol
   | none=>none
  | _=>none
 | none=>none
abbrev fnD(t:Nat)(cs:List D):D:=.dict [(.none,.int (Int.ofNat t)),(.none,.list cs)]
@[simp] def ZeD(n:Nat)(ds:List D):Env:=ds.map (λd=>some (B.pl d))++Zyp (n-ds.length) none
@[simp] def fnOf(k n:Nat)(m:SF):List D->Option D:=λds =>
 if ds.length=k then match m (ZeD n ds)with
  | some (.nx _)=>some .none
  | some (.rt d)=>some d
  | _=>none
 else none
end HM
namespace HM
open PySem
def ZeO(c:TF)(e:EF)(r:Env):List D->Option (List D)
 | []=>some []
 | .tuple [x,y]::xs=>match c (some (.pl x)::some (.pl y)::r)with
  | some true=>match e (some (.pl x)::some (.pl y)::r)with
   | some z=>(ZeO c e r xs).map (z::·)
   | none=>none
  | some false=>ZeO c e r xs
  | none=>none
 | _=>none
@[simp] def Zdc(i:IF)(c:TF)(e:EF):BF:=λr=>match i r with
 | some xs=>if xs.length<big then(ZeO c e r xs).map λys=>.ol ys else none
 | none=>none
def ZnG(ds:List D)(i:Int):Option Bool:=(ZaO ds).map λns=>ns.contains i
@[simp] def Zm9(k:EF)(a:BF):EF:=λr=>match k r with
 | some (.int i)=>match a r with
  | some b=>match Zcm b with
   | some ds=>(ZnG ds i).map λc=>.bool c
   | none=>none
  | none=>none
 | _=>none
@[simp] def Zhd(k:EF)(a:BF):EF:=λr=>match k r with
 | some (.int i)=>match a r with
  | some b=>match Zcm b with
   | some ds=>(ZnG ds i).map λc=>.bool (!c)
   | none=>none
  | none=>none
 | _=>none
end HM
namespace HM
open PySem
@[simp] def Zn3(n:Nat)(c:TF)(body:SF):SF:=λr=>ZbI c body n r
def ZeB(i j:Nat)(body:SF):List D->Env->Option Out
 | [],r=>some (.nx r)
 | .tuple [x,y]::xs,r=>match body ((r.set i (some (.pl x))).set j (some (.pl y)))with
  | some (.nx r')=>ZeB i j body xs r'
  | some (.ct r')=>ZeB i j body xs r'
  | some (.bk r')=>some (.nx r')
  | some (.rt d)=>some (.rt d)
  | none=>none
 | _,_=>none
@[simp] def Zi0(i j:Nat)(it:IF)(body:SF):SF:=λr=>match it r with
 | some xs=>if xs.length<big then ZeB i j body xs r else none
 | none=>none
end HM
namespace HM
open PySem
def ZnW(ds:List D)(x:D):Option Bool:=if Zan x&&ds.all Zan then some (ds.any λd=>ZyW d x)else none
@[simp] def Zoi(k:EF)(a:BF):EF:=λr=>match k r with
 | some x=>match a r with
  | some b=>match Zcm b with
   | some ds=>(ZnW ds x).map λc=>.bool c
   | none=>none
  | none=>none
 | none=>none
end HM
namespace HM
open PySem
def ZeI:List (D × D)->Option (List (List Ky × D))
 | []=>some []
 | (k,v)::r=>match tkL k with
  | some ks=>(ZeI r).map ((ks,v)::·)
  | none=>none
@[simp] def Zk0:B->Option (List (List Ky × D))
 | .ot kvs=>some kvs
 | .pl (.dict es)=>ZeI es
 | .hd es=>ZeI es
 | _=>none
@[simp] def Zm8(k:EF)(a:BF):EF:=λr=>match k r with
 | some x=>match a r with
  | some b=>match Zk0 b with
   | some kvs=>(Zbx x).map λy=>.bool (Zn kvs y).isSome
   | none=>none
  | none=>none
 | none=>none
@[simp] def Zcb(k:EF)(a:BF):EF:=λr=>match k r with
 | some x=>match a r with
  | some b=>match Zk0 b with
   | some kvs=>(Zbx x).map λy=>.bool (!(Zn kvs y).isSome)
   | none=>none
  | none=>none
 | none=>none
@[simp] def Zav(a:BF)(k:EF):EF:=λr=>match a r with
 | some b=>match Zk0 b with
  | some kvs=>match k r with
   | some x=>match Zbx x with
    | some y=>Zn kvs y
    | none=>none
   | none=>none
  | none=>none
 | none=>none
@[simp] def ZkB:D->Bool
 | .none=>true
 | .bool _=>true
 | .int _=>true
 | .str _=>true
 | _=>false
@[simp] def Zqb(f:BF):EF:=λr=>(f r).bind frz
theorem Zui(ks:List Ky):tkL (.tuple (ks.map ZaL))=some ks:=by
 show Zgp (ks.map ZaL)=some ks
 induction ks with
 | nil=>rfl
 | cons k ks ih=>show(match ZiG (ZaL k)with | some q=>(Zgp (ks.map ZaL)).map (q::·) | none=>none)=_;rw[ih];cases k<;>rfl
theorem dec_enc(kvs:List (List Ky × D)):ZeI (Zi kvs)=some kvs:=by
 induction kvs with
 | nil=>rfl
 | cons p kvs ih=>obtain⟨k,d⟩:=p;show(match tkL (.tuple (k.map ZaL))with | some ks=>(ZeI (Zi kvs)).map ((ks,d)::·) | none=>none)=_;rw[Zui,ih];rfl
end HM
namespace HM
open PySem
@[simp] def ZkJ(a:BF):EF:=λr=>match a r with
 | some x=>match ZkV x with
  | some ds=>match ZaO ds with
   | some ns=>ns.max?.map λi=>ZyI i
   | none=>none
  | none=>none
 | none=>none
end HM
namespace HM
open PySem
end HM
namespace HM
open PySem
@[simp] def Zi9(i:Nat)(f:BF):SF:=λr=>match r[i]? with
 | some (some (.ol ds))=>match f r with
  | some (.ol es)=>if ds.length+es.length<big then some (.nx (r.set i (some (.ol (ds++es)))))else none
  | _=>none
 | _=>none
@[simp] def Zth(i j:Nat):SF:=λr=>match r[j]? with
 | some (some (.ol ds))=>match ds[ds.length-1]? with
  | some d=>some (.nx ((r.set j (some (.ol ds.dropLast))).set i (some (.pl d))))
  | none=>none
 | _=>none
@[simp] def ZiQ(m:List D->Option D)(a:AF):BF:=λr=>match a r with
 | some ds=>match m ds with
  | some (.list ys)=>some (.ol ys)
  | _=>none
 | none=>none
def Zbr:Option B->Bool
 | some (.hd _)=>true
 | _=>false
@[simp] def ZeA(i:Nat)(g:SF):SF:=λr=>match r[i]? with
 | some (some (.pl (.dict es)))=>if r.all (λq=>!Zbr q)then match g (r.set i (some (.hd es)))with
   | some (.nx r')=>match r'[i]? with
    | some (some (.hd es'))=>if(r'.set i none).all (λq=>!Zbr q)then some (.nx (r'.set i (some (.pl (.dict es')))))else none
    | _=>none
   | some (.rt d)=>some (.rt d)
   | _=>none
  else none
 | _=>g r
@[simp] def Za4(i:Nat):IF:=λr=>match r[i]? with
 | some (some (.pl (.tuple ds)))=>some ds
 | some (some (.pl (.list ds)))=>some ds
 | some (some (.hd es))=>(ZeI es).map λkvs=>kvs.map λp=>.tuple (p.1.map ZaL)
 | _=>none
end HM
namespace HM
open PySem
end HM
namespace HM
open PySem
end HM
namespace HM
open PySem
abbrev AP:=Nat->List D->List D->Option D
def Zk8:D->Option (Nat × List D)
 | .dict [(.none,.int (Int.ofNat t)),(.none,.list cs)]=>some (t,cs)
 | _=>none
@[simp] def ZfV(ap:AP)(i:Nat)(a:AF):EF:=λr=>match r[i]? with
 | some (some (.pl d))=>match Zk8 d with
  | some (t,cs)=>match a r with
   | some ds=>ap t cs ds
   | none=>none
  | none=>none
 | _=>none
def noF:Nat->D->Bool
 | _,.none=>true
 | _,.bool _=>true
 | _,.int _=>true
 | _,.str _=>true
 | n+1,.tuple ds=>ds.all (noF n)
 | n+1,.list ds=>ds.all (noF n)
 | n+1,.dict es=>es.all λp=>(match p.1 with | .none=>false | _=>true)&&noF n p.2
 | _,_=>false
def Zko:List Nat->Env->Option (List D)
 | [],_=>some []
 | i::is,r=>match r[i]? with
  | some (some (.pl d))=>(Zko is r).map (d::·)
  | _=>none
@[simp] def ZhC(m:List D->Option D)(t:Nat)(is:List Nat)(a:EF):EF:=λr=>match a r with
 | some d1=>match Zko is r with
  | some cs=>if cs.all (noF 20)then match m [d1,fnD t cs]with
    | some d=>if noF 20 d then some d else none
    | none=>none
   else none
  | none=>none
 | none=>none
def ZkG(n m:Nat)(e:EF):List D->List D->Option D:=λcs ds=>if ds.length=n/\cs.length=m/\ds.all (noF 20)=true then e ((ds++cs).map λd=>some (B.pl d))else none
@[simp] def Zfq(a:BF):EF:=λr=>match a r with
 | some x=>match ZkV x with
  | some ds=>match ZaO ds with
   | some ns=>some (match ns.min? with | some i=>.int i | none=>.none)
   | none=>none
  | none=>none
 | none=>none
abbrev NF:=Env->Option (List (List Ky × D))
@[simp] def ZjY(a:SF)(m:NF):NF:=λr=>match a r with
 | some (.nx r')=>m r'
 | _=>none
@[simp] def Znx(j:Nat):NF:=λr=>match r[j]? with
 | some (some (.ot kvs))=>some kvs
 | _=>none
def newOf(k n:Nat)(m:NF):List D->Option (List (List Ky × D)):=λds=>if ds.length=k then m (ZeD n ds)else none
@[simp] def ZiF(m:List D->Option (List (List Ky × D)))(a:AF):BF:=λr=>match a r with
 | some ds=>match m ds with
  | some kvs=>if kvs.all (λp=>ZkB p.2)then some (.ot kvs)else none
  | none=>none
 | none=>none
end HM
namespace HP
open PySem PySem.Spec PyProof.Rows L2
@[reducible] def Zc5(H':Hp)(b:Addr):HO->Prop
 | .tbl _=>∃ps',H' b=some (.tbl ps')
 | o=>H' b=some o
def ZaF(H H':Hp):Prop:=∀b o,H b=some o->Zc5 H' b o
theorem Zc5.of{H':Hp}{b:Addr}{o:HO}(h:H' b=some o):Zc5 H' b o:=by cases o<;>first | exact h | exact⟨_,h⟩
theorem Zc5.ex{H':Hp}{b:Addr}{o:HO}(h:Zc5 H' b o):∃u,H' b=some u:=by cases o<;>first | exact⟨_,h⟩ | (obtain⟨ps,e⟩:=h; exact⟨_,e⟩)
theorem Zc5.no{H':Hp}{b:Addr}{o:HO}(h:Zc5 H' b o)(n:∀ps,o≠.tbl ps):H' b=some o:=by cases o<;>first | exact h | exact absurd rfl (n _)
theorem ZaF.of{H H':Hp}(s:Zp H H'):ZaF H H':=λb o h=>.of (s b o h)
theorem ZaF.refl(H:Hp):ZaF H H:=.of (.refl H)
theorem ZaF.trans{H H1 H2:Hp}(a:ZaF H H1)(b:ZaF H1 H2):ZaF H H2:=λc o h=>by have h1:=a c o h;cases o<;>first | exact b c _ h1 | (obtain⟨ps,e⟩:=h1; exact(show ∃ps',H2 c=some (.tbl ps') from b c _ e))
theorem ZaF.free{H H':Hp}(e:ZaF H H'){l:Addr}(h:H' l=none):H l=none:=by
 cases q:H l with
 | none=>rfl
 | some o=>obtain⟨u,z⟩:=(e l o q).ex;rw[h]at z; cases z
theorem ZaF.back{H H':Hp}(e:ZaF H H'){l:Addr}{o u:HO}(h:H l=some o)(h':H' l=some u)(n:∀ps,u≠.tbl ps):o=u:=by have z:=e l o h;cases o<;>first | (obtain⟨ps,q⟩:=z; rw[h']at q; cases q; exact absurd rfl (n _)) | (have z:H' l=some _:=z; rw[h']at z; cases z; rfl)
def ZcL(H:Hp):Hp:=λb=>match H b with
 | some (.tbl _)=>none
 | x=>x
def nt:HO->Bool
 | .tbl _=>false
 | _=>true
def NoT(F:Hp):Prop:=∀b o,F b=some o->nt o=true
theorem Zcl{H:Hp}{b:Addr}{o:HO}(h:H b=some o)(n:nt o=true):ZcL H b=some o:=by unfold ZcL; rw[h];cases o<;>first | rfl | cases n
theorem Zgk{H:Hp}{b:Addr}{o:HO}(h:ZcL H b=some o):H b=some o/\nt o=true:=by
 unfold ZcL at h;split at h
 ·cases h
 ·rename_i n
  refine⟨h,?_⟩;cases o<;>first | rfl | exact absurd h (n _)
theorem ZlJ{H:Hp}:Zp (ZcL H) H:=λb o h=>(Zgk h).1
theorem NoT.drop{H:Hp}:NoT (ZcL H):=λb o h=>(Zgk h).2
theorem NoT.sub{F H:Hp}(n:NoT F)(s:Zp F H):Zp F (ZcL H):=λb o h=>Zcl (s b o h) (n b o h)
theorem NoT.upd{F:Hp}{p:Addr}{o:HO}(n:NoT F)(h:nt o=true):NoT (upd F p o):=λb u z=>by
 by_cases hb:b=p
 ·subst hb; rw[ZF]at z; cases z; exact h
 ·rw[ZA hb]at z; exact n b u z
theorem ZaF.ntb{H H':Hp}(s:ZaF H H'){b:Addr}{o:HO}(h:H b=some o)(n:nt o=true):H' b=some o:=(s b o h).no λps z=>by subst z; cases n
def Dk(vvs:List (List Key × V))(u:HO):Prop:=u=.dT vvs\/∃o,u=.frz o (.dT vvs)
def sw(a:Addr)(ob:HO)(G:Hp):Hp:=λb=>if b=a then(G a).map (λ_=>ob)else G b
class FX where
 tl:List (Addr × Str)
 fv:Nat->List PyData->Hp->Addr->Prop
 sw:∀{t:Nat} {cs:List PyData} {F:Hp} {a b:Addr} {ob:HO} {vvs:List (List Key × V)},(∀u,F a=some u->Dk vvs u)->Dk vvs ob->fv t cs F b->fv t cs (sw a ob F) b
 drop:∀{t:Nat} {cs:List PyData} {F:Hp} {a:Addr},fv t cs F a->fv t cs (ZcL F) a
 mono:∀{t:Nat} {cs:List PyData} {F F':Hp} {a:Addr},fv t cs F a->Zp F F'->fv t cs F' a
variable[FX]
def Zbm(a:Addr)(o:Obj):HO:=.ext λh=>h.get? a=some o
def ZkZ(o:Obj)(q:Str):Prop:=∃vs t,o.data=.fields vs/\vs[1]?=some (.str q t)
def Tb(H:Hp):Prop:=∀P q,(P,q)∈FX.tl->∃ps,H P=some (.tbl ps)/\TriplesOk ps.toList/\∀pos c,ZBv pos ps.toList=some c->∃a o,c=.ref a/\H a=some (Zbm a o)/\ZkZ o q
def Zlf:HO->Bool
 | .lst _=>true
 | .dK _=>true
 | .dT _=>true
 | _=>false
def te:HO->Bool
 | .tbl _=>true
 | .ext _=>true
 | _=>false
theorem ZrN{o:HO}(h:Zlf o=true)(h':te o=true):False:=by cases o<;>simp_all [Zlf,te]
theorem Tb.keep{H H':Hp}(t:Tb H)(k:∀a o,H a=some o->te o=true->H' a=some o):Tb H':=λP q hP=>by obtain⟨ps,h1,h2,h3⟩:=t P q hP;refine⟨ps,k _ _ h1 rfl,h2,λpos c hc=>?_⟩;obtain⟨a,o,e1,e2,e3⟩:=h3 pos c hc;exact⟨a,o,e1,k _ _ e2 rfl,e3⟩
theorem Dk.te{vvs:List (List Key × V)}{u:HO}(h:Dk vvs u):te u=false:=by rcases h with h | ⟨o,h⟩<;>subst h<;>rfl
theorem Dk.ntt{vvs:List (List Key × V)}{u:HO}(h:Dk vvs u):nt u=true:=by rcases h with h | ⟨o,h⟩<;>subst h<;>rfl
theorem Tb.sw{G:Hp}{a:Addr}{ob:HO}{vvs:List (List Key × V)}(hG:∀u,G a=some u->Dk vvs u)(t:Tb G):Tb (HP.sw a ob G):=t.keep λb o z ht=>by
 have hb:b≠a:=λe=>by subst e; rw[(hG o z).te]at ht; cases ht
 unfold HP.sw; rw[if_neg hb]; exact z
theorem Tb.unsw{G:Hp}{a:Addr}{ob:HO}{vvs:List (List Key × V)}(hob:Dk vvs ob)(t:Tb (HP.sw a ob G)):Tb G:=t.keep λb o z ht=>by
 unfold HP.sw at z;split at z
 ·obtain⟨u,_,e⟩:=ZxT.mp z
  subst e; rw[hob.te]at ht; cases ht
 ·exact z
theorem Zc5.cong{H H':Hp}{b:Addr}{o:HO}(e:H' b=H b)(h:Zc5 H b o):Zc5 H' b o:=by unfold Zc5 at h ⊢; rw[e]; exact h
theorem ZaF.sw{H0 H:Hp}{a:Addr}{ob:HO}(s:ZaF H0 H):ZaF (HP.sw a ob H0) (HP.sw a ob H):=λb o z=>by
 by_cases hb:b=a
 ·subst hb
  unfold HP.sw at z;rw[if_pos rfl]at z;obtain⟨u,h1,h2⟩:=ZxT.mp z;obtain⟨w,hw⟩:=(s _ _ h1).ex;refine .of ?_;unfold HP.sw;rw[if_pos rfl,hw,h2.symm]; rfl
 ·unfold HP.sw at z
  rw[if_neg hb]at z;refine(s b o z).cong ?_;unfold HP.sw; rw[if_neg hb]
theorem Tb.same{H H':Hp}(t:Tb H)(s:Zp H H'):Tb H':=t.keep λa o h _=>s a o h
theorem Zi6{F F':Hp}{a:Addr}{u:HO}(r:Rd F a u)(s:Zp F F'):Rd F' a u:=r.imp (λh=>s _ _ h) λ⟨o,h⟩=>⟨o,s _ _ h⟩
def Zxj(K:ZxR)(a:Addr)(vs:List V):Prop:=∃(o:Obj) (its:Array Value) (n:Nat),K.lookup a=some o/\o.cls=.type "tuple"/\o.data=.seq its n/\its.size<=sizeLine/\Vals vs its.toList
theorem ZsU{K:ZxR}{F F':Hp}{a:Addr}{vs:List V}(h:SqT K F a vs)(s:Zp F F'):SqT K F' a vs:=h.imp (λh=>Zi6 h s) id
inductive Rep(K:ZxR)(F:Hp):PyData->V->Prop where
 | non:Rep K F .none .non
 | bl (b:Bool):Rep K F (.bool b) (.bl b)
 | int (i:Int):Rep K F (.int i) (.int i)
 | str (x:Str):Rep K F (.str x) (.str x)
 | tupk {a:Addr} {x:Str} (h:Zxj K a [.str x]):Rep K F (.tuple [.str x]) (.ref a)
 | tup {a:Addr} {ds:List PyData} {vs:List V} (h:F a=some (.tup vs)) (hl:ds.length=vs.length) (hr:∀(i:Nat) (d:PyData) (v:V),ds[i]?=some d->vs[i]?=some v->Rep K F d v):Rep K F (.tuple ds) (.ref a)
 | lst {a:Addr} {ds:List PyData} {vs:List V} (h:SqL K F a vs) (hl:ds.length=vs.length) (hr:∀(i:Nat) (d:PyData) (v:V),ds[i]?=some d->vs[i]?=some v->Rep K F d v):Rep K F (.list ds) (.ref a)
 | dct {a:Addr} {es:List (PyData × PyData)} {kvs:List (List Key × PyData)} {vvs:List (List Key × V)} (h:Rd F a (.dT vvs)) (he:es=HM.Zi kvs) (hk:kvs.map (·.1)=vvs.map (·.1)) (hr:∀(i:Nat) (d:PyData) (v:V),(kvs.map (·.2))[i]?=some d->(vvs.map (·.2))[i]?=some v->Rep K F d v):Rep K F (.dict es) (.ref a)
 | fn {a:Addr} {t:Nat} {cs:List PyData} (h:FX.fv t cs F a):Rep K F (.dict [(.none,.int (Int.ofNat t)),(.none,.list cs)]) (.ref a)
def Zu(K:ZxR)(F:Hp)(ds:List PyData)(vs:List V):Prop:=ds.length=vs.length/\∀(i:Nat) (d:PyData) (v:V),ds[i]?=some d->vs[i]?=some v->Rep K F d v
section
variable{K:ZxR}{F F':Hp}{d:PyData}{v:V}{ds es:List PyData}{vs us:List V}
theorem Rep.mono(r:Rep K F d v)(s:Zp F F'):Rep K F' d v:=by
 induction r with
 | non=>exact .non
 | bl b=>exact .bl b
 | int i=>exact .int i
 | str x=>exact .str x
 | tup h hl _ ih=>exact .tup (s _ _ h) hl ih
 | tupk h=>exact .tupk h
 | lst h hl _ ih=>exact .lst (s.seq h) hl ih
 | dct h he hk _ ih=>exact .dct (Zi6 h s) he hk ih
 | fn h=>exact .fn (FX.mono h s)
theorem Rep.drop(r:Rep K F d v):Rep K (ZcL F) d v:=by
 induction r with
 | non=>exact .non
 | bl b=>exact .bl b
 | int i=>exact .int i
 | str x=>exact .str x
 | tup h hl _ ih=>exact .tup (Zcl h rfl) hl ih
 | tupk h=>exact .tupk h
 | lst h hl _ ih =>
  refine .lst ?_ hl ih;rcases h with(h | ⟨o,h⟩) | h
  ·exact .inl (.inl (Zcl h rfl))
  ·exact .inl (.inr ⟨o,Zcl h rfl⟩)
  ·exact .inr h
 | dct h he hk _ ih =>
  refine .dct ?_ he hk ih;rcases h with h | ⟨o,h⟩
  ·exact .inl (Zcl h rfl)
  ·exact .inr ⟨o,Zcl h rfl⟩
 | fn h=>exact .fn (FX.drop h)
theorem Zu.drop'(r:Zu K F ds vs):Zu K (ZcL F) ds vs:=⟨r.1,λi d v h1 h2=>(r.2 i d v h1 h2).drop⟩
theorem ZaF.dr{H H':Hp}(s:ZaF H H'):Zp (ZcL H) H':=λb o h=>s.ntb (Zgk h).1 (Zgk h).2
theorem Rep.monoT{H H':Hp}(r:Rep K H d v)(s:ZaF H H'):Rep K H' d v:=r.drop.mono s.dr
theorem Zu.mono(r:Zu K F ds vs)(s:Zp F F'):Zu K F' ds vs:=⟨r.1,λi d v h1 h2=>(r.2 i d v h1 h2).mono s⟩
theorem Zu.nil:Zu K F [] []:=⟨rfl,λi d v h=>by simp at h⟩
theorem Zu.cons(r:Rep K F d v)(q:Zu K F ds vs):Zu K F (d::ds) (v::vs) :=
 ⟨by rw[Zx8,Zx8,q.1],λi e u h1 h2=>by
  cases i with
  | zero=>rw[ZAg]at h1 h2;cases h1; cases h2; exact r
  | succ i=>rw[Zyw]at h1 h2;exact q.2 i e u h1 h2⟩
theorem Zu.nil_inv(r:Zu K F [] vs):vs=[]:=ZAo r.1.symm
theorem Zu.cons_inv(r:Zu K F (d::ds) vs):∃v us,vs=v::us/\Rep K F d v/\Zu K F ds us:=by
 cases vs with
 | nil=>exact absurd r.1 (by simp)
 | cons v us =>
  refine⟨v,us,rfl,r.2 0 d v rfl rfl,?_,λi e u h1 h2=>r.2 (i+1) e u ?_ ?_⟩
  ·have:=r.1
   rw[Zx8,Zx8]at this;omega
  ·rw[Zyw]; exact h1
  ·rw[Zyw]; exact h2
theorem Zu.append(r:Zu K F ds vs)(q:Zu K F es us):Zu K F (ds++es) (vs++us):=by
 refine⟨by rw[Zyc,Zyc,r.1,q.1],λi e u h1 h2=>?_⟩
 by_cases hi:i<ds.length
 ·rw[ZyE hi]at h1
  rw[ZyE (by rw[<-r.1]; exact hi)]at h2;exact r.2 i e u h1 h2
 ·rw[ZyA (by omega)]at h1
  rw[ZyA (by have:=r.1; omega),<-r.1]at h2;exact q.2 _ e u h1 h2
theorem Zu.get(r:Zu K F ds vs){i:Nat}(h:ds[i]?=some d):∃v,vs[i]?=some v/\Rep K F d v:=by
 have hi:i<vs.length:=by rw[<-r.1]; exact(Zx4.mp h).1
 exact⟨vs[i],Zx5 hi,r.2 i d _ h (Zx5 hi)⟩
theorem Zu.drop(r:Zu K F ds vs)(n:Nat):Zu K F (ds.drop n) (vs.drop n) :=
 ⟨by rw[ZAu,ZAu,r.1],λi e u h1 h2=>by rw[List.getElem?_drop]at h1 h2;exact r.2 _ e u h1 h2⟩
theorem Zu.take(r:Zu K F ds vs)(n:Nat):Zu K F (ds.take n) (vs.take n) :=
 ⟨by rw[Zzp,Zzp,r.1],λi e u h1 h2=>by
  by_cases hi:i<n
  ·rw[ZBR hi]at h1 h2
   exact r.2 _ e u h1 h2
  ·rw[List.getElem?_take_eq_none (by omega)]at h1
   cases h1⟩
theorem Zu.set(r:Zu K F ds vs)(q:Rep K F d v)(j:Nat):Zu K F (ds.set j d) (vs.set j v):=by
 refine⟨by rw[Zy1,Zy1,r.1],λi e u h1 h2=>?_⟩;have hi:i<ds.length:=by have:=(Zx4.mp h1).1; rwa [Zy1]at this
 by_cases e1:j=i
 ·subst e1
  rw[ZyF hi]at h1;rw[ZyF (by rw[<-r.1]; exact hi)]at h2;cases h1; cases h2; exact q
 ·rw[Zyo e1]at h1 h2
  exact r.2 i e u h1 h2
theorem Zu.rep(r:Zu K F ds vs)(k:Nat):Zu K F (Zyp k ds).flatten (Zyp k vs).flatten:=by
 induction k with
 | zero=>exact Zu.nil
 | succ k ih=>rw[Zzw,Zzw,Zz1,Zz1]; exact r.append ih
theorem Zu.one(r:Rep K F d v):Zu K F [d] [v]:=.cons r .nil
end
def Fre(H:Hp)(a:Addr)(o:HO):Prop:=H a=none\/∃xs,o=.tup xs/\H a=some (.tup xs)
theorem Fre.back{H H':Hp}{a:Addr}{o:HO}(s:ZaF H H')(f:Fre H' a o):Fre H a o:=by
 rcases f with f | ⟨xs,e,f⟩
 ·exact .inl (s.free f)
 ·cases q:H a with
  | none=>exact .inl q
  | some u =>
   have:=s.back q f λ_ z=>by cases z
   subst this;exact .inr ⟨xs,e,q⟩
theorem Fre.no{H:Hp}{a:Addr}{o u:HO}(f:Fre H a o)(h:H a=some u)(n:∀xs,u≠.tup xs):False:=by
 rcases f with f | ⟨xs,_,f⟩
 ·rw[h]at f; cases f
 ·rw[h]at f; cases f; exact n xs rfl
structure Ext(F H F' H':Hp):Prop where
 ff:Zp F F'
 hh:ZaF H H'
 sub:Zp F' H'
 new:∀a o,F' a=some o->F a=some o\/Fre H a o
 tab:Tb H->Tb H'
 nts:NoT F->NoT F'
theorem Ext.refl{F H:Hp}(s:Zp F H):Ext F H F H:=⟨Zp.refl F,ZaF.refl H,s,λ_ _ h=>.inl h,id,id⟩
theorem Ext.trans{F H F1 H1 F2 H2:Hp}(a:Ext F H F1 H1)(b:Ext F1 H1 F2 H2):Ext F H F2 H2 :=
 ⟨a.ff.trans b.ff,a.hh.trans b.hh,b.sub,λx o h=>by
  rcases b.new x o h with q | q
  ·exact a.new x o q
  ·exact .inr (q.back a.hh),λt=>b.tab (a.tab t),λt=>b.nts (a.nts t)⟩
theorem ZjS{F:Hp}{p:Addr}{o:HO}(h:F p=none):Zp F (upd F p o):=λb q z=>by rw[ZA (Zaw z h)]; exact z
theorem Ext.lay{F H F' H':Hp}(e:Ext F H F' H'){p:Addr}{o:HO}(h:H' p=none)(no:nt o=true:=by rfl):Ext F H (upd F' p o) (upd H' p o):=by
 have hF:F' p=none:=e.sub.free h;refine⟨λb q z=>?_,e.hh.trans (.of (ZjS h)),λb q z=>?_,λb q z=>?_,λt=>(e.tab t).same (ZjS h),λt=>(e.nts t).upd no⟩
 ·rw[ZA (Zaw (e.ff b q z) hF)]; exact e.ff b q z
 ·by_cases hb:b=p
  ·subst hb; rw[ZF]at z ⊢; exact z
  ·rw[ZA hb]at z ⊢; exact e.sub b q z
 ·by_cases hb:b=p
  ·subst hb; exact .inr (.inl (e.hh.free h))
  ·rw[ZA hb]at z; exact e.new b q z
theorem Ext.lay'{F H F' H':Hp}(e:Ext F H F' H'){p:Addr}{o:HO}(h:H' p=none):Ext F H F' (upd H' p o):=by refine⟨e.ff,e.hh.trans (.of (ZjS h)),λb q z=>?_,e.new,λt=>(e.tab t).same (ZjS h),e.nts⟩;rw[ZA (Zaw (e.sub b q z) h)]; exact e.sub b q z
theorem Zp.upd'{F:Hp}{p:Addr}{o:HO}(h:F p=none):Zp F (upd F p o):=λb q z=>by rw[ZA (Zaw z h)]; exact z
def ZcD(F H:Hp):Hp:=λa=>match H a with
 | some (.tup xs)=>some (.tup xs)
 | _=>F a
theorem Zni{F H:Hp}{a:Addr}{xs:List V}(h:H a=some (.tup xs)):ZcD F H a=some (.tup xs):=by unfold ZcD; rw[h]
theorem Zc1{F H:Hp}(s:Zp F H):Zp F (ZcD F H):=λa o h=>by
 have:=s a o h;unfold ZcD;split
 ·rename_i xs q
  rw[q]at this;exact this
 ·exact h
theorem Ext.tups{F H F' H':Hp}(e:Ext F H F' H'):Ext F H (ZcD F' H') H':=by
 have key:Ext F' H' (ZcD F' H') H':=by
  refine⟨Zc1 e.sub,ZaF.refl H',λa o h=>?_,λa o h=>?_,id,λn a o h=>?_⟩
  ·unfold ZcD at h
   split at h
   ·rename_i xs q; rw[q]; exact h
   ·exact e.sub a o h
  ·unfold ZcD at h
   split at h
   ·rename_i xs q
    cases h;exact .inr (.inr ⟨xs,rfl,q⟩)
   ·exact .inl h
  ·unfold ZcD at h
   split at h
   ·cases h; rfl
   ·exact n a o h
 exact e.trans key
inductive Zak(K:ZxR)(F H:Hp):HM.B->V->List Addr->Prop where
 | pl {d:PyData} {v:V} (r:Rep K F d v):Zak K F H (.pl d) v []
 | ol {a:Addr} {ds:List PyData} {vs:List V} (h:H a=some (.lst vs)) (r:Zu K F ds vs):Zak K F H (.ol ds) (.ref a) [a]
 | ok {a:Addr} {kvs:List (Key × PyData)} {vvs:List (Key × V)} (h:H a=some (.dK vvs)) (hk:kvs.map (·.1)=vvs.map (·.1)) (r:Zu K F (kvs.map (·.2)) (vvs.map (·.2))):Zak K F H (.ok kvs) (.ref a) [a]
 | ot {a:Addr} {kvs:List (List Key × PyData)} {vvs:List (List Key × V)} (h:H a=some (.dT vvs)) (hk:kvs.map (·.1)=vvs.map (·.1)) (r:Zu K F (kvs.map (·.2)) (vvs.map (·.2))):Zak K F H (.ot kvs) (.ref a) [a]
 | otl {a:Addr} {kvs:List (List Key × List PyData)} {vvs:List (List Key × V)} {ls:List Addr} (h:H a=some (.dT vvs)) (hk:kvs.map (·.1)=vvs.map (·.1)) (hv:vvs.map (·.2)=ls.map V.ref)
   (r:∀(i:Nat) (ds:List PyData) (l:Addr),(kvs.map (·.2))[i]?=some ds->ls[i]?=some l->∃vs,H l=some (.lst vs)/\Zu K F ds vs):Zak K F H (.otl kvs) (.ref a) (a::ls)
 | hd {a:Addr} {o:Obj} {es:List (PyData × PyData)} {kvs:List (List Key × PyData)} {vvs:List (List Key × V)} (h:F a=some (.frz o (.dT vvs))) (he:es=HM.Zi kvs) (hk:kvs.map (·.1)=vvs.map (·.1)) (r:Zu K F (kvs.map (·.2)) (vvs.map (·.2))):Zak K F H (.hd es) (.ref a) []
 | hf {a:Addr} {t:Nat} {cs:List PyData} (h:FX.fv t cs F a):Zak K F H (.hd [(.none,.int (Int.ofNat t)),(.none,.list cs)]) (.ref a) []
section
variable{K:ZxR}{F F' H H':Hp}{b:HM.B}{v:V}{fp:List Addr}
theorem Zak.mono(r:Zak K F H b v fp)(s:Zp F F')(k:∀a∈fp,∀o,H a=some o->Zc5 H' a o):Zak K F' H' b v fp:=by
 cases r with
 | pl r=>exact .pl (r.mono s)
 | ol h r=>exact .ol (k _ (by simp) _ h) (r.mono s)
 | ok h hk r=>exact .ok (k _ (by simp) _ h) hk (r.mono s)
 | ot h hk r=>exact .ot (k _ (by simp) _ h) hk (r.mono s)
 | hd h he hk r=>exact .hd (s _ _ h) he hk (r.mono s)
 | hf h=>exact .hf (FX.mono h s)
 | otl h hk hv r=>refine .otl (k _ (by simp) _ h) hk hv λi ds l h1 h2=>?_;obtain⟨vs,q1,q2⟩:=r i ds l h1 h2;exact⟨vs,k l (ZxW _ (Zym h2)) _ q1,q2.mono s⟩
theorem Zak.there2(r:Zak K F H b v fp){a:Addr}(h:a∈fp):∃o,H a=some o/\Zlf o=true:=by
 cases r with
 | pl r=>simp at h
 | hd _ _ _ _=>simp at h
 | hf _=>simp at h
 | ol q r=>simp at h; subst h; exact⟨_,q,rfl⟩
 | ok q hk r=>simp at h; subst h; exact⟨_,q,rfl⟩
 | ot q hk r=>simp at h; subst h; exact⟨_,q,rfl⟩
 | @otl a' kvs vvs ls q hk hv r =>
  rcases Zye.mp h with e | e
  ·subst e; exact⟨_,q,rfl⟩
  ·obtain⟨i,hi⟩:=List.getElem?_of_mem e
   have hl:kvs.length=ls.length:=by have e1:=congrArg ZyB hk;have e2:=congrArg ZyB hv;rw[ZxS,ZxS]at e1 e2;omega
   have hi':i<kvs.length:=by rw[hl]; exact(Zx4.mp hi).1
   obtain⟨vs,q1,_⟩:=r i (kvs[i].2) a (by simp[hi']) hi;exact⟨_,q1,rfl⟩
theorem Zak.there'(r:Zak K F H b v fp){a:Addr}(h:a∈fp):∃o,H a=some o/\∀xs,o≠.tup xs:=by
 cases r with
 | pl r=>simp at h
 | hd _ _ _ _=>simp at h
 | hf _=>simp at h
 | ol q r=>simp at h; subst h; exact⟨_,q,λ_ z=>by cases z⟩
 | ok q hk r=>simp at h; subst h; exact⟨_,q,λ_ z=>by cases z⟩
 | ot q hk r=>simp at h; subst h; exact⟨_,q,λ_ z=>by cases z⟩
 | @otl a' kvs vvs ls q hk hv r =>
  rcases Zye.mp h with e | e
  ·subst e; exact⟨_,q,λ_ z=>by cases z⟩
  ·obtain⟨i,hi⟩:=List.getElem?_of_mem e
   have hl:kvs.length=ls.length:=by have e1:=congrArg ZyB hk;have e2:=congrArg ZyB hv;rw[ZxS,ZxS]at e1 e2;omega
   have hi':i<kvs.length:=by rw[hl]; exact(Zx4.mp hi).1
   obtain⟨vs,q1,_⟩:=r i (kvs[i].2) a (by simp[hi']) hi;exact⟨_,q1,λ_ z=>by cases z⟩
theorem Zak.there(r:Zak K F H b v fp){a:Addr}(h:a∈fp):∃o,H a=some o:=let ⟨o,q,_⟩:=r.there' h; ⟨o,q⟩
end
structure Zbj(K:ZxR)(F0 H0 F H:Hp)(r:HM.Env)(σ:L2.St)(fp:Nat->List Addr):Prop where
 ext:Ext F0 H0 F H
 len:r.length=σ.length
 at_:∀(i:Nat) (b:HM.B),r[i]?=some (some b)->∃v,σ[i]?=some (some v)/\Zak K F H b v (fp i)
 emp:∀(i:Nat),(∀b,r[i]?≠some (some b))->fp i=[]
 own:∀(i:Nat) (a:Addr),a∈fp i->F a=none/\H0 a=none
 nd:∀i,(fp i).Nodup
 dis:∀(i j:Nat) (a:Addr),i≠j->a∈fp i->¬a∈fp j
 tb:Tb H0
 nt:NoT F0
def At(K:ZxR)(F0 H0 F H:Hp)(r:HM.Env)(σ:L2.St):Prop:=∃fp,Zbj K F0 H0 F H r σ fp
section
variable{K:ZxR}{F0 H0 F H F' H':Hp}{r:HM.Env}{σ:L2.St}{fp:Nat->List Addr}{i:Nat}{b:HM.B}{v:V}{d:PyData}
theorem Zbj.bound(e:Zbj K F0 H0 F H r σ fp){a:Addr}(h:a∈fp i):∃b,r[i]?=some (some b):=by
 cases q:r[i]? with
 | none=>rw[e.emp i (λb z=>by rw[q]at z; cases z)]at h; simp at h
 | some x =>
  cases x with
  | none=>rw[e.emp i (λb z=>by rw[q]at z; cases z)]at h; simp at h
  | some b=>exact⟨b,rfl⟩
theorem Zbj.there'(e:Zbj K F0 H0 F H r σ fp){a:Addr}(h:a∈fp i):∃o,H a=some o/\∀xs,o≠.tup xs:=by obtain⟨b,hb⟩:=e.bound h;obtain⟨v,_,q⟩:=e.at_ i b hb;exact q.there' h
theorem Zbj.there2(e:Zbj K F0 H0 F H r σ fp){a:Addr}(h:a∈fp i):∃o,H a=some o/\Zlf o=true:=by obtain⟨b,hb⟩:=e.bound h;obtain⟨v,_,q⟩:=e.at_ i b hb;exact q.there2 h
theorem Zbj.there(e:Zbj K F0 H0 F H r σ fp){a:Addr}(h:a∈fp i):∃o,H a=some o:=let ⟨o,q,_⟩:=e.there' h; ⟨o,q⟩
theorem Zbj.sub(e:Zbj K F0 H0 F H r σ fp):Zp F H:=e.ext.sub
theorem Zbj.grow(e:Zbj K F0 H0 F H r σ fp)(x:Ext F H F' H'):Zbj K F0 H0 F' H' r σ fp:=by
 refine⟨e.ext.trans x,e.len,λi b h=>?_,e.emp,λi a h=>⟨?_,(e.own i a h).2⟩,e.nd,e.dis,e.tb,e.nt⟩
 ·obtain⟨v,h1,h2⟩:=e.at_ i b h
  exact⟨v,h1,h2.mono x.ff λa _ o q=>x.hh a o q⟩
 ·cases q:F' a with
  | none=>rfl
  | some o =>
   rcases x.new a o q with z | z
   ·rw[(e.own i a h).1]at z; cases z
   ·obtain⟨o',h',hn⟩:=e.there' h
    exact(z.no h' hn).elim
theorem At.grow(e:At K F0 H0 F H r σ)(x:Ext F H F' H'):At K F0 H0 F' H' r σ:=let ⟨fp,e⟩:=e; ⟨fp,e.grow x⟩
theorem At.tb(e:At K F0 H0 F H r σ):Tb H:=let ⟨_,e⟩:=e; e.ext.tab e.tb
theorem At.tbx(e:At K F0 H0 F H r σ)(x:Ext F H F' H'):Tb H':=x.tab e.tb
theorem At.nt(e:At K F0 H0 F H r σ):NoT F:=let ⟨_,e⟩:=e; e.ext.nts e.nt
theorem At.ntx(e:At K F0 H0 F H r σ)(x:Ext F H F' H'):NoT F':=x.nts e.nt
theorem At.nt0(e:At K F0 H0 F H r σ):NoT F0:=let ⟨_,e⟩:=e; e.nt
theorem At.sub(e:At K F0 H0 F H r σ):Zp F H:=let ⟨_,e⟩:=e; e.ext.sub
theorem At.ext(e:At K F0 H0 F H r σ):Ext F0 H0 F H:=let ⟨_,e⟩:=e; e.ext
theorem At.refl(e:At K F0 H0 F H r σ):Ext F H F H:=.refl e.sub
theorem At.plain(e:At K F0 H0 F H r σ)(h:r[i]?=some (some (.pl d))):∃v,σ[i]?=some (some v)/\Rep K F d v:=by
 obtain⟨fp,e⟩:=e;obtain⟨v,h1,h2⟩:=e.at_ i _ h;generalize fp i=f at h2;cases h2 with
 | pl q=>exact⟨v,h1,q⟩
theorem At.any(e:At K F0 H0 F H r σ)(h:r[i]?=some (some b)):∃v fp,σ[i]?=some (some v)/\Zak K F H b v fp:=by obtain⟨fp,e⟩:=e;obtain⟨v,h1,h2⟩:=e.at_ i _ h;exact⟨v,_,h1,h2⟩
theorem At.store(e:At K F0 H0 F H r σ){fp':List Addr}(q:Zak K F H b v fp')(nd:fp'.Nodup)(h1:∀a∈fp',F a=none/\H0 a=none)(h2:∀fp,Zbj K F0 H0 F H r σ fp->∀j a,j≠i->a∈fp j->¬a∈fp') :
  At K F0 H0 F H (r.set i (some b)) (σ.set i (some v)):=by
 obtain⟨fp,e⟩:=e;have h2:=h2 fp e
 by_cases hi:i<r.length
 ·refine⟨λj=>if j=i then fp' else fp j,e.ext,by rw[Zy1,Zy1,e.len],λj c h=>?_,λj h=>?_,λj a h=>?_,λj=>?_,λj k a hjk h=>?_,e.tb,e.nt⟩
  ·by_cases hj:j=i
   ·subst hj
    rw[ZyF hi]at h;cases h;refine⟨v,ZyF (by rw[<-e.len]; exact hi),?_⟩;rw[if_pos rfl]; exact q
   ·rw[Zyo (ZyR hj)]at h
    obtain⟨u,q1,q2⟩:=e.at_ j c h;refine⟨u,by rw[Zyo (ZyR hj)]; exact q1,?_⟩;rw[if_neg hj]; exact q2
  ·by_cases hj:j=i
   ·subst hj
    exact absurd (ZyF hi) (h b)
   ·show(if j=i then fp' else fp j)=[]
    rw[if_neg hj];exact e.emp j λc z=>h c (by rw[Zyo (ZyR hj)]; exact z)
  ·by_cases hj:j=i
   ·rw[if_pos hj]at h; exact h1 a h
   ·rw[if_neg hj]at h; exact e.own j a h
  ·show(if j=i then fp' else fp j).Nodup
   by_cases hj:j=i
   ·rw[if_pos hj]; exact nd
   ·rw[if_neg hj]; exact e.nd j
  ·show ¬a∈(if k=i then fp' else fp k)
   by_cases hj:j=i
   ·rw[if_pos hj]at h
    by_cases hk:k=i
    ·exact absurd (hj.trans hk.symm) hjk
    ·rw[if_neg hk]; exact λz=>h2 k a hk z h
   ·rw[if_neg hj]at h
    by_cases hk:k=i
    ·rw[if_pos hk]; exact h2 j a hj h
    ·rw[if_neg hk]; exact e.dis j k a hjk h
 ·have e1:r.set i (some b)=r:=ZBS (by omega)
  have e2:σ.set i (some v)=σ:=ZBS (by have:=e.len; omega);rw[e1,e2];exact⟨fp,e⟩
theorem At.set(e:At K F0 H0 F H r σ)(q:Rep K F d v):At K F0 H0 F H (r.set i (some (.pl d))) (σ.set i (some v)) :=
 e.store (.pl q) ZzE (λa h=>by simp at h) λ_ _ _ _ _ _ h=>by simp at h
theorem Zbj.changeW(e:Zbj K F0 H0 F H r σ fp)(hv:σ[i]?=some (some v)){fp':List Addr}(q:Zak K F H' b v fp')(nd:fp'.Nodup)(h1:∀a∈fp',a∈fp i\/(F a=none/\H0 a=none/\∀j,a ∉ fp j))
  (h2:∀a o,H a=some o->¬a∈fp i->H' a=some o):At K F0 H0 F H' (r.set i (some b)) σ:=by
 have sF:Zp F H':=λa o z=>h2 a o (e.sub a o z) λm=>by rw[(e.own i a m).1]at z; cases z
 have sH:ZaF H0 H':=λa o z=>by
  have nm:¬a∈fp i:=λm=>by rw[(e.own i a m).2]at z; cases z
  have y:=e.ext.hh a o z;cases o<;>first | exact h2 a _ y nm | (obtain⟨ps,q⟩:=y; exact⟨ps,h2 a _ q nm⟩)
 have sT:Tb H0->Tb H':=λt=>(e.ext.tab t).keep λa o z ho=>h2 a o z λm=>by obtain⟨o',q1,q2⟩:=e.there2 m;rw[z]at q1; cases q1; exact ZrN q2 ho
 have e':Zbj K F0 H0 F H' (r.set i none) (σ.set i none) (λj=>if j=i then[]else fp j):=by
  refine⟨⟨e.ext.ff,sH,sF,e.ext.new,sT,e.ext.nts⟩,by rw[Zy1,Zy1,e.len],λj c h=>?_,λj h=>?_,λj a h=>?_,λj=>?_,λj k a hjk h=>?_,e.tb,e.nt⟩
  ·by_cases hj:j=i
   ·subst hj
    by_cases hi:j<r.length
    ·rw[ZyF hi]at h; cases h
    ·rw[ZCf (by rw[Zy1]; omega)]at h; cases h
   ·rw[Zyo (ZyR hj)]at h
    obtain⟨u,q1,q2⟩:=e.at_ j c h;refine⟨u,by rw[Zyo (ZyR hj)]; exact q1,?_⟩;rw[if_neg hj];exact q2.mono (Zp.refl F) λa ha o z=>.of (h2 a o z (e.dis j i a hj ha))
  ·show(if j=i then[]else fp j)=[]
   by_cases hj:j=i
   ·rw[if_pos hj]
   ·rw[if_neg hj]
    exact e.emp j λc z=>h c (by rw[Zyo (ZyR hj)]; exact z)
  ·by_cases hj:j=i
   ·rw[if_pos hj]at h; simp at h
   ·rw[if_neg hj]at h; exact e.own j a h
  ·show(if j=i then[]else fp j).Nodup
   by_cases hj:j=i
   ·rw[if_pos hj]; exact ZzE
   ·rw[if_neg hj]; exact e.nd j
  ·show ¬a∈(if k=i then[]else fp k)
   by_cases hj:j=i
   ·rw[if_pos hj]at h; simp at h
   ·rw[if_neg hj]at h
    by_cases hk:k=i
    ·rw[if_pos hk]; simp
    ·rw[if_neg hk]; exact e.dis j k a hjk h
 have hF:∀a∈fp',F a=none/\H0 a=none:=λa ha=>by
  rcases h1 a ha with z | z
  ·exact e.own i a z
  ·exact⟨z.1,z.2.1⟩
 have e2:=At.store (i:=i) ⟨_,e'⟩ q nd hF λfq eq j a hj ha z=>by
  obtain⟨c,hc⟩:=eq.bound ha;rw[Zyo (ZyR hj)]at hc;obtain⟨u1,s1,r1⟩:=eq.at_ j c (by rw[Zyo (ZyR hj)]; exact hc);obtain⟨u2,s2,r2⟩:=e.at_ j c hc;rw[Zyo (ZyR hj),s2]at s1;cases s1;have hm:a∈fp j:=by
   have r2':=r2.mono (H':=H') (Zp.refl F) λa ha o z=>.of (h2 a o z (e.dis j i a hj ha))
   clear r2
   generalize fq j=f1 at r1 ha;generalize fp j=f2 at r2' ⊢;cases r1 with
   | pl _=>simp at ha
   | hd _ _ _ _=>simp at ha
   | hf _=>simp at ha
   | ol _ _=>cases r2' with | ol _ _=>exact ha
   | ok _ _ _=>cases r2' with | ok _ _ _=>exact ha
   | ot _ _ _=>cases r2' with | ot _ _ _=>exact ha
   | otl a1 _ v1 _ =>
    cases r2' with
    | otl a2 _ v2 _ =>
     rw[a1]at a2;cases a2;rw[v1]at v2;have:∀{l l':List Addr},l.map V.ref=l'.map V.ref->l=l':=by
      intro l
      induction l with
      | nil=>intro l' h; cases l' with | nil=>rfl | cons _ _=>simp at h
      | cons x xs ih =>
       intro l' h;cases l' with
       | nil=>simp at h
       | cons y ys =>
        rw[ZxY,ZxY]at h;injection h with h1 h2
        injection h1 with h1
        rw[h1,ih h2]
     rw[<-this v2]; exact ha
  rcases h1 a z with w | w
  ·exact e.dis j i a hj hm w
  ·exact w.2.2 j hm
 rw[ZBe,ZBe]at e2;have es:σ.set i (some v)=σ:=by have hi:i<σ.length:=(Zx4.mp hv).1;have hq:σ[i]=some v:=(Zx4.mp hv).2;rw[<-hq];exact ZAr hi
 rwa [es]at e2
theorem Zbj.change(e:Zbj K F0 H0 F H r σ fp)(hv:σ[i]?=some (some v)){fp':List Addr}(q:Zak K F H' b v fp')(nd:fp'.Nodup)(h1:∀a∈fp',a∈fp i\/H a=none)
  (h2:∀a o,H a=some o->¬a∈fp i->H' a=some o):At K F0 H0 F H' (r.set i (some b)) σ :=
 e.changeW hv q nd (λa ha=>(h1 a ha).imp id λz=>⟨e.sub.free z,e.ext.hh.free z,λj hj=>by obtain⟨o,ho⟩:=e.there hj;rw[z]at ho; cases ho⟩) h2
theorem At.storeNew{Hb:Hp}(e:At K F0 H0 F H r σ)(hb:At K F0 H0 F' Hb r σ)(sb:ZaF Hb H){fp':List Addr}(q:Zak K F H b v fp')(nd:fp'.Nodup)(h1:∀a∈fp',F a=none/\Hb a=none) :
  At K F0 H0 F H (r.set i (some b)) (σ.set i (some v)):=by
 refine e.store q nd (λa h=>⟨(h1 a h).1,hb.ext.hh.free (h1 a h).2⟩) λfp e1 j a hj ha z=>?_;obtain⟨fq,eb⟩:=hb;obtain⟨c,hc⟩:=e1.bound ha;obtain⟨u1,s1,r1⟩:=e1.at_ j c hc;obtain⟨u2,s2,r2⟩:=eb.at_ j c hc;rw[s2]at s1;cases s1;have hn:=(h1 a z).2;have old:∀{x:Addr} {o o':HO},Hb x=some o->H x=some o'->(∀ps,o'≠.tbl ps)->o=o':=λ{x o o'} h1 h2 n=>sb.back h1 h2 n;generalize fp j=f1 at r1 ha;generalize fq j=f2 at r2;cases r1 with
 | pl _=>simp at ha
 | hd _ _ _ _=>simp at ha
 | hf _=>simp at ha
 | ol k _=>cases r2 with | ol k' _=>simp at ha; subst ha; rw[hn]at k'; cases k'
 | ok k _ _=>cases r2 with | ok k' _ _=>simp at ha; subst ha; rw[hn]at k'; cases k'
 | ot k _ _=>cases r2 with | ot k' _ _=>simp at ha; subst ha; rw[hn]at k'; cases k'
 | otl k _ v1 _ =>
  cases r2 with
  | otl k' hk' v2 r2' =>
   have eo:=old k' k λ_ z=>by cases z
   injection eo with eo
   subst eo;have v2':=v2;rw[v1]at v2;rcases Zye.mp ha with z2 | z2
   ·subst z2; rw[hn]at k'; cases k'
   ·have:V.ref a∈ZBm V.ref _:=Zx3.mpr ⟨a,z2,rfl⟩
    rw[v2]at this;obtain⟨a',m1,m2⟩:=Zx3.mp this;injection m2 with m2
    subst m2;obtain⟨o,ho⟩:=Zak.there (Zak.otl k' hk' v2' r2') (ZxW _ m1);rw[hn]at ho; cases ho
theorem At.rebase(e:At K F0 H0 F H r σ):At K F H0 F H r σ:=by obtain⟨fp,e⟩:=e;exact⟨fp,⟨Zp.refl F,e.ext.hh,e.ext.sub,λ_ _ z=>.inl z,e.ext.tab,id⟩,e.len,e.at_,e.emp,e.own,e.nd,e.dis,e.tb,e.ext.nts e.nt⟩
theorem Ext.unbase{F1 H1:Hp}(x:Ext F0 H0 F1 H1)(y:Ext F1 H0 F H):Ext F0 H0 F H :=
 ⟨x.ff.trans y.ff,y.hh,y.sub,λa o z=>(y.new a o z).elim (λq=>x.new a o q) .inr,y.tab,λt=>y.nts (x.nts t)⟩
theorem At.unbase{F1 H1:Hp}(x:Ext F0 H0 F1 H1)(n:NoT F0)(e:At K F1 H0 F H r σ):At K F0 H0 F H r σ:=by obtain⟨fp,e⟩:=e;exact⟨fp,x.unbase e.ext,e.len,e.at_,e.emp,e.own,e.nd,e.dis,e.tb,n⟩
theorem Zbj.freeze{fp:Nat->List Addr}(e:Zbj K F0 H0 F H r σ fp)(i:Nat){b:HM.B}{a:Addr}{ob:HO}{d:PyData}(hb:r[i]?=some (some b))(h1:σ[i]?=some (some (.ref a)))(hfp:fp i=[a])(ha:H a=some ob)(hr:Zp F (upd F a ob)->Rep K (upd F a ob) d (.ref a))(no:HP.nt ob=true:=by rfl) :
  ∃F',Ext F0 H0 F' H/\Zp F F'/\At K F0 H0 F' H (r.set i (some (.pl d))) σ:=by
 have hF:F a=none:=(e.own i a (by rw[hfp]; simp)).1;have s:Zp F (upd F a ob):=Zp.upd' hF;have x:Ext F0 H0 (upd F a ob) H:=by
  refine⟨e.ext.ff.trans s,e.ext.hh,λc o z=>?_,λc o z=>?_,e.ext.tab,λt=>(e.ext.nts t).upd no⟩
  ·by_cases hc:c=a
   ·subst hc; rw[ZF]at z; cases z; exact ha
   ·rw[ZA hc]at z; exact e.sub c o z
  ·by_cases hc:c=a
   ·subst hc; exact .inr (.inl (e.own i c (by rw[hfp]; simp)).2)
   ·rw[ZA hc]at z; exact e.ext.new c o z
 refine⟨_,x,s,?_⟩;have e1:Zbj K F0 H0 (upd F a ob) H (r.set i none) (σ.set i none) (λj=>if j=i then[]else fp j):=by
  refine⟨x,by rw[Zy1,Zy1,e.len],λj c h=>?_,λj h=>?_,λj c h=>?_,λj=>?_,λj k c hjk h=>?_,e.tb,e.nt⟩
  ·by_cases hj:j=i
   ·subst hj
    rw[ZyF (Zx4.mp hb).1]at h; cases h
   ·rw[Zyo (ZyR hj)]at h
    obtain⟨u,q1,q2⟩:=e.at_ j c h;refine⟨u,by rw[Zyo (ZyR hj)]; exact q1,?_⟩;rw[if_neg hj]; exact q2.mono s λ_ _ _ z=>.of z
  ·show(if j=i then[]else fp j)=[]
   by_cases hj:j=i
   ·rw[if_pos hj]
   ·rw[if_neg hj]
    exact e.emp j λc z=>h c (by rw[Zyo (ZyR hj)]; exact z)
  ·by_cases hj:j=i
   ·rw[if_pos hj]at h; simp at h
   ·rw[if_neg hj]at h
    have hca:c≠a:=λz=>e.dis j i c hj h (by rw[hfp,z]; simp);exact⟨by rw[ZA hca]; exact(e.own j c h).1,(e.own j c h).2⟩
  ·show(if j=i then[]else fp j).Nodup
   by_cases hj:j=i
   ·rw[if_pos hj]; exact ZzE
   ·rw[if_neg hj]; exact e.nd j
  ·show ¬c∈(if k=i then[]else fp k)
   by_cases hj:j=i
   ·rw[if_pos hj]at h; simp at h
   ·rw[if_neg hj]at h
    by_cases hk:k=i
    ·rw[if_pos hk]; simp
    ·rw[if_neg hk]; exact e.dis j k c hjk h
 have rp:=hr s;have e2:=At.set (i:=i) ⟨_,e1⟩ rp;rw[ZBe,ZBe]at e2;have es:σ.set i (some (.ref a))=σ:=by have hi:i<σ.length:=(Zx4.mp h1).1;have hq:σ[i]=some (.ref a):=(Zx4.mp h1).2;rw[<-hq];exact ZAr hi
 rwa [es]at e2
theorem At.freeze(e:At K F0 H0 F H r σ)(i:Nat):∃F',Ext F0 H0 F' H/\Zp F F'/\At K F0 H0 F' H (HM.ZkD i r) σ:=by
 unfold HM.ZkD;split
 ·rename_i ds hb
  obtain⟨fp,e⟩:=e;obtain⟨v,h1,h2⟩:=e.at_ i _ hb;generalize hfp:fp i=f at h2;cases h2 with
  | @ol a _ vs ha q=>exact e.freeze i hb h1 hfp ha λs=>.lst (.of ZF) q.1 (q.mono s).2
 ·rename_i kvs hb
  obtain⟨fp,e⟩:=e;obtain⟨v,h1,h2⟩:=e.at_ i _ hb;generalize hfp:fp i=f at h2;cases h2 with
  | @ot a _ vvs ha hk q=>exact e.freeze i hb h1 hfp ha λs=>.dct (.inl ZF) rfl hk (q.mono s).2
 ·exact⟨F,e.ext,Zp.refl F,e⟩
end
inductive Now(K:ZxR)(r:HM.Env)(σ:L2.St)(H:Hp)(C:Hp->Hp->Hp->Prop):Prop
 | mk (F0 H0 F:Hp) (at_:At K F0 H0 F H r σ) (k:C F0 H0 F):Now K r σ H C
end HP
namespace HP
open PySem PySem.Spec PyProof.Rows L2
variable[FX]
def tAt(K:ZxR)(r:HM.Env)(P:Hp->Hp->Hp->V->Prop):TE:=λσ H Q=>Now K r σ H λF0 H0 F=>∀v F' H',Ext F H F' H'->P H F' H' v->Q v H'
def XE(X:Cx)(e:Expr)(f:HM.EF):Prop:=∀r d,f r=some d->PE X e (tAt X.K r λ_ F' _ v=>Rep X.K F' d v)
def XB(X:Cx)(e:Expr)(f:HM.BF):Prop:=∀r b,f r=some b->PE X e (tAt X.K r λ_ F' H' v=>∃fp,Zak X.K F' H' b v fp)
def XF(X:Cx)(e:Expr)(f:HM.BF):Prop:=∀r b,f r=some b->PE X e (tAt X.K r λH F' H' v=>∃fp,Zak X.K F' H' b v fp/\fp.Nodup/\∀a∈fp,F' a=none/\H a=none)
def XT(X:Cx)(e:Expr)(f:HM.TF):Prop:=∀r c,f r=some c->PT X e λσ H Q=>Now X.K r σ H λF0 H0 F=>∀F' H',Ext F H F' H'->Q c H'
def XW(X:Cx)(e:Expr)(f:HM.TF):Prop:=∀r c,f r=some c->PW X e λσ H Q=>Now X.K r σ H λF0 H0 F=>∀F' H',Ext F H F' H'->Q c H'
structure XA(X:Cx)(es:List Expr)(f:HM.AF):Prop where
 len:∀r ds,f r=some ds->ds.length=es.length
 pa:∀r ds,f r=some ds->PA X es λσ H Q=>Now X.K r σ H λF0 H0 F=>∀vs F' H',Ext F H F' H'->Zu X.K F' ds vs->Q vs H'
def ItD(K:ZxR)(J:It)(ds:List PyData)(F:Hp):Prop:=∀F' H,Zp F F'->Zp F' H ->
 (∀(i:Nat) (d:PyData),ds[i]?=some d->J.go i H/\∀x H',J.yld i H x H'->H'=H/\Rep K (ZcD F' H) d x)/\J.stop ds.length H
def XI(X:Cx)(tg e:Expr)(f:HM.IF):Prop:=∀r ds,f r=some ds->PI X tg e λσ H R=>Now X.K r σ H λF0 H0 F=>∀J F' H',Ext F H F' H'->ItD X.K J ds F'->R J H'
def ZxA(K:ZxR)(F0 H0:Hp)(o:HM.Out)(E:Ends):Prop:=match o with
 | .nx r=>∀σ F H,At K F0 H0 F H r σ->E.nx σ H
 | .rt d=>∀v F H,Ext F0 H0 F H->Rep K F d v->E.rt v H
 | .bk r=>∀σ F H,At K F0 H0 F H r σ->E.bk σ H
 | .ct r=>∀σ F H,At K F0 H0 F H r σ->E.ct σ H
def tSt(K:ZxR)(r:HM.Env)(o:HM.Out):TS:=λE σ H=>Now K r σ H λF0 H0 F=>ZxA K F0 H0 o E
def XS(X:Cx)(st:Stmt)(g:HM.SF):Prop:=∀r o,g r=some o->PS X st (tSt X.K r o)
def XSs(X:Cx)(sts:List Stmt)(g:HM.SF):Prop:=∀r o,g r=some o->PSs X sts (tSt X.K r o)
theorem PE.imp{X:Cx}{e:Expr}{t u:TE}(h:PE X e t)(hi:∀σ H Q,u σ H Q->t σ H Q):PE X e u:=λpins s σ H Q I q=>h pins s σ H Q I (hi σ H Q q)
theorem PT.imp{X:Cx}{e:Expr}{t u:TT}(h:PT X e t)(hi:∀σ H Q,u σ H Q->t σ H Q):PT X e u:=λpins s σ H Q I q=>h pins s σ H Q I (hi σ H Q q)
theorem PW.imp{X:Cx}{e:Expr}{t u:TT}(h:PW X e t)(hi:∀σ H Q,u σ H Q->t σ H Q):PW X e u:=λwh pins s σ H Q I q=>h wh pins s σ H Q I (hi σ H Q q)
theorem PA.imp{X:Cx}{es:List Expr}{t u:TA}(h:PA X es t)(hi:∀σ H Q,u σ H Q->t σ H Q):PA X es u:=λp pins s σ H Q I q=>h p pins s σ H Q I (hi σ H Q q)
theorem PS.imp{X:Cx}{st:Stmt}{t u:TS}(h:PS X st t)(hi:∀E σ H,u E σ H->t E σ H):PS X st u:=λpins s σ H E I q=>h pins s σ H E I (hi E σ H q)
theorem PSs.imp{X:Cx}{sts:List Stmt}{t u:TS}(h:PSs X sts t)(hi:∀E σ H,u E σ H->t E σ H):PSs X sts u:=λpins s σ H E I q=>h pins s σ H E I (hi E σ H q)
section
variable{X:Cx}{a b c e:Expr}{fa fb fc:HM.EF}{pos p:Pos}
theorem Ztv{i:Nat}{r:HM.Env}{d:PyData}(h:HM.Zd i r=some d):r[i]?=some (some (.pl d)):=by
 unfold HM.Zd at h;split at h
 ·rename_i q; cases h; exact q
 ·cases h
theorem Zs4{i:Nat}{r:HM.Env}{d:HM.B}(h:HM.Zr i r=some d):r[i]?=some (some d):=by
 unfold HM.Zr at h;split at h
 ·rename_i q; cases h; exact q
 ·cases h
theorem Zc(i:Nat){x:Str}{pos:Pos}(hN:X.N[i]?=some x:=by rfl)(hv:Vis X.env.scope x:=by first | exact ZyP rfl | exact Zyx (ZyP rfl) | exact Zyx (Zyx rfl))(hd:(x==("__debug__":Str))=false:=by decide)
  (hcd:(x==("__classdict__":Str))=false:=by decide):XE X (.Name x pos) (HM.Zd i):=by
 intro r d h;refine PE.imp (ZcC hN hv hd hcd) λσ H Q ⟨F0,H0,F,at_,k⟩=>?_;obtain⟨v,h1,h2⟩:=at_.plain (Ztv h);exact⟨v,h1,k v F H at_.refl h2⟩
theorem Zx(i:Nat){x:Str}{pos:Pos}(hN:X.N[i]?=some x:=by rfl)(hv:Vis X.env.scope x:=by first | exact ZyP rfl | exact Zyx (ZyP rfl) | exact Zyx (Zyx rfl))(hd:(x==("__debug__":Str))=false:=by decide)
  (hcd:(x==("__classdict__":Str))=false:=by decide):XB X (.Name x pos) (HM.Zr i):=by
 intro r d h;refine PE.imp (ZcC hN hv hd hcd) λσ H Q ⟨F0,H0,F,at_,k⟩=>?_;obtain⟨v,fp,h1,h2⟩:=at_.any (Zs4 h);exact⟨v,h1,k v F H at_.refl ⟨fp,h2⟩⟩
theorem Zfy{v:V}{d:PyData}(h:PE X e (tC v))(r:∀F,Rep X.K F d v):XE X e (HM.eC d):=by intro r' d' h';cases h';exact PE.imp h λσ H Q ⟨F0,H0,F,at_,k⟩=>k v F H at_.refl (r F)
theorem Zm{i:Int}{j:Nat}:XE X (.Constant (.int i) j pos) (HM.eC (.int i)):=Zfy Zrr λ_=>.int i
theorem Zbt{q:Bool}{j:Nat}:XE X (.Constant (.bool q) j pos) (HM.eC (.bool q)):=Zfy ZwK λ_=>.bl q
theorem Zdi{j:Nat}:XE X (.Constant .none j pos) (HM.eC .none):=Zfy Zq3 λ_=>.non
theorem ZiU{x:Str}{i:Int}(hm:∃t,X.mg x=some (.int i t))(hg:Gl X x:=by rfl)(hd:(x==("__debug__":Str))=false:=by decide):XE X (.Name x pos) (HM.eC (.int i)):=by obtain⟨t,hm⟩:=hm;exact Zfy (Zps hg hm (v:=.int i) ⟨t,rfl⟩ hd) λ_=>.int i
theorem ZuT{i:Int}{j:Nat}{p':Pos}:XE X (.UnaryOp .USub (.Constant (.int i) j p') pos) (HM.eC (.int (-i))):=by intro r d h;cases h;intro pins s σ H Q I q;obtain⟨F0,H0,F,at_,k⟩:=q;refine UnaryOp_ (thn (Zrr pins s σ H (λv H'=>v=.int i/\H'=H) I ⟨rfl,rfl⟩) λu s1 ⟨x,H1,I1,r1,e1,e2⟩=>?_);subst e1 e2;obtain⟨t,rfl⟩:=r1;exact neg_int ⟨.int (-i),H1,I1.tok _,⟨_,rfl⟩,k _ F H1 at_.refl (.int _)⟩
theorem ZbA(h:XE X e fa):XB X e (HM.bOf fa):=by intro r b hb;obtain⟨d,h1,h2⟩:=ZxT.mp hb;subst h2;exact PE.imp (h r d h1) λσ H Q ⟨F0,H0,F,at_,k⟩=>⟨F0,H0,F,at_,λv F' H' x q=>k v F' H' x ⟨[],.pl q⟩⟩
theorem Zby{f:HM.BF}(h:XF X e f):XB X e f:=λr b hb=>PE.imp (h r b hb) λσ H Q ⟨F0,H0,F,at_,k⟩=>⟨F0,H0,F,at_,λv F' H' x ⟨fp,q,_⟩=>k v F' H' x ⟨fp,q⟩⟩
theorem Zco{f:HM.BF}(h:XF X e f):XE X e (HM.eOf f):=by
 intro r d hd;unfold HM.eOf at hd;obtain⟨b,h1,h2⟩:=ZAR.mp hd;refine PE.imp (h r b h1) λσ H Q ⟨F0,H0,F,at_,k⟩=>⟨F0,H0,F,at_,λv F' H' x ⟨fp,q,_,hn⟩=>?_⟩;cases q with
 | pl q=>cases h2;exact k v F' H' x q
 | @ol l ds vs hl q =>
  cases h2;have hF:F' l=none:=(hn l (by simp)).1;have s:Zp F' (upd F' l (.lst vs)):=Zp.upd' hF;refine k _ (upd F' l (.lst vs)) H' ⟨x.ff.trans s,x.hh,λc o z=>?_,λc o z=>?_,x.tab,λt=>(x.nts t).upd rfl⟩ (.lst (.of ZF) q.1 (q.mono s).2)
  ·by_cases hc:c=l
   ·subst hc; rw[ZF]at z; cases z; exact hl
   ·rw[ZA hc]at z; exact x.sub c o z
  ·by_cases hc:c=l
   ·subst hc; exact .inr (.inl (hn c (by simp)).2)
   ·rw[ZA hc]at z; exact x.new c o z
 | @ot l kvs vvs hl hk q =>
  cases h2;have hF:F' l=none:=(hn l (by simp)).1;have s:Zp F' (upd F' l (.dT vvs)):=Zp.upd' hF;refine k _ (upd F' l (.dT vvs)) H' ⟨x.ff.trans s,x.hh,λc o z=>?_,λc o z=>?_,x.tab,λt=>(x.nts t).upd rfl⟩ (.dct (.inl ZF) rfl hk (q.mono s).2)
  ·by_cases hc:c=l
   ·subst hc; rw[ZF]at z; cases z; exact hl
   ·rw[ZA hc]at z; exact x.sub c o z
  ·by_cases hc:c=l
   ·subst hc; exact .inr (.inl (hn c (by simp)).2)
   ·rw[ZA hc]at z; exact x.new c o z
 | ok _ _ _=>cases h2
 | hd h3 h4 h5 h6=>cases h2; exact k _ F' H' x (.dct (.inr ⟨_,h3⟩) h4 h5 h6.2)
 | hf h3=>cases h2; exact k _ F' H' x (.fn h3)
 | otl _ _ _ _=>cases h2
def Bin(K:ZxR)(r:R2)(g:PyData->PyData->Option PyData):Prop:=∀(F H:Hp) (x y z:PyData) (v w:V) (Q:VK),Zp F H->g x y=some z->Rep K F x v->Rep K F y w->(∀u,Rep K F z u->Q u H)->r v w H Q
structure ZnZ(X:Cx)(op:Operator)(g:PyData->PyData->Option PyData):Prop where
 ex:∃r,OpR X (ZA6 op) r/\Bin X.K r g
structure Zf8(X:Cx)(op:CmpOp)(g:PyData->PyData->Option PyData):Prop where
 ex:∃r,OpR X (ZyY op) r/\Bin X.K r g
 n1:op≠.In
 n2:op≠.NotIn
theorem Zg9{g:PyData->PyData->Option PyData}{r:HM.Env}{d:PyData}(h:HM.op2 g fa fb r=some d):∃x y,fa r=some x/\fb r=some y/\g x y=some d:=by
 unfold HM.op2 at h;split at h
 ·split at h
  ·exact⟨_,_,by assumption,by assumption,h⟩
  ·cases h
 ·cases h
theorem two{K:ZxR}{r:HM.Env}{x y:PyData}{P:Hp->Hp->Hp->V->Prop}{σ:L2.St}{H:Hp}{Q:VK}{R:V->V->Hp->VK->Prop}(h:tAt K r P σ H Q)
  (hk:∀H F2 H2 v w,Zp F2 H2->Rep K F2 x v->Rep K F2 y w->(∀u F3 H3,Ext F2 H2 F3 H3->P H F3 H3 u->Q u H3)->ZaF H H2->R v w H2 Q) :
  tOp R (tAt K r λ_ F' _ v=>Rep K F' x v) (tAt K r λ_ F' _ v=>Rep K F' y v) σ H Q:=by
 obtain⟨F0,H0,F,at_,k⟩:=h;refine⟨F0,H0,F,at_,λv F1 H1 x1 r1=>⟨F0,H0,F1,at_.grow x1,λw F2 H2 x2 r2=>?_⟩⟩;exact hk H F2 H2 v w x2.sub (r1.mono x2.ff) r2 (λu F3 H3 x3 q=>k u F3 H3 ((x1.trans x2).trans x3) q) (x1.hh.trans x2.hh)
theorem ZI{op:Operator}{g:PyData->PyData->Option PyData}(o:ZnZ X op g)(ha:XE X a fa)(hb:XE X b fb):XE X (.BinOp a op b pos) (HM.op2 g fa fb):=by intro r d h;obtain⟨x,y,h1,h2,h3⟩:=Zg9 h;obtain⟨R,o1,o2⟩:=o.ex;refine PE.imp (Zqf o1 (ha r x h1) (hb r y h2)) λσ H Q q=>?_;exact two q λ_ F2 H2 v w s r1 r2 k _=>o2 F2 H2 x y d v w Q s h3 r1 r2 λu ru=>k u F2 H2 (.refl s) ru
theorem Zh3{op:CmpOp}{g:PyData->PyData->Option PyData}(o:Zf8 X op g)(ha:XE X a fa)(hb:XE X b fb):XE X (.Compare a [op] [b] pos) (HM.op2 g fa fb):=by intro r d h;obtain⟨x,y,h1,h2,h3⟩:=Zg9 h;obtain⟨R,o1,o2⟩:=o.ex;refine PE.imp (Zpe o1 (ha r x h1) (hb r y h2) (Zkb _ o.n1 o.n2)) λσ H Q q=>?_;exact two q λ_ F2 H2 v w s r1 r2 k _=>o2 F2 H2 x y d v w Q s h3 r1 r2 λu ru=>k u F2 H2 (.refl s) ru
theorem Zha{r:HM.Env}{c:Bool}(h:HM.tV fa r=some c):fa r=some (.bool c):=by
 unfold HM.tV at h;split at h
 ·rename_i q; cases h; exact q
 ·cases h
theorem Rep.bool_inv{K:ZxR}{F:Hp}{c:Bool}{v:V}(h:Rep K F (.bool c) v):v=.bl c:=by cases h; rfl
theorem Rep.int_inv{K:ZxR}{F:Hp}{i:Int}{v:V}(h:Rep K F (.int i) v):v=.int i:=by cases h; rfl
theorem Rep.none_inv{K:ZxR}{F:Hp}{v:V}(h:Rep K F .none v):v=.non:=by cases h; rfl
theorem ZaP{op:CmpOp}{g:PyData->PyData->Option PyData}(o:Zf8 X op g)(ha:XE X a fa)(hb:XE X b fb):XT X (.Compare a [op] [b] pos) (HM.tV (HM.op2 g fa fb)):=by intro r d h;obtain⟨x,y,h1,h2,h3⟩:=Zg9 (Zha h);obtain⟨R,o1,o2⟩:=o.ex;refine PT.imp (Zk9 o1 (ha r x h1) (hb r y h2) (Zkb _ o.n1 o.n2)) λσ H Q ⟨F0,H0,F,at_,k⟩=>?_;refine⟨F0,H0,F,at_,λv F1 H1 x1 r1=>⟨F0,H0,F1,at_.grow x1,λw F2 H2 x2 r2=>?_⟩⟩;refine o2 F2 H2 x y _ v w _ x2.sub h3 (r1.mono x2.ff) r2 λu ru=>?_;exact⟨d,ru.bool_inv,k F2 H2 (x1.trans x2)⟩
theorem Zbi(h:XE X e fa)(he:∀whole,isTrue e X.env whole=(do let v <-whole; standAt e.pos; holding [v] (truthy v)):=by intro _; rfl):XT X e (HM.tV fa):=by intro r c hc;refine PT.imp (Zv9 (h r _ (Zha hc)) he) λσ H Q ⟨F0,H0,F,at_,k⟩=>?_;exact⟨F0,H0,F,at_,λv F1 H1 x1 r1=>⟨c,r1.bool_inv,k F1 H1 x1⟩⟩
theorem Zcc{t:HM.TF}(h:XT X a t):XT X (.UnaryOp .Not a pos) (HM.Zdd t):=by intro r c hc;obtain⟨d,h1,h2⟩:=ZxT.mp hc;subst h2;refine PT.imp (Zvr (h r d h1)) λσ H Q ⟨F0,H0,F,at_,k⟩=>?_;exact⟨F0,H0,F,at_,λF1 H1 x1=>k F1 H1 x1⟩
theorem ZjB{t:HM.TF}(h:XW X e t):XT X e t:=λr c hc=>(h r c hc).pt
theorem Zfz{t:HM.TF}(h:XT X a t):XW X (.BoolOp .Or [a] pos) t:=λr c hc=>Zwa (h r c hc)
theorem Ztk{e:Expr}:PW X e λ_ _ _=>False:=λ_ _ _ _ _ _ _ h=>h.elim
theorem ZhD{e:Expr}:PE X e λ_ _ _=>False:=λ_ _ _ _ _ _ h=>h.elim
theorem Zgd{t u:HM.TF}{rest:List Expr}(ha:XT X a t)(hb:XW X (.BoolOp .Or (b::rest) pos) u):XW X (.BoolOp .Or (a::b::rest) pos) (HM.tOr t u):=by
 intro r c hc;unfold HM.tOr at hc;split at hc
 ·rename_i q
  cases hc;refine PW.imp (ZtI (ha r true q) Ztk) λσ H Q ⟨F0,H0,F,at_,k⟩=>?_;exact⟨F0,H0,F,at_,λF1 H1 x1=>ZnF (k F1 H1 x1)⟩
 ·rename_i q
  refine PW.imp (ZtI (ha r false q) (hb r c hc)) λσ H Q ⟨F0,H0,F,at_,k⟩=>?_;exact⟨F0,H0,F,at_,λF1 H1 x1=>Zoh ⟨F0,H0,F1,at_.grow x1,λF2 H2 x2=>k F2 H2 (x1.trans x2)⟩⟩
 ·cases hc
theorem ZfA{op:BoolOp}(h:XE X a fa):XE X (.BoolOp op [a] pos) fa:=λr d hd=>Zv6 (h r d hd)
theorem ZfB{rest:List Expr}(ha:XE X a fa)(hb:XE X (.BoolOp .And (b::rest) pos) fb):XE X (.BoolOp .And (a::b::rest) pos) (HM.ZhB fa fb):=by
 intro r d hd;unfold HM.ZhB at hd;split at hd
 ·rename_i q
  refine PE.imp (Zra (ha r _ q) (hb r d hd)) λσ H Q ⟨F0,H0,F,at_,k⟩=>?_;exact⟨F0,H0,F,at_,λv F1 H1 x1 r1=>⟨true,r1.bool_inv,ZnF ⟨F0,H0,F1,at_.grow x1,λw F2 H2 x2 r2=>k w F2 H2 (x1.trans x2) r2⟩⟩⟩
 ·rename_i q
  cases hd;refine PE.imp (Zra (ha r _ q) ZhD) λσ H Q ⟨F0,H0,F,at_,k⟩=>?_;exact⟨F0,H0,F,at_,λv F1 H1 x1 r1=>⟨false,r1.bool_inv,Zoh (k _ F1 H1 x1 (.bl false))⟩⟩
 ·cases hd
theorem ZtH{t:HM.TF}(hc:XT X c t)(ha:XE X a fa)(hb:XE X b fb):XE X (.IfExp c a b pos) (HM.eIf t fa fb):=by
 intro r d hd;unfold HM.eIf at hd;split at hd
 ·rename_i q
  refine PE.imp (ZnP (hc r _ q) (ha r d hd) ZhD) λσ H Q ⟨F0,H0,F,at_,k⟩=>?_;exact⟨F0,H0,F,at_,λF1 H1 x1=>ZnF ⟨F0,H0,F1,at_.grow x1,λw F2 H2 x2 r2=>k w F2 H2 (x1.trans x2) r2⟩⟩
 ·rename_i q
  refine PE.imp (ZnP (hc r _ q) ZhD (hb r d hd)) λσ H Q ⟨F0,H0,F,at_,k⟩=>?_;exact⟨F0,H0,F,at_,λF1 H1 x1=>Zoh ⟨F0,H0,F1,at_.grow x1,λw F2 H2 x2 r2=>k w F2 H2 (x1.trans x2) r2⟩⟩
 ·cases hd
theorem Zmu{op op':CmpOp}{g g':PyData->PyData->Option PyData}(o:Zf8 X op g)(o':Zf8 X op' g')(ha:XE X a fa)(hb:XE X b fb)(hc:XE X c fc)
  (hm:lastMarks [op,op'] [b,c]=false:=by with_unfolding_all rfl):XE X (.Compare a [op,op'] [b,c] pos) (HM.Zks g g' fa fb fc):=by
 intro r d hd;unfold HM.Zks at hd;obtain⟨R,o1,o2⟩:=o.ex;obtain⟨R',o1',o2'⟩:=o'.ex;split at hd
 ·rename_i x hx
  split at hd
  ·rename_i y hy
   split at hd
   ·rename_i hg
    split at hd
    ·rename_i z hz
     refine PE.imp (Zol o1 o1' (ha r x hx) (hb r y hy) (hc r z hz) hm) λσ H Q ⟨F0,H0,F,at_,k⟩=>?_;refine⟨F0,H0,F,at_,λv F1 H1 x1 r1=>⟨F0,H0,F1,at_.grow x1,λw F2 H2 x2 r2=>?_⟩⟩;refine o2 F2 H2 x y _ v w _ x2.sub hg (r1.mono x2.ff) r2 λu ru=>?_;refine⟨true,ru.bool_inv,ZnF ⟨F0,H0,F2,(at_.grow x1).grow x2,λw' F3 H3 x3 r3=>?_⟩⟩;exact o2' F3 H3 y z d w w' Q x3.sub hd (r2.mono x3.ff) r3 λu' ru'=>k u' F3 H3 ((x1.trans x2).trans x3) ru'
    ·cases hd
   ·rename_i hg
    cases hd;refine PE.imp (Zol o1 o1' (ha r x hx) (hb r y hy) ZhD hm) λσ H Q ⟨F0,H0,F,at_,k⟩=>?_;refine⟨F0,H0,F,at_,λv F1 H1 x1 r1=>⟨F0,H0,F1,at_.grow x1,λw F2 H2 x2 r2=>?_⟩⟩;refine o2 F2 H2 x y _ v w _ x2.sub hg (r1.mono x2.ff) r2 λu ru=>?_;exact⟨false,ru.bool_inv,Zoh (k _ F2 H2 (x1.trans x2) (.bl false))⟩
   ·cases hd
  ·cases hd
 ·cases hd
theorem Ze:XA X [] HM.Zk:=by refine⟨λr ds h=>by cases h; rfl,λr ds h=>?_⟩;cases h;exact PA.imp Zb3 λσ H Q ⟨F0,H0,F,at_,k⟩=>k [] F H at_.refl .nil
theorem Za{es:List Expr}{f:HM.AF}(ha:XE X e fa)(hr:XA X es f)(hs:Zx6 (e::es) X.env=(false,eval e X.env)::Zx6 es X.env:=by rfl):XA X (e::es) (HM.Zb fa f):=by
 refine⟨λr ds h=>?_,λr ds h=>?_⟩
 ·unfold HM.Zb at h
  split at h
  ·obtain⟨xs,h1,h2⟩:=ZxT.mp h
   subst h2;rw[Zx8,Zx8,hr.len r xs h1]
  ·cases h
 unfold HM.Zb at h;split at h
 ·rename_i x hx
  obtain⟨xs,h1,h2⟩:=ZxT.mp h;subst h2;refine PA.imp (ZaI (ha r x hx) (hr.pa r xs h1) hs) λσ H Q ⟨F0,H0,F,at_,k⟩=>?_;exact⟨F0,H0,F,at_,λv F1 H1 x1 r1=>⟨F0,H0,F1,at_.grow x1,λvs F2 H2 x2 r2=>k (v::vs) F2 H2 (x1.trans x2) (.cons (r1.mono x2.ff) r2)⟩⟩
 ·cases h
theorem Zd5{es:List Expr}{f:HM.AF}{x1:Nat}(h:XA X es f)(hl:es.length<=100:=by exact Nat.le_of_ble_eq_true rfl):XE X (.Tuple es x1 pos) (HM.ZdK f):=by
 intro r d hd;obtain⟨ds,h1,h2⟩:=ZxT.mp hd;subst h2;refine PE.imp (Zve (h.pa r ds h1)) λσ H Q ⟨F0,H0,F,at_,k⟩=>⟨F0,H0,F,at_,λvs F1 H1 x1 r1=>⟨?_,λp hp=>?_⟩⟩
 ·have e1:=h.len r ds h1
  have e2:=r1.1;have e3:(100:Nat)<=sizeLine:=by decide
  omega
 ·have hF:F1 p=none:=x1.sub.free hp
  exact k _ (upd F1 p (.tup vs)) _ (x1.lay hp) (.tup ZF r1.1 (r1.mono (Zp.upd' hF)).2)
theorem Zcq{es:List Expr}{f:HM.AF}(h:XA X es f)(hl:es.length<=100:=by exact Nat.le_of_ble_eq_true rfl):XF X (.List es pos) (HM.Zdg f):=by
 intro r d hd;obtain⟨ds,h1,h2⟩:=ZxT.mp hd;subst h2;refine PE.imp (Zu9 (h.pa r ds h1)) λσ H Q ⟨F0,H0,F,at_,k⟩=>⟨F0,H0,F,at_,λvs F1 H1 x1 r1=>⟨?_,λp hp=>?_⟩⟩
 ·have e1:=h.len r ds h1
  have e2:=r1.1;have e3:(100:Nat)<=sizeLine:=by decide
  omega
 ·have hF:F1 p=none:=x1.sub.free hp
  refine k _ F1 _ (x1.lay' hp) ⟨[p],.ol ZF r1,by simp,λa ha=>?_⟩;have:a=p:=by simpa using ha
  subst this;exact⟨hF,x1.hh.free hp⟩
end
end HP
namespace HP
open PySem PySem.Spec PyProof.Rows L2
variable[FX]
section
variable{X:Cx}{a b c e:Expr}{fa fb fc:HM.EF}{pos p:Pos}{st:Stmt}{rest:List Stmt}{g u:HM.SF}
theorem Zix(h:X.xe=λ_ _=>False):PassesOwn (model X.prog X.w) X.A X.env X.xe:=by rw[h]; exact PassesOwn.never
theorem Z5:XSs X [] HM.ZaJ:=by intro r o h;cases h;exact PSs.imp Zul λE σ H ⟨F0,H0,F,at_,k⟩=>k σ F H at_
theorem Zl(h:XS X st g):XSs X [st] g:=λr o ho=>ZpB (h r o ho)
theorem Zh(h1:XS X st g)(h2:XSs X rest u):XSs X (st::rest) (HM.Zo g u):=by
  intro r o h
  unfold HM.Zo at h
  split at h
  · rename_i r' q
    refine PSs.imp (Zhq (h1 r _ q) (h2 r' o h)) λE σ H ⟨F0,H0,F,at_,k⟩=>?_
    exact⟨F0,H0,F,at_,λσ' F' H' at'=>⟨F0,H0,F',at',k⟩⟩
  all_goals first
    | cases h
      rename_i q
      refine PSs.imp (Zhq (h1 r _ q) Zgj) λE σ H ⟨F0,H0,F,at_,k⟩=>?_
      exact⟨F0,H0,F,at_,k⟩
    | cases h
theorem ZfC:XS X st HM.Zg8:=λr o h=>nomatch h
theorem Zw(h:XE X e fa):XS X (.Return (some e) pos) (HM.ZC fa):=by intro r o ho;obtain⟨d,h1,h2⟩:=ZxT.mp ho;subst h2;refine PS.imp (Zom (h r d h1)) λE σ H ⟨F0,H0,F,at_,k⟩=>?_;exact⟨F0,H0,F,at_,λv F' H' x q=>k v F' H' (at_.ext.trans x) q⟩
theorem Zbo(h:XE X e fa)(hs:Zz6 e none pos.line X.env=pure false:=by rfl):XS X (.Expr e pos) (HM.Zcj fa):=by intro r o ho;obtain⟨d,h1,h2⟩:=ZxT.mp ho;subst h2;refine PS.imp (Zi1 (h r d h1) hs) λE σ H ⟨F0,H0,F,at_,k⟩=>?_;exact⟨F0,H0,F,at_,λv F' H' x q=>k σ F' H' (at_.grow x)⟩
theorem Za0{t:HM.TF}{sa sb:List Stmt}(hc:XT X c t)(ha:XSs X sa g)(hb:XSs X sb u):XS X (.If c sa sb pos) (HM.sIf t g u):=by
 intro r o ho;unfold HM.sIf at ho;split at ho
 ·rename_i q
  refine PS.imp (ZtL (hc r _ q) (ha r o ho) Zgj) λE σ H ⟨F0,H0,F,at_,k⟩=>?_;exact⟨F0,H0,F,at_,λF' H' x=>ZnF ⟨F0,H0,F',at_.grow x,k⟩⟩
 ·rename_i q
  refine PS.imp (ZtL (hc r _ q) Zgj (hb r o ho)) λE σ H ⟨F0,H0,F,at_,k⟩=>?_;exact⟨F0,H0,F,at_,λF' H' x=>Zoh ⟨F0,H0,F',at_.grow x,k⟩⟩
 ·cases ho
theorem ZeY(i:Nat)(h:XS X st g):XS X st (HM.ZgO i g):=by intro r o ho;refine PS.imp (h (HM.ZkD i r) o ho) λE σ H ⟨F0,H0,F,at_,k⟩=>?_;obtain⟨F',_,_,a'⟩:=at_.freeze i;exact⟨F0,H0,F',a',k⟩
theorem ZT(i:Nat){x:Str}{p':Pos}(hN:X.N.Nodup)(h:XE X e fa)(hi:X.N[i]?=some x:=by rfl)(hx:Loc X.env.scope x:=by first | exact ZyP rfl | exact Zyx rfl)
  (hs:Zz6 e (some (.Name x p')) pos.line X.env=pure false:=by rfl) (hf:X.fn x=true\/X.env.scope.names.lookup x=some .local:=by first | exact .inl rfl | exact .inr rfl) :
  XS X (.Assign [.Name x p'] e pos) (HM.Zai i fa):=by
 intro r o ho;obtain⟨d,h1,h2⟩:=ZxT.mp ho;subst h2;refine PS.imp (Znu hN hi hx (h r d h1) hs hf) λE σ H ⟨F0,H0,F,at_,k⟩=>?_;exact⟨F0,H0,F,at_,λv F' H' x q=>k _ F' H' ((at_.grow x).set q)⟩
theorem Zbd(i:Nat){x:Str}{p':Pos}{f:HM.BF}(hN:X.N.Nodup)(h:XF X e f)(hi:X.N[i]?=some x:=by rfl)(hx:Loc X.env.scope x:=by first | exact ZyP rfl | exact Zyx rfl)
  (hs:Zz6 e (some (.Name x p')) pos.line X.env=pure false:=by rfl) (hf:X.fn x=true\/X.env.scope.names.lookup x=some .local:=by first | exact .inl rfl | exact .inr rfl) :
  XS X (.Assign [.Name x p'] e pos) (HM.Z8 i f):=by
 intro r o ho;obtain⟨d,h1,h2⟩:=ZxT.mp ho;subst h2;refine PS.imp (Znu hN hi hx (h r d h1) hs hf) λE σ H ⟨F0,H0,F,at_,k⟩=>?_;exact⟨F0,H0,F,at_,λv F' H' x ⟨fp,q,nd,hn⟩=>k _ F' H' ((at_.grow x).storeNew at_ x.hh q nd hn)⟩
theorem Zcr(i:Nat){x:Str}{p':Pos}{iter:Expr}{body:List Stmt}{fi:HM.IF}(hN:X.N.Nodup)(hxe:X.xe=λ_ _=>False)(hc:X.calm=true)(hi:XI X (.Name x p') iter fi)(hb:XSs X body g)(hix:X.N[i]?=some x:=by rfl)
  (hx:Loc X.env.scope x:=by first | exact ZyP rfl | exact Zyx rfl) (hf:X.fn x=true\/X.env.scope.names.lookup x=some .local:=by first | exact .inl rfl | exact .inr rfl)
  (hs:∀x,Zzh iter X.env x=pure x:=by intro _; rfl):XS X (.For (.Name x p') iter body [] pos) (HM.ZbF i fi g):=by
 intro r o ho;unfold HM.ZbF at ho;split at ho
 ·rename_i ds hds
  split at ho
  ·rename_i hbig
   have pb:PSs X body (λE σ H=>∃r o,g r=some o/\tSt X.K r o E σ H):=λpins s σ H E I ⟨r,o,h1,h2⟩=>hb r o h1 pins s σ H E I h2;refine PS.imp (Zsc (Zix hxe) hc (hi r ds hds) (Zfx hN hix hx hf) pb hs) λE σ H ⟨F0,H0,F,at_,k⟩=>?_;refine⟨F0,H0,F,at_,λJ F1 H1 x1 it=>?_⟩;refine⟨λn m σ H=>∃F r,At X.K F0 H0 F H r σ/\Zp F1 F/\n+m=ds.length/\HM.ZaG i g (ds.drop n) r=some o,⟨ds.length,F1,r,at_.grow x1,Zp.refl _,by omega,ho⟩,?_⟩
   rintro n m σ H ⟨F2,r2,at2,s2,hn,go⟩
   obtain⟨it1,it2⟩:=it F2 H s2 at2.sub;cases m with
   | zero =>
    have e:n=ds.length:=by omega
    subst e;rw[ZBT]at go;cases go;exact .inl ⟨it2,k σ F2 H at2⟩
   | succ m =>
    have hlt:n<ds.length:=by omega
    rw[ZAE hlt]at go;obtain⟨j1,j2⟩:=it1 n ds[n] (Zx5 hlt);refine .inr ⟨j1,λσ' H'=>∃F r,At X.K F0 H0 F H' r σ'/\Zp F1 F/\HM.ZaG i g (ds.drop (n+1)) r=some o,λσ' H' ⟨F,r,a1,a2,a3⟩=>⟨m,by omega,F,r,a1,a2,by omega,a3⟩,λy H' hy=>?_⟩;obtain⟨e1,ry⟩:=j2 y H' hy;subst e1;obtain⟨F3,at3,s3,ry⟩:∃F3,At X.K F0 H0 F3 H' r2 σ/\Zp F1 F3/\Rep X.K F3 ds[n] y:=⟨_,at2.grow at2.refl.tups,s2.trans (Zc1 at2.sub),ry⟩;have a3:=at3.set (i:=i) ry;have a4:=a3.rebase;unfold HM.ZaG at go;split at go
    ·rename_i r' hr
     exact⟨_,_,hr,F3,H0,F3,a4,λσ' F' H' a'=>⟨F',r',a'.unbase at3.ext at3.nt0,s3.trans a'.ext.ff,go⟩⟩
    ·rename_i r' hr
     exact⟨_,_,hr,F3,H0,F3,a4,λσ' F' H' a'=>⟨F',r',a'.unbase at3.ext at3.nt0,s3.trans a'.ext.ff,go⟩⟩
    ·rename_i r' hr
     cases go;exact⟨_,_,hr,F3,H0,F3,a4,λσ' F' H' a'=>k σ' F' H' (a'.unbase at3.ext at3.nt0)⟩
    ·rename_i d hr
     cases go;exact⟨_,_,hr,F3,H0,F3,a4,λv F' H' x q=>k v F' H' (at3.ext.unbase x) q⟩
    ·cases go
  ·cases ho
 ·cases ho
end
def spD(K:ZxR)(n:Nat)(M:List PyData->Option PyData):Sp:=λvs H Q _=>∃F ds d,vs.length=n/\Zp F H/\Tb H/\NoT F/\Zu K F ds vs/\M ds=some d/\∀v F' H',Ext F H F' H'->Rep K F' d v->Q v H'
structure Callee(P:Program)(w:World)(K:ZxR)(mg:Str->Option Value)(base:Heap)(k:Nat)(x:Str)(M:List PyData->Option PyData):Prop where
 ex:∃f fd ps,(∀ds d,M ds=some d->ds.length=ps.length)/\Zde P w K mg base CX0 k f fd ps (spD K ps.length M)/\mg x=some (.ref f)/\Zzd K (.ref f)=true/\Binds K fd ps []
theorem Callee.mono{P:Program}{w:World}{K:ZxR}{mg:Str->Option Value}{base:Heap}{j k:Nat}{x:Str}{M:List PyData->Option PyData}(C:Callee P w K mg base j x M)(h:j<=k):Callee P w K mg base k x M:=by obtain⟨f,fd,ps,l,F,r⟩:=C.ex;exact⟨f,fd,ps,l,F.mono h,r⟩
section
variable{X:Cx}{pos p:Pos}{e:Expr}{es:List Expr}{f:HM.AF}
theorem Zg{k:Nat}{x:Str}{M:List PyData->Option PyData}(C:Callee X.prog X.w X.K X.mg X.base k x M)(hr:Zaq k X.A)(ha:XA X (e::es) f)(hg:Gl X x:=by rfl)(hdb:(x==("__debug__":Str))=false:=by decide)
  (he:Zx6 (e::es) X.env=(false,eval e X.env)::Zx6 es X.env:=by rfl) (hpl:(backTo pos (Zx6 es X.env)).any (·.1)=false:=by rfl):XE X (.Call (.Name x p) (e::es) [] pos) (HM.Zj M f):=by
 intro r d hd;unfold HM.Zj at hd;split at hd
 ·rename_i ds hds
  obtain⟨fa,fd,ps,hl,F,hm,hk,hb⟩:=C.ex;refine PE.imp (Zk4 (E:=E0) F hr hg hm hk hb .nil Zqd (ha.pa r ds hds) hdb he hpl) λσ H Q ⟨F0,H0,F1,at_,k⟩=>?_;refine⟨F0,H0,F1,at_,λvs F' H' x q=>?_⟩;show spD X.K ps.length M (vs++[]) H' Q E0;rw[Zyu];exact⟨F',ds,d,by rw[<-q.1]; exact hl ds d hd,x.sub,at_.tbx x,at_.ntx x,q,hd,λv F2 H2 x2 q2=>k v F2 H2 (x.trans x2) q2⟩
 ·cases hd
end
theorem ZfY{K:ZxR}{F H:Hp}{N:List Str}{ds:List PyData}{vs:List V}(s:Zp F H)(tb:Tb H)(nt:NoT F)(q:Zu K F ds vs)(hl:ds.length<=N.length):At K F H F H (HM.ZeD N.length ds) (L2.start N vs):=by
 have hv:=q.1;refine⟨λ_=>[],.refl s,?_,λi b h=>?_,λ_ _=>rfl,λi a h=>by simp at h,λ_=>ZzE,λi j a _ h=>by simp at h,tb,nt⟩
 ·unfold HM.ZeD L2.start
  rw[Zyc,Zyc,ZxS,ZxS,ZyC,ZyC,hv]
 ·unfold HM.ZeD at h
  by_cases hi:i<ds.length
  ·rw[ZyE (by rw[ZxS]; exact hi),Zyk,Zx5 hi]at h
   cases h;obtain⟨v,h1,h2⟩:=q.get (Zx5 hi);refine⟨v,?_,.pl h2⟩;unfold L2.start;rw[ZyE (by rw[ZxS,<-hv]; exact hi),Zyk,h1];rfl
  ·rw[ZyA (by rw[ZxS]; omega),ZAf]at h
   split at h<;>cases h
theorem Zph{P:Program}{w:World}{K:ZxR}{mg:Str->Option Value}{base:Heap}{k:Nat}{x qual:Str}{st:Stmt}{f:Addr}{fd:FuncData}{N ps:List Str}{g:HM.SF}(Fn:Fun K x qual st f fd)(S:Zs N ps (Zf st))
  (body:∀(cdv:Value) (A:Around) (outer:List Env) (s:Shared) (H:Hp) (E:XK),Zaq k (A.deeper (envOfC qual (Zf st) s.heap.objs.size f cdv))->XSs (Zf4 CX0 P w K mg base N qual (Zf st) f cdv A outer s H E).nox (Za2 st) g) :
  Zde P w K mg base CX0 (k+1) f fd ps (spD K ps.length (HM.fnOf ps.length N.length g)):=by
 have hpl:ps.length<=N.length:=by have:=congrArg ZyB S.pre; rw[Zzp]at this; omega
 refine Fn.ok S (λvs H Q E h=>?_) (λcdv A outer s H vs Q E hr h=>?_)
 ·obtain⟨_,_,_,h,_⟩:=h
  exact h
 ·obtain⟨F,ds,d,hl,sub,tb,nt,q,hM,kk⟩:=h
  unfold HM.fnOf at hM;split at hM
  ·rename_i hds
   have a0:=ZfY (N:=N) sub tb nt q (by omega);split at hM
   ·rename_i r hr'
    cases hM;exact⟨_,body cdv A outer s H E hr _ _ hr',F,H,F,a0,λσ F' H' a'=>kk .non F' H' a'.ext .non⟩
   ·rename_i d' hr'
    cases hM;exact⟨_,body cdv A outer s H E hr _ _ hr',F,H,F,a0,λv F' H' x q=>kk v F' H' x q⟩
   ·cases hM
  ·cases hM
theorem Zq{P:Program}{w:World}{K:ZxR}{mg:Str->Option Value}{base:Heap}{k:Nat}{x qual:Str}{st:Stmt}{f:Addr}{fd:FuncData}{N ps:List Str}{g:HM.SF}(Fn:Fun K x qual st f fd)(S:Zs N ps (Zf st))(hm:mg x=some (.ref f))(hb:Binds K fd ps [])
  (body:∀(cdv:Value) (A:Around) (outer:List Env) (s:Shared) (H:Hp) (E:XK),Zaq k (A.deeper (envOfC qual (Zf st) s.heap.objs.size f cdv))->XSs (Zf4 CX0 P w K mg base N qual (Zf st) f cdv A outer s H E).nox (Za2 st) g) :
  Callee P w K mg base (k+1) x (HM.fnOf ps.length N.length g):=by
 refine⟨f,fd,ps,λds d h=>?_,Zph Fn S body,hm,Fn.kp,hb⟩;unfold HM.fnOf at h;split at h
 ·assumption
 ·cases h
end HP
namespace HP
open PySem PySem.Spec PyProof.Rows L2
variable[FX]
section
variable{X:Cx}{a b c e:Expr}{fa fb fc:HM.EF}{pos p:Pos}
theorem ZfZ{h:Int->Int->Option PyData}{x y z:PyData}(e:HM.Zfc h x y=some z):∃i j,x=.int i/\y=.int j/\h i j=some z:=by
 unfold HM.Zfc at e;split at e
 ·exact⟨_,_,rfl,rfl,e⟩
 ·cases e
theorem ZnN{K:ZxR}{g:Int->Int->V}{h:Int->Int->PyData}(hr:∀F i j,Rep K F (h i j) (g i j)):Bin K (rI0 g) (HM.Zfc λi j=>some (h i j)):=by intro F H x y z v w Q s e r1 r2 k;obtain⟨i,j,rfl,rfl,e⟩:=ZfZ e;cases e;exact⟨i,j,r1.int_inv,r2.int_inv,k _ (hr F i j)⟩
theorem ZbN:ZnZ X .Add HM.Zbb:=⟨_,Zwb,ZnN λ_ _ _=>.int _⟩
theorem Zqw:ZnZ X .Sub HM.Zkc:=⟨_,Zwj,ZnN λ_ _ _=>.int _⟩
theorem Zes:ZnZ X .Mult HM.Zb4:=by
 refine⟨_,ZvC,λF H x y z v w Q s e r1 r2 k=>?_⟩;obtain⟨i,j,rfl,rfl,e'⟩:=ZfZ e;split at e'
 ·rename_i hs
  cases e';refine⟨i,j,r1.int_inv,r2.int_inv,?_,k _ (.int _)⟩;unfold HM.Z0 at hs;rw[Zzm,ZAN,ZAN]at hs;unfold Zqk;omega
 ·cases e'
theorem oMod:ZnZ X .Mod HM.ZjQ:=by
 refine⟨_,Zwm,λF H x y z v w Q s e r1 r2 k=>?_⟩;obtain⟨i,j,rfl,rfl,e'⟩:=ZfZ e;split at e'
 ·rename_i hs
  cases e';exact⟨i,j,r1.int_inv,r2.int_inv,hs,k _ (.int _)⟩
 ·cases e'
theorem cLt:Zf8 X .Lt HM.gLt:=⟨⟨_,ZwH,ZnN λ_ _ _=>.bl _⟩,by decide,by decide⟩
theorem cLe:Zf8 X .LtE HM.gLe:=⟨⟨_,ZwG,ZnN λ_ _ _=>.bl _⟩,by decide,by decide⟩
theorem cGt:Zf8 X .Gt HM.gGt:=⟨⟨_,ZwT,ZnN λ_ _ _=>.bl _⟩,by decide,by decide⟩
theorem Rep.non_iff{K:ZxR}{F:Hp}{d:PyData}{v:V}(h:Rep K F d v):decide (v=.non)=match d with | .none=>true | _=>false:=by cases h<;>first | rfl | exact decide_eq_false (λz=>nomatch z)
theorem Zv0:Zf8 X .Is HM.ZqA:=by
 refine⟨⟨_,ZvS,λF H x y z v w Q s e r1 r2 k=>?_⟩,by decide,by decide⟩;unfold HM.ZqA at e;split at e
 ·refine⟨r2.none_inv,k _ ?_⟩
  rw[r1.non_iff];split at e
  ·cases e; exact .bl _
  ·rename_i hx
   cases e;cases x<;>first | exact .bl _ | exact absurd rfl hx
 ·cases e
theorem Zms:Zf8 X .IsNot HM.Zfu:=by
 refine⟨⟨_,Zua,λF H x y z v w Q s e r1 r2 k=>?_⟩,by decide,by decide⟩;unfold HM.Zfu at e;split at e
 ·refine⟨r2.none_inv,k _ ?_⟩
  rw[r1.non_iff];split at e
  ·cases e; exact .bl _
  ·rename_i hx
   cases e;cases x<;>first | exact .bl _ | exact absurd rfl hx
 ·cases e
theorem ZgQ{h:Heap}:∀{ds:List PyData} {us:List Value},ds.length=us.length->(∀(i:Nat) d u,ds[i]?=some d->us[i]?=some u->∃as,Reads h u d as)->∃as,ReadsAll h us ds as
 | [],[],_,_=>⟨[],.nil⟩
 | [],_::_,hl,_=>by simp at hl
 | _::_,[],hl,_=>by simp at hl
 | d::ds,u::us,hl,k=>by obtain⟨as,h1⟩:=k 0 d u rfl rfl;obtain⟨bs,h2⟩:=ZgQ (ds:=ds) (us:=us) (by simpa using hl) λi d u e1 e2=>k (i+1) d u (by simpa using e1) (by simpa using e2);exact⟨_,.cons h1 h2⟩
theorem ZpA:∀{ds:List PyData},ZAp ds=true->∀{i:Nat} {d:PyData},ds[i]?=some d->d.canLay0=true
 | [],_,i,d,e=>by simp at e
 | x::ds,h,i,d,e=>by
  have h':(x.canLay0&&ZAp ds)=true:=h;rw[Zyd]at h';cases i with
  | zero=>rw[ZAg]at e; cases e; exact h'.1
  | succ i=>rw[Zyw]at e; exact ZpA h'.2 e
theorem ZnM{ds:List PyData}(h:ZAp ds=true){i:Nat}{d:PyData}(e:ds[i]?=some d):d.canLay0=true:=ZpA h e
theorem Rep.reads{pins:List (Addr × Obj)}{s:Shared}{σ:L2.St}{H F:Hp}{d:PyData}{v:V}(I:Inv X pins σ H s)(sub:Zp F H)(r:Rep X.K F d v):d.canLay0=true->∀u,RelV v u->∃as,Reads s.heap u d as:=by
 induction r with
 | non=>intro _ u ru; cases ru; exact⟨[],.none⟩
 | bl b=>intro _ u ru; cases ru; exact⟨[],.bool b⟩
 | int i=>intro _ u ru; obtain⟨t,rfl⟩:=ru; exact⟨[],.int i t⟩
 | str x=>intro _ u ru; obtain⟨t,rfl⟩:=ru; exact⟨[],.str x t⟩
 | dct _ _ _ _ _=>intro z; cases z
 | fn _=>intro z; cases z
 | @tupk a x h=>intro z u ru;cases ru;obtain⟨its,rv,⟨o,ho,hc,n,hd⟩,_⟩:=I.tuple (.inr h);obtain⟨u,rfl,t,rfl⟩:=rv.one;exact⟨_,.tuple ho hc hd (by simpa using ReadsAll.cons (.str x t) .nil)⟩
 | @tup a ds vs h hl _ ih =>
  intro z u ru;cases ru;obtain⟨its,rv,⟨o,ho,hc,n,hd⟩,_⟩:=I.tuple (.of (sub _ _ h));obtain⟨as,hr⟩:=ZgQ (h:=s.heap) (ds:=ds) (us:=its) (hl.trans rv.length) λi d u e1 e2=>by
   have hi:i<vs.length:=by rw[<-hl]; exact(Zx4.mp e1).1
   obtain⟨u',q1,q2⟩:=rv.get (Zx5 hi);rw[e2]at q1;cases q1;exact ih i d _ e1 (Zx5 hi) (ZnM z e1) u q2
  exact⟨_,.tuple ho hc hd (by simpa using hr)⟩
 | @lst a ds vs h hl _ ih =>
  intro z u ru;cases ru;obtain⟨its,rv,⟨o,n,ho,hc,_,hd⟩,_⟩:=I.list (sub.seq h);obtain⟨as,hr⟩:=ZgQ (h:=s.heap) (ds:=ds) (us:=its) (hl.trans rv.length) λi d u e1 e2=>by
   have hi:i<vs.length:=by rw[<-hl]; exact(Zx4.mp e1).1
   obtain⟨u',q1,q2⟩:=rv.get (Zx5 hi);rw[e2]at q1;cases q1;exact ih i d _ e1 (Zx5 hi) (ZnM z e1) u q2
  exact⟨_,.list ho hc hd (by simpa using hr)⟩
def Zvp(K:ZxR)(neg:Bool):R2:=λv w H Q=>∃F x y,Zp F H/\Rep K F x v/\Rep K F y w/\HM.Zan x=true/\HM.Zan y=true/\Q (.bl (if neg then !PyData.eqv x y else ZyW x y)) H
theorem Zdq{d:PyData}(h:HM.Zan d=true):d.canLay0=true/\d.depth<=60:=by unfold HM.Zan at h;simpa using h
theorem Zwz{k:Nat}(hr:Zaq k X.A):OpR X (ZyY .Eq) (Zvp X.K false):=by intro pins s σ H v w u u' Q I r1 r2 ⟨F,x,y,sub,q1,q2,p1,p2,q⟩;obtain⟨a1,a2⟩:=Zdq p1;obtain⟨b1,b2⟩:=Zdq p2;obtain⟨as,h1⟩:=q1.reads I sub a1 u r1;obtain⟨bs,h2⟩:=q2.reads I sub b1 u' r2;refine PySem.SeqAt.eqOverData X.prog X.w X.A X.xe s u u' x y as bs _ h1 h2 a1 b1 ?_ ⟨.bl _,H,I,rfl,q⟩;have:=hr.un;have:min x.depth y.depth<=60:=ZyG (ZB3 _ _) a2;omega
theorem ZwD{k:Nat}(hr:Zaq k X.A):OpR X (ZyY .NotEq) (Zvp X.K true):=by intro pins s σ H v w u u' Q I r1 r2 ⟨F,x,y,sub,q1,q2,p1,p2,q⟩;obtain⟨a1,a2⟩:=Zdq p1;obtain⟨b1,b2⟩:=Zdq p2;obtain⟨as,h1⟩:=q1.reads I sub a1 u r1;obtain⟨bs,h2⟩:=q2.reads I sub b1 u' r2;refine PySem.SeqAt.neOverData X.prog X.w X.A X.xe s u u' x y as bs _ h1 h2 a1 b1 ?_ ⟨.bl _,H,I,rfl,q⟩;have:=hr.un;have:min x.depth y.depth<=60:=ZyG (ZB3 _ _) a2;omega
theorem cEq{k:Nat}(hr:Zaq k X.A):Zf8 X .Eq HM.gEq:=by
 refine⟨⟨_,Zwz hr,λF H x y z v w Q s e r1 r2 k=>?_⟩,by decide,by decide⟩;unfold HM.gEq at e;split at e
 ·rename_i hp
  cases e;rw[Zyd]at hp;exact⟨F,x,y,s,r1,r2,hp.1,hp.2,k _ (.bl _)⟩
 ·cases e
theorem cNe{k:Nat}(hr:Zaq k X.A):Zf8 X .NotEq HM.gNe:=by
 refine⟨⟨_,ZwD hr,λF H x y z v w Q s e r1 r2 k=>?_⟩,by decide,by decide⟩;unfold HM.gNe at e;split at e
 ·rename_i hp
  cases e;rw[Zyd]at hp;exact⟨F,x,y,s,r1,r2,hp.1,hp.2,k _ (.bl _)⟩
 ·cases e
theorem Zf7{K:ZxR}{F H:Hp}{q:HM.B}{v:V}{fp:List Addr}{ds:List PyData}(sub:Zp F H)(r:Zak K F H q v fp)(h:HM.Zcm q=some ds):∃a vs,v=.ref a/\(SqL K H a vs\/SqT K H a vs)/\Zu K F ds vs:=by
 cases r with
 | pl r =>
  cases r with
  | tup h1 h2 h3=>cases h; exact⟨_,_,rfl,.inr (.of (sub _ _ h1)),h2,h3⟩
  | @tupk a x h1=>cases h; exact⟨_,_,rfl,.inr (.inr h1),.one (.str x)⟩
  | lst h1 h2 h3=>cases h; exact⟨_,_,rfl,.inl (sub.seq h1),h2,h3⟩
  | dct _ _ _ _=>cases h
  | fn _=>cases h
  | non=>cases h
  | bl _=>cases h
  | int _=>cases h
  | str _=>cases h
 | ol h1 r=>cases h; exact⟨_,_,rfl,.inl (.of h1),r⟩
 | ok _ _ _=>cases h
 | hd _ _ _ _=>cases h
 | hf _=>cases h
 | ot _ _ _=>cases h
 | otl _ _ _ _=>cases h
theorem ZtW{K:ZxR}{F:Hp}{ds:List PyData}{vs:List V}{i:Int}{d:PyData}(r:Zu K F ds vs)(h:HM.atD ds i=some d):∃v,atI vs i=some v/\Rep K F d v:=by
 unfold HM.atD at h;split at h
 ·rename_i j hj
  obtain⟨v,h1,h2⟩:=r.get h;refine⟨v,?_,h2⟩;unfold atI;rw[<-r.1,show ixN ds.length i=some j from hj];exact h1
 ·cases h
theorem Zas{fb':HM.BF}(ha:XB X a fb')(hb:XE X b fb)(hs:ZpL b:=by intro _ _; rfl):XE X (.Subscript a b pos) (HM.eIx fb' fb):=by
 intro r d h;unfold HM.eIx at h;split at h
 ·rename_i x hx
  split at h
  ·rename_i ds hds
   split at h
   ·rename_i i hi
    refine PE.imp (Zwv ZvW (ha r x hx) (hb r _ hi) hs) λσ H Q ⟨F0,H0,F,at_,k⟩=>?_;refine⟨F0,H0,F,at_,λv F1 H1 x1 ⟨fp,r1⟩=>⟨F0,H0,F1,at_.grow x1,λw F2 H2 x2 r2=>?_⟩⟩;obtain⟨l,vs,e1,hq,rs⟩:=Zf7 x2.sub (r1.mono x2.ff λ_ _ _ z=>x2.hh _ _ z) hds;obtain⟨u,hu,ru⟩:=ZtW rs h;have fin:=k u F2 H2 (x1.trans x2) ru;rcases hq with hq | hq
    ·exact .inl ⟨l,vs,i,u,e1,r2.int_inv,hq,hu,fin⟩
    ·exact .inr (.inl ⟨l,vs,i,u,e1,r2.int_inv,hq,hu,fin⟩)
   ·cases h
  ·cases h
 ·cases h
def PAB(X:Cx)(e:Expr)(r:HM.Env)(q:HM.B):Prop:=PA X [e] λσ H Q=>Now X.K r σ H λF0 H0 F=>∀v fp F' H',Ext F H F' H'->Zak X.K F' H' q v fp->Q [v] H'
theorem Ze3{f:HM.BF}{r:HM.Env}{q:HM.B}(ha:XB X e f)(h:f r=some q)(hs:Zx6 [e] X.env=[(false,eval e X.env)]:=by rfl):PAB X e r q:=by refine PA.imp (ZaI (ha r q h) Zb3 hs) λσ H Q ⟨F0,H0,F,at_,k⟩=>?_;exact⟨F0,H0,F,at_,λv F1 H1 x1 ⟨fp,r1⟩=>k v fp F1 H1 x1 r1⟩
end
end HP
namespace HP
open PySem PySem.Spec PyProof.Rows L2
variable[FX]
theorem Zwf:ZyN "all" = some (.builtin "all"):=by decide +kernel
theorem Zu7:ZyN "len" = some (.builtin "len"):=by decide +kernel
theorem Zrt:ZyN "max" = some (.builtin "max"):=by decide +kernel
theorem ZrF:ZyN "min" = some (.builtin "min"):=by decide +kernel
theorem ZlA:ZyN "sorted" = some (.builtin "sorted"):=by decide +kernel
theorem Zml:ZyN "isinstance" = some (.builtin "isinstance"):=by decide +kernel
theorem Zn0:ZyN "int" = some (.type "int"):=by decide +kernel
theorem ZuP:ZyN "bool" = some (.type "bool"):=by decide +kernel
theorem Zpc:ZyN "list" = some (.type "list"):=by decide +kernel
theorem ZjR:ZyN "tuple" = some (.type "tuple"):=by decide +kernel
theorem ZvD:ZyN "set" = some (.type "set"):=by decide +kernel
section
variable{X:Cx}{a b c e:Expr}{fa fb fc:HM.EF}{pos p:Pos}{f:HM.BF}
theorem ZbV(hm:X.mg "len" = none)(ha:XB X a f)(hg:Gl X "len":=by rfl)(hs:Zx6 [a] X.env=[(false,eval a X.env)]:=by rfl):XE X (.Call (.Name "len" p) [a] [] pos) (HM.Zbg f):=by
 intro r d h;unfold HM.Zbg at h;split at h
 ·rename_i x hx
  obtain⟨n,h1,h2⟩:=ZxT.mp h;subst h2;refine PE.imp (Zdh (ZnE.or Zrw) hg hm Zu7 (Ze3 ha hx hs) (he:=hs)) λσ H Q ⟨F0,H0,F,at_,k⟩=>?_;refine⟨F0,H0,F,at_,λv fp F1 H1 x1 r1=>?_⟩;have fin:=λ(m:Nat) (e:m=n)=>k (.int m) F1 H1 x1 (by rw[e]; exact .int _);cases r1 with
  | pl q =>
   cases q with
   | tup q1 q2 q3=>cases h1; exact .inl ⟨_,_,rfl,.inr (.of (x1.sub _ _ q1)),fin _ q2.symm⟩
   | tupk q1=>cases h1; exact .inl ⟨_,_,rfl,.inr (.inr q1),fin _ rfl⟩
   | lst q1 q2 q3=>cases h1; exact .inl ⟨_,_,rfl,.inl (x1.sub.seq q1),fin _ q2.symm⟩
   | dct _ _ _ _=>cases h1
   | fn _=>cases h1
   | non=>cases h1
   | bl _=>cases h1
   | int _=>cases h1
   | str _=>cases h1
  | ol q1 q2=>cases h1; exact .inl ⟨_,_,rfl,.inl (.of q1),fin _ q2.1.symm⟩
  | ok q1 q2 q3=>cases h1;refine .inr ⟨_,_,rfl,q1,fin _ ?_⟩;have:=congrArg ZyB q2;rw[ZxS,ZxS]at this;exact this.symm
  | ot _ _ _=>cases h1
  | otl _ _ _ _=>cases h1
  | hd _ _ _ _=>cases h1
  | hf _=>cases h1
 ·cases h
theorem Za1(hm:X.mg "tuple" = none)(ha:XB X a f)(hg:Gl X "tuple":=by rfl)(hs:Zx6 [a] X.env=[(false,eval a X.env)]:=by rfl):XE X (.Call (.Name "tuple" p) [a] [] pos) (HM.Zba f):=by
 intro r d h;unfold HM.Zba at h;split at h
 ·rename_i x hx
  obtain⟨ds,h1,h2⟩:=ZxT.mp h;subst h2;refine PE.imp (Zdf Zmh hg hm ZjR (Ze3 ha hx hs) (he:=hs)) λσ H Q ⟨F0,H0,F,at_,k⟩=>?_;refine⟨F0,H0,F,at_,λv fp F1 H1 x1 r1=>?_⟩;have new:∀(vs:List V),Zu X.K F1 ds vs->∀l,H1 l=none->Q (.ref l) (upd H1 l (.tup vs)):=λvs q l hl=>k _ (upd F1 l (.tup vs)) _ (x1.lay hl) (.tup ZF q.1 (q.mono (Zp.upd' (x1.sub.free hl))).2);cases r1 with
  | pl q =>
   cases q with
   | tup q1 q2 q3=>cases h1; exact⟨_,_,rfl,.inr ⟨.of (x1.sub _ _ q1),k _ F1 H1 x1 (.tup q1 q2 q3)⟩⟩
   | tupk q1=>cases h1; exact⟨_,_,rfl,.inr ⟨.inr q1,k _ F1 H1 x1 (.tupk q1)⟩⟩
   | lst q1 q2 q3=>cases h1; exact⟨_,_,rfl,.inl ⟨x1.sub.seq q1,new _ ⟨q2,q3⟩⟩⟩
   | dct _ _ _ _=>cases h1
   | fn _=>cases h1
   | non=>cases h1
   | bl _=>cases h1
   | int _=>cases h1
   | str _=>cases h1
  | ol q1 q2=>cases h1; exact⟨_,_,rfl,.inl ⟨.of q1,new _ q2⟩⟩
  | ok _ _ _=>cases h1
  | ot _ _ _=>cases h1
  | otl _ _ _ _=>cases h1
  | hd _ _ _ _=>cases h1
  | hf _=>cases h1
 ·cases h
theorem ZeK{K:ZxR}{F H F1 H1:Hp}{ds:List PyData}{vs:List V}{l:Addr}{P:V->Hp->Hp->Prop}(x1:Ext F H F1 H1)(q:Zu K F1 ds vs)(hl:H1 l=none)
  (k:∀v F' H',Ext F H F' H'->(∃fp,Zak K F' H' (.ol ds) v fp/\fp.Nodup/\∀a∈fp,F' a=none/\H a=none)->P v F' H'):P (.ref l) F1 (upd H1 l (.lst vs)):=by
 refine k _ F1 _ (x1.lay' hl) ⟨[l],.ol ZF q,by simp,λa ha=>?_⟩;have:a=l:=by simpa using ha
 subst this;exact⟨x1.sub.free hl,x1.hh.free hl⟩
theorem Zlk(hm:X.mg "list" = none)(ha:XB X a f)(hg:Gl X "list":=by rfl)(hs:Zx6 [a] X.env=[(false,eval a X.env)]:=by rfl):XF X (.Call (.Name "list" p) [a] [] pos) (HM.Zi2 f):=by
 intro r d h;unfold HM.Zi2 at h;split at h
 ·rename_i x hx
  obtain⟨ds,h1,h2⟩:=ZxT.mp h;subst h2;refine PE.imp (Zdf ZnJ hg hm Zpc (Ze3 ha hx hs) (he:=hs)) λσ H Q ⟨F0,H0,F,at_,k⟩=>?_;refine⟨F0,H0,F,at_,λv fp F1 H1 x1 r1=>?_⟩;obtain⟨l,vs,e1,hq,rs⟩:=Zf7 x1.sub r1 h1;subst e1;exact⟨l,vs,rfl,hq,λl' hl'=>ZeK (P:=λv _ H'=>Q v H') x1 rs hl' k⟩
 ·cases h
theorem ZkI{K:ZxR}{F:Hp}:∀{ds:List PyData} {vs:List V} {bs:List Bool},HM.Ze2 ds=some bs->Zu K F ds vs->vs=bs.map V.bl
 | [],vs,bs,h,r=>by cases h;exact r.nil_inv
 | d::ds,vs,bs,h,r=>by
  obtain⟨v,us,rfl,r1,r2⟩:=r.cons_inv;cases d with
  | bool b=>obtain⟨bs',h1,h2⟩:=ZxT.mp h;subst h2;rw[r1.bool_inv,ZkI h1 r2];rfl
  | none=>cases h
  | int _=>cases h
  | str _=>cases h
  | list _=>cases h
  | tuple _=>cases h
  | dict _=>cases h
end
end HP
namespace HP
open PySem PySem.Spec PyProof.Rows L2
variable[FX]
section
variable{X:Cx}{a b c e:Expr}{fa fb fc:HM.EF}{pos p:Pos}{f:HM.BF}
theorem ZoU:∀{bs:List Bool} {us:List Value},Vals (bs.map V.bl) us->LSm.BoolsAre us bs:=by
 intro bs
 induction bs with
 | nil=>intro us r; rw[ZzI]at r; cases r; exact .nil
 | cons b bs ih =>
  intro us r;rw[ZxY]at r;cases r with
  | cons r1 r2=>cases r1;exact .cons b (ih r2)
theorem Zva{A:Around}{s:Shared}{l:Addr}{vs:List Value}{bs:List Bool}{dflt:Bool}(hh:A.handled=none)(hl:s.heap.IsList l vs.toArray)(hb:LSm.BoolsAre vs bs){E:Value->Shared->Prop}{Q:Value->Shared->Prop}{prog:Program}{w:World}
  (h:∀it fp wr (P:Nat->Value->Prop) St,Walks prog w A it fp wr vs.length P St->St 0 (s.heap.push { cls:=.type "list_iterator",data:=.fields #[.ref l,rawInt 0] })->TruthOf prog w A P (λi=>(bs[i]?).getD dflt)->wr=[s.heap.objs.size]->it=s.heap.objs.size->Q (.ref it) { s with heap:=s.heap.push { cls:=.type "list_iterator",data:=.fields #[.ref l,rawInt 0] } }) :
  wpAny (model prog w) A (pyIter (.ref l)) Q E s:=by
 have hlt:l<s.heap.objs.size:=let ⟨_,e,_⟩:=hl; Zx7 e
 refine ZBG hl ?_;have W:=Walks.list (prog:=prog) (w:=w) hh s.heap.objs.size l (Zyf hlt) vs.toArray;rw[Zya]at W;refine h _ _ _ _ _ W ⟨⟨_,Zx9 _ rfl,rfl,rfl⟩,hl.push _⟩ (λi v s' Q' E' hP hQ=>?_) rfl rfl;obtain⟨b,e,rfl⟩:=hb.get i v (by simpa using hP);simp only[e,Option.getD_some]at hQ;exact ZzM hQ
theorem ZrL(hc:X.calm=true):Za7 X (.builtin "all") (λxs H Q=>∃(p:Addr) (bs:List Bool),xs=[.ref p]/\SqL X.K H p (bs.map V.bl)/\Q (.bl (bs.all id)) H):=by intro pins s σ H xs us Q I r h;obtain⟨p,bs,rfl,hq,q⟩:=h;obtain⟨u,rfl,rx⟩:=vals1 r;cases rx;obtain⟨its,rv,pl,hz⟩:=I.list hq;have hb:=ZoU rv;refine call_all_walk (Zva (dflt:=true) (A:=X.A.in1) (I.ok.hd hc) pl.isList hb λit fp wr P St W st tr e1 e2=>?_);subst e1 e2;refine⟨_,_,_,_,P,St,_,rfl,W,st,tr,λh' tk hk=>?_⟩;rw[hb.length,LSm.range_all bs];exact⟨.bl _,H,I.kept (LSm.kept_iter hk),rfl,q⟩
theorem Zga{K:ZxR}{F H:Hp}{q:HM.B}{v:V}{fp:List Addr}{ds:List PyData}(sub:Zp F H)(r:Zak K F H q v fp)(h:HM.ZkV q=some ds):∃a vs,v=.ref a/\SqL K H a vs/\Zu K F ds vs:=by
 cases r with
 | pl r =>
  cases r with
  | lst h1 h2 h3=>cases h; exact⟨_,_,rfl,sub.seq h1,h2,h3⟩
  | dct _ _ _ _=>cases h
  | fn _=>cases h
  | tupk _=>cases h
  | tup _ _ _=>cases h
  | non=>cases h
  | bl _=>cases h
  | int _=>cases h
  | str _=>cases h
 | ol h1 r=>cases h; exact⟨_,_,rfl,.of h1,r⟩
 | ok _ _ _=>cases h
 | hd _ _ _ _=>cases h
 | hf _=>cases h
 | ot _ _ _=>cases h
 | otl _ _ _ _=>cases h
theorem ZgR(hm:X.mg "all" = none)(hc:X.calm=true)(ha:XB X a f)(hg:Gl X "all":=by rfl)(hs:Zx6 [a] X.env=[(false,eval a X.env)]:=by rfl):XE X (.Call (.Name "all" p) [a] [] pos) (HM.Zio f):=by
 intro r d h;unfold HM.Zio at h;split at h
 ·rename_i x hx
  split at h
  ·rename_i ds hds
   obtain⟨bs,h1,h2⟩:=ZxT.mp h;subst h2;refine PE.imp (Zdh (ZrL hc) hg hm Zwf (Ze3 ha hx hs) (he:=hs)) λσ H Q ⟨F0,H0,F,at_,k⟩=>?_;refine⟨F0,H0,F,at_,λv fp F1 H1 x1 r1=>?_⟩;obtain⟨l,vs,e1,hq,rs⟩:=Zga x1.sub r1 hds;rw[ZkI h1 rs]at hq;exact⟨l,bs,by rw[e1],hq,k _ F1 H1 x1 (.bl _)⟩
  ·cases h
 ·cases h
theorem ZkE{tyn:String}{t:HM.Ty}(hr:∀(s:Shared) (d:PyData) (v:V) (u:Value) (Q:Value->Shared->Prop),RelV v u->(∃(K:ZxR) (F:Hp),Rep K F d v)->(∀es,d≠.dict es)->(∀x,v=.ref x->∃o,s.heap.get? x=some o/\((∃ds,d=.tuple ds/\o.cls=.type "tuple")\/(∃ds,d=.list ds/\o.cls=.type "list")\/∃ds,d=.dict ds/\o.cls=.type "dict")) ->
   (∀tk,Q (.bool (HM.ZhA t d)) { s with toks:=tk })->wpAny (model X.prog X.w) X.A (call (.builtin "isinstance") [u,.type tyn]) Q X.xe s) :
  Za7 X (.builtin "isinstance") (λxs H Q=>∃F d v,xs=[v,.ty tyn]/\Zp F H/\Rep X.K F d v/\(∀es,d≠.dict es)/\Q (.bl (HM.ZhA t d)) H):=by
 intro pins s σ H xs us Q I r h;obtain⟨F,d,v,rfl,sub,rp,nd,q⟩:=h;obtain⟨u,u',rfl,ru,ru'⟩:=vals2 r;cases(show u'=ZAK tyn from ru');refine hr s d v u _ ru ⟨_,_,rp⟩ nd (λx e=>?_) λtk=>⟨.bl _,H,I.tok tk,rfl,q⟩;subst e;cases rp with
 | tup h1 h2 h3=>obtain⟨its,rv,⟨o,ho,hc,n,hd⟩,_⟩:=I.tuple (.of (sub _ _ h1));exact⟨o,ho,.inl ⟨_,rfl,hc⟩⟩
 | tupk h1=>obtain⟨its,rv,⟨o,ho,hc,n,hd⟩,_⟩:=I.tuple (.inr h1);exact⟨o,ho,.inl ⟨_,rfl,hc⟩⟩
 | lst h1 h2 h3=>obtain⟨its,rv,⟨o,n,ho,hc,_,hd⟩,_⟩:=I.list (sub.seq h1);exact⟨o,ho,.inr (.inl ⟨_,rfl,hc⟩)⟩
 | @dct a es kvs vvs h1 _ _ _=>obtain⟨_,_,xs,_,o,es,ep,q1,q2,_⟩:=(show Zab X.prog X.w H s.heap x (.dT vvs) from Zkt I.hok (Zi6 h1 sub));exact⟨o,q1,.inr (.inr ⟨_,rfl,q2.1⟩)⟩
 | fn _=>exact absurd rfl (nd _)
theorem Zs3:Za7 X (.builtin "isinstance") (λxs H Q=>∃F d v,xs=[v,.ty "bool"]/\Zp F H/\Rep X.K F d v/\(∀es,d≠.dict es)/\Q (.bl (HM.ZhA .bool d)) H):=by
 refine ZkE λs d v u Q ru ⟨K,F,rp⟩ nd ho k=>?_;cases rp with
 | non=>cases ru; exact IsiPair.NoneType_bool (k _)
 | bl _=>cases ru; exact IsiPair.bool_bool (k _)
 | int _=>obtain⟨t,rfl⟩:=ru; exact IsiPair.int_bool (k _)
 | str _=>obtain⟨t,rfl⟩:=ru; exact IsiPair.str_bool (k _)
 | tup _ _ _ | tupk _ =>
  cases ru;obtain⟨o,h1,⟨_,_,h2⟩ | ⟨_,e,_⟩ | ⟨_,e,_⟩⟩:=ho _ rfl
  ·exact IsiPair.tuple_bool h1 h2 (k _)
  ·cases e
  ·cases e
 | lst _ _ _ =>
  cases ru;obtain⟨o,h1,⟨_,e,_⟩ | ⟨_,_,h2⟩ | ⟨_,e,_⟩⟩:=ho _ rfl
  ·cases e
  ·exact IsiPair.list_bool h1 h2 (k _)
  ·cases e
 | dct _ _ _ _ =>
  cases ru;obtain⟨o,h1,⟨_,e,_⟩ | ⟨_,e,_⟩ | ⟨_,_,h2⟩⟩:=ho _ rfl
  ·cases e
  ·cases e
  ·exact IsiPair.dict_bool h1 h2 (k _)
 | fn _=>exact absurd rfl (nd _)
theorem Zt0:Za7 X (.builtin "isinstance") (λxs H Q=>∃F d v,xs=[v,.ty "int"]/\Zp F H/\Rep X.K F d v/\(∀es,d≠.dict es)/\Q (.bl (HM.ZhA .int d)) H):=by
 refine ZkE λs d v u Q ru ⟨K,F,rp⟩ nd ho k=>?_;cases rp with
 | non=>cases ru; exact IsiPair.NoneType_int (k _)
 | bl _=>cases ru; exact IsiPair.bool_int (k _)
 | int _=>obtain⟨t,rfl⟩:=ru; exact IsiPair.int_int (k _)
 | str _=>obtain⟨t,rfl⟩:=ru; exact IsiPair.str_int (k _)
 | tup _ _ _ | tupk _ =>
  cases ru;obtain⟨o,h1,⟨_,_,h2⟩ | ⟨_,e,_⟩ | ⟨_,e,_⟩⟩:=ho _ rfl
  ·exact IsiPair.tuple_int h1 h2 (k _)
  ·cases e
  ·cases e
 | lst _ _ _ =>
  cases ru;obtain⟨o,h1,⟨_,e,_⟩ | ⟨_,_,h2⟩ | ⟨_,e,_⟩⟩:=ho _ rfl
  ·cases e
  ·exact IsiPair.list_int h1 h2 (k _)
  ·cases e
 | dct _ _ _ _ =>
  cases ru;obtain⟨o,h1,⟨_,e,_⟩ | ⟨_,e,_⟩ | ⟨_,_,h2⟩⟩:=ho _ rfl
  ·cases e
  ·cases e
  ·exact IsiPair.dict_int h1 h2 (k _)
 | fn _=>exact absurd rfl (nd _)
theorem ZrW:Za7 X (.builtin "isinstance") (λxs H Q=>∃F d v,xs=[v,.ty "tuple"]/\Zp F H/\Rep X.K F d v/\(∀es,d≠.dict es)/\Q (.bl (HM.ZhA .tuple d)) H):=by
 refine ZkE λs d v u Q ru ⟨K,F,rp⟩ nd ho k=>?_;cases rp with
 | non=>cases ru; exact IsiPair.NoneType_tuple (k _)
 | bl _=>cases ru; exact IsiPair.bool_tuple (k _)
 | int _=>obtain⟨t,rfl⟩:=ru; exact IsiPair.int_tuple (k _)
 | str _=>obtain⟨t,rfl⟩:=ru; exact IsiPair.str_tuple (k _)
 | tup _ _ _ | tupk _ =>
  cases ru;obtain⟨o,h1,⟨_,_,h2⟩ | ⟨_,e,_⟩ | ⟨_,e,_⟩⟩:=ho _ rfl
  ·exact IsiPair.tuple_tuple h1 h2 (k _)
  ·cases e
  ·cases e
 | lst _ _ _ =>
  cases ru;obtain⟨o,h1,⟨_,e,_⟩ | ⟨_,_,h2⟩ | ⟨_,e,_⟩⟩:=ho _ rfl
  ·cases e
  ·exact IsiPair.list_tuple h1 h2 (k _)
  ·cases e
 | dct _ _ _ _ =>
  cases ru;obtain⟨o,h1,⟨_,e,_⟩ | ⟨_,e,_⟩ | ⟨_,_,h2⟩⟩:=ho _ rfl
  ·cases e
  ·cases e
  ·exact IsiPair.dict_tuple h1 h2 (k _)
 | fn _=>exact absurd rfl (nd _)
theorem ZsY:Za7 X (.builtin "isinstance") (λxs H Q=>∃F d v,xs=[v,.ty "list"]/\Zp F H/\Rep X.K F d v/\(∀es,d≠.dict es)/\Q (.bl (HM.ZhA .list d)) H):=by
 refine ZkE λs d v u Q ru ⟨K,F,rp⟩ nd ho k=>?_;cases rp with
 | non=>cases ru; exact IsiPair.NoneType_list (k _)
 | bl _=>cases ru; exact IsiPair.bool_list (k _)
 | int _=>obtain⟨t,rfl⟩:=ru; exact IsiPair.int_list (k _)
 | str _=>obtain⟨t,rfl⟩:=ru; exact IsiPair.str_list (k _)
 | tup _ _ _ | tupk _ =>
  cases ru;obtain⟨o,h1,⟨_,_,h2⟩ | ⟨_,e,_⟩ | ⟨_,e,_⟩⟩:=ho _ rfl
  ·exact IsiPair.tuple_list h1 h2 (k _)
  ·cases e
  ·cases e
 | lst _ _ _ =>
  cases ru;obtain⟨o,h1,⟨_,e,_⟩ | ⟨_,_,h2⟩ | ⟨_,e,_⟩⟩:=ho _ rfl
  ·cases e
  ·exact IsiPair.list_list h1 h2 (k _)
  ·cases e
 | dct _ _ _ _ =>
  cases ru;obtain⟨o,h1,⟨_,e,_⟩ | ⟨_,e,_⟩ | ⟨_,_,h2⟩⟩:=ho _ rfl
  ·cases e
  ·cases e
  ·exact IsiPair.dict_list h1 h2 (k _)
 | fn _=>exact absurd rfl (nd _)
theorem Zkd{tyn:Str}{tys:String}{t:HM.Ty}{p2:Pos}(hR:Za7 X (.builtin "isinstance") (λxs H Q=>∃F d v,xs=[v,.ty tys]/\Zp F H/\Rep X.K F d v/\(∀es,d≠.dict es)/\Q (.bl (HM.ZhA t d)) H))(bt:ZyN tyn=some (.type tys))
  (hm:X.mg "isinstance" = none) (hm2:X.mg tyn=none) (ha:XE X a fa) (hg:Gl X "isinstance") (hg2:Gl X tyn) (hn:tyn ≠ "__name__") (hd:(tyn==("__debug__":Str))=false)
  (hs1:Zx6 [a,.Name tyn p2] X.env=(false,eval a X.env)::Zx6 [.Name tyn p2] X.env) (hs2:Zx6 [.Name tyn p2] X.env=[(false,eval (.Name tyn p2) X.env)]):XE X (.Call (.Name "isinstance" p) [a,.Name tyn p2] [] pos) (HM.Zfi fa t):=by
 intro r d h;have key:∃x,fa r=some x/\(∀es,x≠.dict es)/\d=.bool (HM.ZhA t x):=by
  unfold HM.Zfi at h;split at h
  ·cases h
  ·rename_i x hn hx
   cases h;exact⟨x,hx,λes z=>hn es (by rw[z]),rfl⟩
  ·cases h
 obtain⟨x,h1,nd,h2⟩:=key;subst h2;refine PE.imp (Zdh hR hg hm Zml (ZaI (ha r x h1) (ZaI (ZtZ (v:=.ty tys) hg2 hm2 bt rfl hn hd) Zb3 (by rw[hs2]; rfl)) hs1) (he:=hs1) (hpl:=by rw[hs2]; rfl)) λσ H Q ⟨F0,H0,F,at_,k⟩=>?_;exact⟨F0,H0,F,at_,λv F1 H1 x1 r1=>⟨F1,x,v,rfl,x1.sub,r1,nd,k _ F1 H1 x1 (.bl _)⟩⟩
theorem Zot{p2:Pos}(hm:X.mg "isinstance" = none)(hm2:X.mg "bool" = none)(ha:XE X a fa)(hg:Gl X "isinstance":=by rfl)(hg2:Gl X "bool":=by rfl)(hs1:Zx6 [a,.Name "bool" p2] X.env=(false,eval a X.env)::Zx6 [.Name "bool" p2] X.env:=by rfl) :
  XE X (.Call (.Name "isinstance" p) [a,.Name "bool" p2] [] pos) (HM.Zfi fa .bool):=Zkd Zs3 ZuP hm hm2 ha hg hg2 (by decide) (by decide) hs1 rfl
theorem ZpM{p2:Pos}(hm:X.mg "isinstance" = none)(hm2:X.mg "int" = none)(ha:XE X a fa)(hg:Gl X "isinstance":=by rfl)(hg2:Gl X "int":=by rfl)(hs1:Zx6 [a,.Name "int" p2] X.env=(false,eval a X.env)::Zx6 [.Name "int" p2] X.env:=by rfl) :
  XE X (.Call (.Name "isinstance" p) [a,.Name "int" p2] [] pos) (HM.Zfi fa .int):=Zkd Zt0 Zn0 hm hm2 ha hg hg2 (by decide) (by decide) hs1 rfl
theorem Zh4{p2:Pos}(hm:X.mg "isinstance" = none)(hm2:X.mg "tuple" = none)(ha:XE X a fa)(hg:Gl X "isinstance":=by rfl)(hg2:Gl X "tuple":=by rfl)(hs1:Zx6 [a,.Name "tuple" p2] X.env=(false,eval a X.env)::Zx6 [.Name "tuple" p2] X.env:=by rfl) :
  XE X (.Call (.Name "isinstance" p) [a,.Name "tuple" p2] [] pos) (HM.Zfi fa .tuple):=Zkd ZrW ZjR hm hm2 ha hg hg2 (by decide) (by decide) hs1 rfl
theorem Zjj{p2:Pos}(hm:X.mg "isinstance" = none)(hm2:X.mg "list" = none)(ha:XE X a fa)(hg:Gl X "isinstance":=by rfl)(hg2:Gl X "list":=by rfl)(hs1:Zx6 [a,.Name "list" p2] X.env=(false,eval a X.env)::Zx6 [.Name "list" p2] X.env:=by rfl) :
  XE X (.Call (.Name "isinstance" p) [a,.Name "list" p2] [] pos) (HM.Zfi fa .list):=Zkd ZsY Zpc hm hm2 ha hg hg2 (by decide) (by decide) hs1 rfl
theorem ZuU(hm:X.mg "max" = none)(hc:X.calm=true)(ha:XE X a fa)(hb:XE X b fb)(hg:Gl X "max":=by rfl)(hs1:Zx6 [a,b] X.env=(false,eval a X.env)::Zx6 [b] X.env:=by rfl)(hs2:Zx6 [b] X.env=[(false,eval b X.env)]:=by rfl) :
  XE X (.Call (.Name "max" p) [a,b] [] pos) (HM.op2 HM.Zwc fa fb):=by
 intro r d h;obtain⟨x,y,h1,h2,h3⟩:=Zg9 h;obtain⟨i,j,rfl,rfl,e⟩:=ZfZ h3;cases e;refine PE.imp (Zdh (ZrC hc) hg hm Zrt (ZaI (ha r _ h1) (ZaI (hb r _ h2) Zb3 hs2) hs1) (he:=hs1) (hpl:=by rw[hs2]; rfl)) λσ H Q ⟨F0,H0,F,at_,k⟩=>?_;exact⟨F0,H0,F,at_,λv F1 H1 x1 r1=>⟨F0,H0,F1,at_.grow x1,λw F2 H2 x2 r2=>⟨i,j,by rw[r1.int_inv,r2.int_inv],k _ F2 H2 (x1.trans x2) (.int _)⟩⟩⟩
theorem ZuV(hm:X.mg "min" = none)(hc:X.calm=true)(ha:XE X a fa)(hb:XE X b fb)(hg:Gl X "min":=by rfl)(hs1:Zx6 [a,b] X.env=(false,eval a X.env)::Zx6 [b] X.env:=by rfl)(hs2:Zx6 [b] X.env=[(false,eval b X.env)]:=by rfl) :
  XE X (.Call (.Name "min" p) [a,b] [] pos) (HM.op2 HM.ZvL fa fb):=by
 intro r d h;obtain⟨x,y,h1,h2,h3⟩:=Zg9 h;obtain⟨i,j,rfl,rfl,e⟩:=ZfZ h3;cases e;refine PE.imp (Zdh (ZrU hc) hg hm ZrF (ZaI (ha r _ h1) (ZaI (hb r _ h2) Zb3 hs2) hs1) (he:=hs1) (hpl:=by rw[hs2]; rfl)) λσ H Q ⟨F0,H0,F,at_,k⟩=>?_;exact⟨F0,H0,F,at_,λv F1 H1 x1 r1=>⟨F0,H0,F1,at_.grow x1,λw F2 H2 x2 r2=>⟨i,j,by rw[r1.int_inv,r2.int_inv],k _ F2 H2 (x1.trans x2) (.int _)⟩⟩⟩
theorem Zsd(hm:X.mg "int" = none)(ha:XE X a fa)(hg:Gl X "int":=by rfl)(hs:Zx6 [a] X.env=[(false,eval a X.env)]:=by rfl):XE X (.Call (.Name "int" p) [a] [] pos) (HM.Zoa fa):=by
 intro r d h;unfold HM.Zoa at h;split at h
 ·rename_i i hi
  cases h;refine PE.imp (Zdf ZlD hg hm Zn0 (ZaI (ha r _ hi) Zb3 hs) (he:=hs)) λσ H Q ⟨F0,H0,F,at_,k⟩=>?_;exact⟨F0,H0,F,at_,λv F1 H1 x1 r1=>.inl ⟨i,by rw[r1.int_inv],k _ F1 H1 x1 (.int _)⟩⟩
 ·rename_i q hq
  cases h;refine PE.imp (Zdf ZlD hg hm Zn0 (ZaI (ha r _ hq) Zb3 hs) (he:=hs)) λσ H Q ⟨F0,H0,F,at_,k⟩=>?_;exact⟨F0,H0,F,at_,λv F1 H1 x1 r1=>.inr ⟨q,by rw[r1.bool_inv],k _ F1 H1 x1 (.int _)⟩⟩
 ·cases h
end
end HP
namespace HP
open PySem PySem.Spec PyProof.Rows L2
variable[FX]
section
variable{X:Cx}{a b c e:Expr}{fa fb fc:HM.EF}{pos p:Pos}{f:HM.BF}{tg:Expr}
theorem PI.imp{X:Cx}{tg e:Expr}{t u:TI}(h:PI X tg e t)(hi:∀σ H R,u σ H R->t σ H R):PI X tg e u:=λpins s σ H R I q=>h pins s σ H R I (hi σ H R q)
theorem ZvH{l:Expr}{tl:TE}(hl:PE X l tl):PI X tg l (λσ H R=>tl σ H λx H1=>∃a,x=.ref a/\((∃xs,SqL X.K H1 a xs)/\R (Itl X.K a) H1\/(∃xs,SqT X.K H1 a xs)/\R (Itt X.K a) H1)):=by
 intro pins s σ H R I h;refine thn (hl pins s σ H _ I h) λv s1 ⟨x,H1,I1,r1,q1⟩=>?_;obtain⟨a,e,q1⟩:=q1;subst e;cases r1;rcases q1 with⟨⟨xs,hq⟩,q⟩ | ⟨⟨xs,hq⟩,q⟩
 ·obtain⟨its,rv,p,hz⟩:=I1.list hq
  refine ZBG p.isList ⟨s1.heap.objs.size,[s1.heap.objs.size],_,_,H1,rfl,I1.kept (t':=s1.toks) λb o e=>ZxX _ e,Zri a _,⟨_,Zx9 _ rfl,rfl,rfl⟩,λb hb=>?_,q⟩;obtain rfl:b=s1.heap.objs.size:=by simpa using hb
  exact I1.fpOk (Zx2 _) (I1.hok.fresh (Zx2 _))
 ·obtain⟨its,rv,p,hz⟩:=I1.tuple hq
  refine wpAny_pyIter_tuple (show s1.heap.IsTuple a its.toArray from p) ⟨s1.heap.objs.size,[s1.heap.objs.size],_,_,H1,rfl,I1.kept (t':=s1.toks) λb o e=>ZxX _ e,Zqs a _,⟨_,Zx9 _ rfl,rfl,rfl⟩,λb hb=>?_,q⟩;obtain rfl:b=s1.heap.objs.size:=by simpa using hb
  exact I1.fpOk (Zx2 _) (I1.hok.fresh (Zx2 _))
theorem Zsv{K:ZxR}{F:Hp}{a:Addr}{ds:List PyData}{vs:List V}(h:SqL K F a vs)(r:Zu K F ds vs):ItD K (Itl K a) ds F:=by intro F' H s1 s2;have hq:SqL K H a vs:=(s1.trans s2).seq h;refine⟨λi d hd=>?_,⟨vs,hq,by rw[r.1]; exact Zx2 _⟩⟩;obtain⟨v,h1,h2⟩:=r.get hd;refine⟨⟨vs,v,hq,h1⟩,λx H' hy=>?_⟩;obtain⟨e,y⟩:=hy;refine⟨e,?_⟩;have:=y vs hq;rw[h1]at this;cases this;exact h2.mono (s1.trans (Zc1 s2))
theorem Ztt{K:ZxR}{F:Hp}{a:Addr}{ds:List PyData}{vs:List V}(h:SqT K F a vs)(r:Zu K F ds vs):ItD K (Itt K a) ds F:=by intro F' H s1 s2;have hq:SqT K H a vs:=ZsU h (s1.trans s2);refine⟨λi d hd=>?_,⟨vs,hq,by rw[r.1]; exact Zx2 _⟩⟩;obtain⟨v,h1,h2⟩:=r.get hd;refine⟨⟨vs,v,hq,h1⟩,λx H' hy=>?_⟩;obtain⟨e,y⟩:=hy;refine⟨e,?_⟩;have:=y vs hq;rw[h1]at this;cases this;exact h2.mono (s1.trans (Zc1 s2))
theorem ZuM{K:ZxR}{F:Hp}{a:Addr}{ds:List PyData}{vs:List V}(h:F a=some (.tup vs))(r:Zu K F ds vs):ItD K (Itt K a) ds F:=by intro F' H s1 s2;have hq:SqT K H a vs:=.of (s2 _ _ (s1 _ _ h));refine⟨λi d hd=>?_,⟨vs,hq,by rw[r.1]; exact Zx2 _⟩⟩;obtain⟨v,h1,h2⟩:=r.get hd;refine⟨⟨vs,v,hq,h1⟩,λx H' hy=>?_⟩;obtain⟨e,y⟩:=hy;refine⟨e,?_⟩;have:=y vs hq;rw[h1]at this;cases this;exact h2.mono (s1.trans (Zc1 s2))
theorem Zad(h:XE X e fa):XI X tg e (HM.Zah (HM.bOf fa)):=by
 intro r ds hd;unfold HM.Zah HM.bOf at hd;cases hx:fa r with
 | none=>rw[hx]at hd; cases hd
 | some d =>
  rw[hx]at hd;have hd:HM.Zcm (.pl d)=some ds:=hd;refine PI.imp (ZvH (h r d hx)) λσ H R ⟨F0,H0,F,at_,k⟩=>?_;refine⟨F0,H0,F,at_,λv F1 H1 x1 r1=>?_⟩;cases r1 with
  | @tupk a x h1=>cases hd;exact⟨a,rfl,.inr ⟨⟨_,.inr h1⟩,k _ F1 H1 x1 (Ztt (.inr h1) (.one (.str x)))⟩⟩
  | @tup a ds' vs h1 h2 h3=>cases hd;exact⟨a,rfl,.inr ⟨⟨vs,.of (x1.sub _ _ h1)⟩,k _ F1 H1 x1 (ZuM h1 ⟨h2,h3⟩)⟩⟩
  | @lst a ds' vs h1 h2 h3=>cases hd;exact⟨a,rfl,.inl ⟨⟨vs,x1.sub.seq h1⟩,k _ F1 H1 x1 (Zsv h1 ⟨h2,h3⟩)⟩⟩
  | dct _ _ _ _=>cases hd
  | fn _=>cases hd
  | non=>cases hd
  | bl _=>cases hd
  | int _=>cases hd
  | str _=>cases hd
theorem Zuu{K:ZxR}{F:Hp}(lo:Int)(n:Nat):ItD K (Itr lo n) (HM.ZcR lo n) F:=by
 intro F' H s1 s2;have hl:(HM.ZcR lo n).length=n:=by unfold HM.ZcR; rw[ZxS,Zz2]
 refine⟨λi d hd=>?_,?_⟩
 ·have hi:i<n:=by rw[<-hl]; exact(Zx4.mp hd).1
  unfold HM.ZcR at hd;rw[Zyk,List.getElem?_range hi]at hd;cases hd;exact⟨hi,λx H' ⟨e1,e2⟩=>⟨e1,by rw[e2]; exact .int _⟩⟩
 ·rw[hl]; exact Zx2 _
theorem ZpF{j:Int}(h:HM.okR j=true):-1000000<j/\j<1000000:=by unfold HM.okR at h;rw[ZAN]at h;omega
theorem Zcd(hm:X.mg "range" = none)(ha:XE X a fa)(hg:Gl X "range":=by rfl)(hs:Zx6 [a] X.env=[(false,eval a X.env)]:=by rfl):XI X tg (.Call (.Name "range" p) [a] [] pos) (HM.Zb6 fa):=by
 intro r ds hd;unfold HM.Zb6 at hd;split at hd
 ·rename_i j hj
  split at hd
  ·rename_i hok
   cases hd;obtain⟨k1,k2⟩:=ZpF hok;refine PI.imp (Zq5 hg hm (ZaI (ha r _ hj) Zb3 hs) hs) λσ H R ⟨F0,H0,F,at_,k⟩=>?_;exact⟨F0,H0,F,at_,λv F1 H1 x1 r1=>⟨j,by rw[r1.int_inv],by omega,by omega,k _ F1 H1 x1 (Zuu 0 j.toNat)⟩⟩
  ·cases hd
 ·cases hd
theorem ZqQ{ga gb:HM.BF}(ha:XB X a ga)(hb:XB X b gb):XF X (.BinOp a .Add b pos) (HM.Zqn ga gb):=by
 intro r d h;unfold HM.Zqn at h;split at h
 ·rename_i xs hx
  split at h
  ·rename_i ys hy
   split at h
   ·rename_i hz
    cases h;refine PE.imp (Zqf Zvq (ha r _ hx) (hb r _ hy)) λσ H Q ⟨F0,H0,F,at_,k⟩=>?_;refine⟨F0,H0,F,at_,λv F1 H1 x1 ⟨fp,r1⟩=>⟨F0,H0,F1,at_.grow x1,λw F2 H2 x2 ⟨fq,r2⟩=>?_⟩⟩;cases r1 with
    | ol h1 q1 =>
     cases r2 with
     | ol h2 q2 =>
      have q1':=q1.mono x2.ff;refine⟨_,_,_,_,rfl,rfl,x2.hh _ _ h1,h2,?_,λl hl=>ZeK (P:=λv _ H'=>Q v H') (x1.trans x2) (q1'.append q2) hl k⟩;have e1:=q1.1;have e2:=q2.1;have e3:(1000000:Nat)<=sizeLine:=by decide
      unfold HM.big at hz;omega
   ·cases h
  ·cases h
 ·cases h
theorem ZuW{ga:HM.BF}(ha:XB X a ga)(hb:XE X b fb):XF X (.BinOp a .Mult b pos) (HM.ZsL ga fb):=by
 intro r d h;unfold HM.ZsL at h;split at h
 ·rename_i xs hx
  split at h
  ·rename_i i hy
   split at h
   ·rename_i hz
    cases h;rw[Zyd,decide_eq_true_eq,decide_eq_true_eq]at hz;refine PE.imp (Zqf ZvM (ha r _ hx) (hb r _ hy)) λσ H Q ⟨F0,H0,F,at_,k⟩=>?_;refine⟨F0,H0,F,at_,λv F1 H1 x1 ⟨fp,r1⟩=>⟨F0,H0,F1,at_.grow x1,λw F2 H2 x2 r2=>?_⟩⟩;cases r1 with
    | ol h1 q1 =>
     have q1':=q1.mono x2.ff;refine⟨_,i,_,rfl,r2.int_inv,x2.hh _ _ h1,by omega,by omega,?_,λl hl=>ZeK (P:=λv _ H'=>Q v H') (x1.trans x2) (q1'.rep i.toNat) hl k⟩;have e1:=q1.1;have e3:(1000*1000:Nat)<=sizeLine:=by decide
     refine ZyG (Nat.mul_le_mul (?_:_<=1000) (?_:_<=1000)) e3<;>omega
   ·cases h
  ·cases h
 ·cases h
def XO(X:Cx)(e:Option Expr)(f:Option HM.EF):Prop:=∀r o,HM.Zqv f r=some o->PO X e λσ H Q=>Now X.K r σ H λF0 H0 F=>∀F' H',Ext F H F' H'->Q o H'
theorem ZuE:XO X none none:=by intro r o h;cases h;intro pins s σ H Q I q;obtain⟨F0,H0,F,at_,k⟩:=q;exact Zuk pins s σ H Q I (k F H at_.refl)
theorem ZuK(h:XE X e fa):XO X (some e) (some fa):=by
 intro r o ho;unfold HM.Zqv at ho;split at ho
 ·rename_i z; cases z
 ·rename_i g z
  cases z;split at ho
  ·rename_i i hi
   cases ho;intro pins s σ H Q I q;obtain⟨F0,H0,F,at_,k⟩:=q;exact Zuy (h r _ hi) pins s σ H Q I ⟨F0,H0,F,at_,λv F1 H1 x1 r1=>⟨i,r1.int_inv,k F1 H1 x1⟩⟩
  ·cases ho
theorem ZuX{ga:HM.BF}{lo hi:Option Expr}{fl fh:Option HM.EF}{p2:Pos}(ha:XB X a ga)(hl:XO X lo fl)(hh:XO X hi fh):XF X (.Subscript a (.Slice lo hi none p2) pos) (HM.Zts ga fl fh):=by
 intro r d h;unfold HM.Zts at h;split at h
 ·rename_i x hx
  split at h
  ·rename_i xs hxs
   split at h
   ·rename_i l hl'
    split at h
    ·rename_i u hu'
     cases h;refine PE.imp (ZsJ ZtX (ha r _ hx) (hl r _ hl') (hh r _ hu')) λσ H Q ⟨F0,H0,F,at_,k⟩=>?_;refine⟨F0,H0,F,at_,λv F1 H1 x1 ⟨fp,r1⟩=>⟨F0,H0,F1,at_.grow x1,λF2 H2 x2=>⟨F0,H0,F2,(at_.grow x1).grow x2,λF3 H3 x3=>?_⟩⟩⟩;have x23:=x2.trans x3;obtain⟨l',vs,e1,hq,rs⟩:=Zga x3.sub (r1.mono x23.ff λ_ _ _ z=>x23.hh _ _ z) hxs;refine⟨l',vs,e1,hq,λl2 hl2=>ZeK (P:=λv _ H'=>Q v H') (x1.trans x23) ?_ hl2 k⟩;unfold HM.cutD Zn5;rw[<-rs.1];exact(rs.drop _).take _
    ·cases h
   ·cases h
  ·cases h
 ·cases h
theorem Zbj.val{K:ZxR}{F0 H0 F H:Hp}{r:HM.Env}{σ:L2.St}{fp:Nat->List Addr}{i:Nat}{ds:List PyData}(e:Zbj K F0 H0 F H r σ fp)(h:r[i]?=some (some (.ol ds))) :
  ∃l vs,σ[i]?=some (some (.ref l))/\H l=some (.lst vs)/\Zu K F ds vs/\fp i=[l]:=by
 obtain⟨v,h1,h2⟩:=e.at_ i _ h;generalize hf:fp i=q at h2;cases h2 with
 | ol k1 k2=>exact⟨_,_,h1,k1,k2,rfl⟩
theorem At.chgList{K:ZxR}{F0 H0 F H:Hp}{r:HM.Env}{σ:L2.St}{i:Nat}{ds es:List PyData}(e:At K F0 H0 F H r σ)(h:r[i]?=some (some (.ol ds))) :
  ∃l vs,σ[i]?=some (some (.ref l))/\H l=some (.lst vs)/\Zu K F ds vs/\∀us,Zu K F es us->At K F0 H0 F (upd H l (.lst us)) (r.set i (some (.ol es))) σ:=by
 obtain⟨fp,e⟩:=e;obtain⟨l,vs,h1,h2,h3,h4⟩:=e.val h;refine⟨l,vs,h1,h2,h3,λus q=>e.change (fp':=[l]) h1 (.ol ZF q) (by simp) (λa ha=>.inl (by rw[h4]; exact ha)) λa o z hn=>?_⟩;rw[ZA (λz=>hn (by rw[h4,z]; simp))];exact z
theorem ZdS(i:Nat){x:Str}{p1 p2 p3:Pos}(ha:XE X a fa)(hN:X.N[i]?=some x:=by rfl)(hv:Vis X.env.scope x:=by first | exact ZyP rfl | exact Zyx (ZyP rfl) | exact Zyx (Zyx rfl))(hd:(x==("__debug__":Str))=false:=by decide)(hcd:(x==("__classdict__":Str))=false:=by decide)
  (hbase:ZAk (.Name x p1) "append" X.env (eval (.Name x p1) X.env)=eval (.Name x p1) X.env:=by rfl)
  (hfew:((backTo p3 (Zx6 [a] X.env)).all (λx=>!x.1)&&(backToKw p3 (ZBr [] X.env)).all (λx=>x.1.isSome)&&decide (([a]:List Expr).length+([]:List Keyword).length+(if([]:List Keyword).isEmpty then 0 else 1)<30))=true:=by rfl)
  (hline:(p2.endLine==p3.line)=true:=by rfl) (hs:Zx6 [a] X.env=[(false,eval a X.env)]:=by rfl):XS X (.Expr (.Call (.Attribute (.Name x p1) "append" p2) [a] [] p3) pos) (HM.ZdW i fa):=by
 intro r o h;unfold HM.ZdW at h;split at h
 ·rename_i ds hds
  split at h
  ·rename_i d hd'
   split at h
   ·rename_i hz
    cases h;refine PS.imp (Zi1 (Zp9 ZAh ZBU ZBV Zir (ZcC hN hv hd hcd) (ZaI (ha r d hd') Zb3 hs) hbase hfew hline hs rfl)) λE σ H ⟨F0,H0,F,at_,k⟩=>?_;obtain⟨l,vs,e1,e2,e3,_⟩:=at_.chgList (es:=ds) hds;refine⟨.ref l,e1,.inl ⟨rfl,_,SqL.of e2⟩,F0,H0,F,at_,λv F1 H1 x1 r1=>?_⟩;have at1:=at_.grow x1;obtain⟨l',vs',f1,f2,f3,f4⟩:=at1.chgList (es:=ds++[d]) hds;rw[e1]at f1;cases f1;refine⟨_,vs',v,rfl,rfl,f2,?_,k _ F1 _ (f4 _ (f3.append (.one r1)))⟩;have e4:=f3.1;have e5:(1000000:Nat)<=sizeLine:=by decide
    unfold HM.big at hz;omega
   ·cases h
  ·cases h
 ·cases h
theorem ZtR(i:Nat){x:Str}{p1 p2:Pos}(hk:XE X b fb)(ha:XE X a fa)(hN:X.N[i]?=some x:=by rfl)(hv:Vis X.env.scope x:=by first | exact ZyP rfl | exact Zyx (ZyP rfl) | exact Zyx (Zyx rfl))(hd:(x==("__debug__":Str))=false:=by decide)(hcd:(x==("__classdict__":Str))=false:=by decide)
  (hsub:∀v,assign (.Subscript (.Name x p1) b p2) X.env v=(do
   let ov <-holding [v] (eval (.Name x p1) X.env)
   let iv <-holding [v,ov] (eval b X.env)
   standAt p2
   holding [v,ov,iv] (setItem ov iv v)
   release [v,ov,iv] []):=by intro _; rfl)
  (hs:swapsWithSole [.Subscript (.Name x p1) b p2] a pos.line X.env=pure false:=by rfl) (hw:swappedStores [.Subscript (.Name x p1) b p2] a X.env=pure none:=by rfl)
  (h1:(ZzQ [.Subscript (.Name x p1) b p2] X.env).map (·.2)=[assign (.Subscript (.Name x p1) b p2) X.env]:=by rfl):XS X (.Assign [.Subscript (.Name x p1) b p2] a pos) (HM.Zqt i fb fa):=by
 intro r o h;unfold HM.Zqt at h;split at h
 ·rename_i d hd'
  split at h
  ·rename_i ds hds
   split at h
   ·rename_i n hn
    split at h
    ·rename_i j hj
     cases h;refine PS.imp (Zvn (ha r d hd') (Zu5 (ZcC hN hv hd hcd) (hk r _ hn) set_list hsub) hs hw h1) λE σ H ⟨F0,H0,F,at_,k⟩=>?_;refine⟨F0,H0,F,at_,λv F1 H1 x1 r1=>?_⟩;have at1:=at_.grow x1;obtain⟨l,vs,e1,e2,e3,_⟩:=at1.chgList (es:=ds) hds;refine⟨.ref l,e1,F0,H0,F1,at1,λw F2 H2 x2 r2=>?_⟩;obtain⟨l',vs',f1,f2,f3,f4⟩:=(at1.grow x2).chgList (es:=ds.set j d) hds;rw[e1]at f1;cases f1;refine⟨_,vs',n,j,rfl,r2.int_inv,f2,?_,k _ F2 _ (f4 _ (f3.set (r1.mono x2.ff) j))⟩;rw[<-f3.1];exact hj
    ·cases h
   ·cases h
  ·cases h
 ·cases h
end
end HP
namespace HP
open PySem PySem.Spec PyProof.Rows L2
variable[FX]
section
variable{K:ZxR}{F:Hp}{κ:Type}[DecidableEq κ]
def Za5(K:ZxR)(F:Hp)(kvs:List (κ × PyData))(vvs:List (κ × V)):Prop:=kvs.map (·.1)=vvs.map (·.1)/\Zu K F (kvs.map (·.2)) (vvs.map (·.2))
theorem Za5.nil:Za5 K F ([]:List (κ × PyData)) []:=⟨rfl,.nil⟩
theorem Za5.cons{k:κ}{d:PyData}{v:V}{kvs:List (κ × PyData)}{vvs:List (κ × V)}(r:Rep K F d v)(q:Za5 K F kvs vvs):Za5 K F ((k,d)::kvs) ((k,v)::vvs) :=
 ⟨by rw[ZxY,ZxY,q.1],by rw[ZxY,ZxY]; exact .cons r q.2⟩
theorem Za5.inv{kvs:List (κ × PyData)}{vvs:List (κ × V)}(q:Za5 K F kvs vvs):(kvs=[]/\vvs=[])\/∃k d v kvs' vvs',kvs=(k,d)::kvs'/\vvs=(k,v)::vvs'/\Rep K F d v/\Za5 K F kvs' vvs':=by
 cases kvs with
 | nil =>
  cases vvs with
  | nil=>exact .inl ⟨rfl,rfl⟩
  | cons p r=>exact absurd q.1 (by simp)
 | cons p kvs' =>
  cases vvs with
  | nil=>exact absurd q.1 (by simp)
  | cons p' vvs' =>
   obtain⟨k,d⟩:=p;obtain⟨k',v⟩:=p';obtain⟨q1,q2⟩:=q;rw[ZxY,ZxY]at q1 q2;injection q1 with e1 e2
   have e1:k=k':=e1;subst e1;obtain⟨v',us,e3,r1,r2⟩:=q2.cons_inv;injection e3 with e3 e4
   refine .inr ⟨k,d,v,kvs',vvs',rfl,rfl,?_,e2,?_⟩
   ·rw[show v=v' from e3]; exact r1
   ·rw[e4]; exact r2
theorem Za5.len{kvs:List (κ × PyData)}{vvs:List (κ × V)}(q:Za5 K F kvs vvs):kvs.length=vvs.length:=by
 have:=congrArg ZyB q.1
 rwa [ZxS,ZxS]at this
theorem Za5.any{kvs:List (κ × PyData)}{vvs:List (κ × V)}(k:κ)(q:Za5 K F kvs vvs):(kvs.any λp=>decide (p.1=k))=vvs.any λp=>decide (p.1=k):=by
 have e:∀{β:Type} (l:List (κ × β)),(l.any λp=>decide (p.1=k))=(l.map (·.1)).any λx=>decide (x=k):=λl=>by rw[List.any_map]; rfl
 rw[e,e,q.1]
theorem Za5.repl{d:PyData}{v:V}(k:κ)(r:Rep K F d v):∀{kvs:List (κ × PyData)} {vvs:List (κ × V)},Za5 K F kvs vvs->Za5 K F (kvs.map λp=>if p.1=k then(p.1,d)else p) (vvs.map λp=>if p.1=k then(p.1,v)else p)
 | [],vvs,q=>by
  rcases q.inv with⟨_,e⟩ | ⟨_,_,_,_,_,e,_⟩
  ·subst e; exact .nil
  ·cases e
 | p::kvs,vvs,q=>by
  rcases q.inv with⟨e,_⟩ | ⟨k',d',v',kvs',vvs',e1,e2,r1,r2⟩
  ·cases e
  ·cases e1
   subst e2;have ih:=Za5.repl k r r2;rw[ZxY,ZxY]
   by_cases h:k'=k
   ·rw[if_pos h,if_pos h]; exact .cons r ih
   ·rw[if_neg h,if_neg h]; exact .cons r1 ih
theorem Za5.snoc{kvs:List (κ × PyData)}{vvs:List (κ × V)}{k:κ}{d:PyData}{v:V}(q:Za5 K F kvs vvs)(r:Rep K F d v):Za5 K F (kvs++[(k,d)]) (vvs++[(k,v)]) :=
 ⟨by rw[Zyr,Zyr,q.1]; rfl,by rw[Zyr,Zyr]; exact q.2.append (.one r)⟩
theorem Za5.put{kvs:List (κ × PyData)}{vvs:List (κ × V)}{d:PyData}{v:V}(q:Za5 K F kvs vvs)(k:κ)(r:Rep K F d v):Za5 K F (HM.putD kvs k d) (putK vvs k v):=by
 unfold HM.putD putK;rw[q.any k]
 by_cases h:(vvs.any λp=>decide (p.1=k))=true
 ·rw[if_pos h,if_pos h]; exact q.repl k r
 ·rw[if_neg h,if_neg h]; exact q.snoc r
theorem Za5.look{k:κ}:∀{kvs:List (κ × PyData)} {vvs:List (κ × V)},Za5 K F kvs vvs->(∀d,HM.Zn kvs k=some d->∃v,ZaT vvs k=some v/\Rep K F d v)/\(HM.Zn kvs k=none->ZaT vvs k=none)
 | [],vvs,q=>by
  rcases q.inv with⟨_,e⟩ | ⟨_,_,_,_,_,e,_⟩
  ·subst e; exact⟨λd h=>(by cases h),λ_=>rfl⟩
  ·cases e
 | p::kvs,vvs,q=>by
  rcases q.inv with⟨e,_⟩ | ⟨k',d',v',kvs',vvs',e1,e2,r1,r2⟩
  ·cases e
  ·cases e1
   subst e2;obtain⟨i1,i2⟩:=Za5.look (k:=k) r2
   by_cases h:k'=k
   ·have e3:HM.Zn ((k',d')::kvs) k=some d':=by simp[HM.Zn,ZyH,h]
    rw[e3,ZdI (p:=(k',v')) h];exact⟨λd hd=>(by cases hd; exact⟨v',rfl,r1⟩),λhd=>by cases hd⟩
   ·have e3:HM.Zn ((k',d')::kvs) k=HM.Zn kvs k:=by simp[HM.Zn,ZyH,h]
    rw[e3,ZdR (p:=(k',v')) h];exact⟨i1,i2⟩
theorem Za5.some_iff{k:κ}{kvs:List (κ × PyData)}{vvs:List (κ × V)}(q:Za5 K F kvs vvs):(ZaT vvs k).isSome=(HM.Zn kvs k).isSome:=by
 obtain⟨i1,i2⟩:=q.look (k:=k);cases h:HM.Zn kvs k with
 | none=>rw[i2 h]; rfl
 | some d=>obtain⟨v,h1,_⟩:=i1 d h; rw[h1]; rfl
end
section
variable{K:ZxR}{F:Hp}
theorem Zhu{d:PyData}{k:Key}{v:V}(h:HM.ZiG d=some k)(r:Rep K F d v):v=kV k:=by cases r<;>first | (cases h; rfl) | cases h
theorem ZlN:∀{ds:List PyData} {ks:List Key} {vs:List V},HM.Zgp ds=some ks->Zu K F ds vs->vs=ks.map kV
 | [],ks,vs,h,r=>by cases h; exact r.nil_inv
 | d::ds,ks,vs,h,r=>by
  obtain⟨v,us,rfl,r1,r2⟩:=r.cons_inv;unfold HM.Zgp at h;split at h
  ·rename_i k hk
   obtain⟨ks',h1,h2⟩:=ZxT.mp h;subst h2;rw[Zhu hk r1,ZlN h1 r2];rfl
  ·cases h
theorem Zpb:∀{ds:List PyData} {ks:List Key},HM.Zk5 ds=some ks->HM.Zgp ds=some ks
 | [],ks,h=>h
 | d::ds,ks,h=>by
  unfold HM.Zk5 at h;split at h
  ·cases ‹_=[]›
  ·rename_i i r e
   injection e with e1 e2
   subst e1 e2;obtain⟨ks',h1,h2⟩:=ZxT.mp h;subst h2;show(match HM.ZiG (.int i)with | some k=>(HM.Zgp ds).map (k::·) | none=>none)=_;rw[Zpb h1];rfl
  ·cases h
theorem ZdQ{d:PyData}{ks:List Key}{v:V}(h:HM.Zbx d=some ks)(r:Rep K F d v):∃b,v=.ref b/\F b=some (.tup (ks.map kV)):=by
 cases r with
 | tup h1 h2 h3=>refine⟨_,rfl,?_⟩;rw[<-ZlN (Zpb h) ⟨h2,h3⟩];exact h1
 | tupk _=>cases h
 | lst _ _ _=>cases h
 | dct _ _ _ _=>cases h
 | fn _=>cases h
 | non=>cases h
 | bl _=>cases h
 | int _=>cases h
 | str _=>cases h
end
section
variable{X:Cx}{a b c e:Expr}{fa fb fc:HM.EF}{pos p:Pos}{f:HM.BF}
theorem fresh_one{K:ZxR}{F H F1 H1:Hp}{o:HO}{q:HM.B}{l:Addr}{P:V->Hp->Hp->Prop}(x1:Ext F H F1 H1)(hl:H1 l=none)(hq:Zak K F1 (upd H1 l o) q (.ref l) [l])
  (k:∀v F' H',Ext F H F' H'->(∃fp,Zak K F' H' q v fp/\fp.Nodup/\∀a∈fp,F' a=none/\H a=none)->P v F' H'):P (.ref l) F1 (upd H1 l o):=by
 refine k _ F1 _ (x1.lay' hl) ⟨[l],hq,by simp,λa ha=>?_⟩;obtain rfl:a=l:=by simpa using ha
 exact⟨x1.sub.free hl,x1.hh.free hl⟩
theorem Zwt:XF X (.Dict [] [] pos) HM.fDk:=by intro r d h;cases h;exact PE.imp ZsG λσ H Q ⟨F0,H0,F,at_,k⟩ l hl=>fresh_one (P:=λv _ H'=>Q v H') at_.refl hl (.ok ZF rfl .nil) k
theorem Zmm:XF X (.Dict [] [] pos) HM.fDt:=by intro r d h;cases h;exact PE.imp Znz λσ H Q ⟨F0,H0,F,at_,k⟩ l hl=>fresh_one (P:=λv _ H'=>Q v H') at_.refl hl (.ot ZF rfl .nil) k
theorem ZuY:XF X (.Dict [] [] pos) HM.ZvB:=by intro r d h;cases h;exact PE.imp Znz λσ H Q ⟨F0,H0,F,at_,k⟩ l hl=>fresh_one (P:=λv _ H'=>Q v H') at_.refl hl (.otl ZF rfl rfl λi ds l' h=>by simp at h) k
theorem Zse(ha:XE X a fa)(hb:XE X b fb):XF X (.Dict [some a] [b] pos) (HM.Zoo fa fb):=by
 intro r d h;unfold HM.Zoo at h;split at h
 ·rename_i x hx
  split at h
  ·rename_i y hy
   split at h
   ·rename_i k hk
    cases h;refine PE.imp (ZuO (Zsz (ha r x hx) (hb r y hy) ZuQ) rfl rfl (by simp) (by simp)) λσ H Q ⟨F0,H0,F,at_,kk⟩ l hl=>?_;have hFl:F l=none:=at_.sub.free hl;have x0:Ext F H F (upd H l (.dK [])):=at_.refl.lay' hl;refine⟨F0,H0,F,at_.grow x0,λv F1 H1 x1 r1=>⟨F0,H0,F1,(at_.grow x0).grow x1,λw F2 H2 x2 r2=>?_⟩⟩;have x12:=x1.trans x2;have hl2:H2 l=some (.dK []):=x12.hh l _ ZF;have hF2:F2 l=none:=by
     cases q:F2 l with
     | none=>rfl
     | some o =>
      rcases x12.new l o q with z | z
      ·rw[hFl]at z; cases z
      ·exact(z.no ZF λ_ q=>by cases q).elim
    refine⟨hl2,[(k,w)],?_,by simp,?_⟩
    ·rw[Zhu hk r1]
     rfl
    have xe:Ext F H F2 (upd H2 l (.dK (Zg3 [] [(k,w)]))):=by
     refine⟨x12.ff,λc o z=>?_,λc o z=>?_,λc o z=>?_,λt=>(x12.tab (t.same (ZjS hl))).keep λa u z hu=>?_,x12.nts⟩
     ·have hc:c≠l:=Zaw z hl
      exact(x12.hh c o (by rw[ZA hc]; exact z)).cong (ZA hc)
     ·rw[ZA (λe=>by rw[e,hF2]at z; cases z)]
      exact x12.sub c o z
     ·rcases x12.new c o z with q | q
      ·exact .inl q
      ·exact .inr (q.back (.of (Zp.upd' hl)))
     ·rw[ZA (λe=>by subst e; rw[hl2]at z; cases z; cases hu)]; exact z
    refine kk _ F2 _ xe ⟨[l],.ok ZF rfl (.one r2),by simp,λc hc=>?_⟩;obtain rfl:c=l:=by simpa using hc
    exact⟨hF2,hl⟩
   ·cases h
  ·cases h
 ·cases h
end
end HP
namespace HP
open PySem PySem.Spec PyProof.Rows L2
variable[FX]
theorem At.chgOne{K:ZxR}{F0 H0 F H:Hp}{r:HM.Env}{σ:L2.St}{i:Nat}{q:HM.B}{l:Addr}(e:At K F0 H0 F H r σ)(h:r[i]?=some (some q))(hv:σ[i]?=some (some (.ref l)))(hone:∀v fp,Zak K F H q v fp->∃a,v=.ref a/\fp=[a]) :
  ∀o q',Zak K F (upd H l o) q' (.ref l) [l]->At K F0 H0 F (upd H l o) (r.set i (some q')) σ:=by
 intro o q' hq;obtain⟨fp,e⟩:=e;obtain⟨v,h1,h2⟩:=e.at_ i _ h;obtain⟨a,e1,e2⟩:=hone v _ h2;subst e1;rw[hv]at h1;cases h1;refine e.change (fp':=[l]) hv hq (by simp) (λc hc=>.inl (by rw[e2]; exact hc)) λc o' z hn=>?_;rw[ZA (λz=>hn (by rw[e2,z]; simp))];exact z
section
variable{X:Cx}{a b c e:Expr}{fa fb fc:HM.EF}{pos p:Pos}{f:HM.BF}
theorem Zg0{n:Nat}(h:n<HM.big):n<sizeLine:=by
 have e5:(1000000:Nat)<=sizeLine:=by decide
 unfold HM.big at h;omega
theorem ZgS(hu:X.A.units+1<cLine)(i:Nat){x:Str}{p1 p2:Pos}(hk:XE X b fb)(ha:XE X a fa)(hN:X.N[i]?=some x:=by rfl)(hv:Vis X.env.scope x:=by first | exact ZyP rfl | exact Zyx (ZyP rfl) | exact Zyx (Zyx rfl))(hd:(x==("__debug__":Str))=false:=by decide)(hcd:(x==("__classdict__":Str))=false:=by decide)
  (hs:Zz6 a (some (.Subscript (.Name x p1) b p2)) pos.line X.env=pure false:=by rfl):XS X (.Assign [.Subscript (.Name x p1) b p2] a pos) (HM.ZhT i fb fa):=by
 intro r o h;unfold HM.ZhT at h;split at h
 ·rename_i d hd'
  split at h
  ·rename_i y hy
   split at h
   ·rename_i kvs hb
    split at h
    ·rename_i k hk'
     split at h
     ·rename_i hz
      cases h;refine PS.imp (Zpq hu (ZcC hN hv hd hcd) (hk r y hy) (ha r d hd') hs) λE σ H ⟨F0,H0,F,at_,kk⟩=>?_;refine⟨F0,H0,F,at_,λv F1 H1 x1 r1=>?_⟩;have at1:=at_.grow x1;obtain⟨u,fp,e1,e2⟩:=at1.any hb;refine⟨u,e1,F0,H0,F1,at1,λw F2 H2 x2 r2=>?_⟩;have at2:=at1.grow x2;cases e2 with
      | @ok l _ vvs e2 e3 e4=>have T:Za5 X.K F2 kvs vvs:=⟨e3,e4.mono x2.ff⟩;have T':=T.put k (r1.mono x2.ff);rw[Zhu hk' r2];have hH:H2 l=some (.dK vvs):=x2.hh _ _ e2;refine⟨l,_,rfl,ZiE.k hH (by rw[<-T.len]; exact Zg0 hz),kk _ F2 _ (at2.chgOne hb e1 (λv fp q=>by cases q; exact⟨_,rfl,rfl⟩) _ _ (.ok ZF T'.1 T'.2))⟩
     ·cases h
    ·cases h
   ·rename_i kvs hb
    split at h
    ·rename_i k hk'
     split at h
     ·rename_i hz
      cases h;refine PS.imp (Zpq hu (ZcC hN hv hd hcd) (hk r y hy) (ha r d hd') hs) λE σ H ⟨F0,H0,F,at_,kk⟩=>?_;refine⟨F0,H0,F,at_,λv F1 H1 x1 r1=>?_⟩;have at1:=at_.grow x1;obtain⟨u,fp,e1,e2⟩:=at1.any hb;refine⟨u,e1,F0,H0,F1,at1,λw F2 H2 x2 r2=>?_⟩;have at2:=at1.grow x2;cases e2 with
      | @ot l _ vvs e2 e3 e4=>have T:Za5 X.K F2 kvs vvs:=⟨e3,e4.mono x2.ff⟩;have T':=T.put k (r1.mono x2.ff);obtain⟨bb,rfl,hbb⟩:=ZdQ hk' r2;have hH:H2 l=some (.dT vvs):=x2.hh _ _ e2;refine⟨l,_,rfl,ZiE.t hH (x2.sub _ _ hbb) (by rw[<-T.len]; exact Zg0 hz),kk _ F2 _ (at2.chgOne hb e1 (λv fp q=>by cases q; exact⟨_,rfl,rfl⟩) _ _ (.ot ZF T'.1 T'.2))⟩
     ·cases h
    ·cases h
   ·cases h
  ·cases h
 ·cases h
theorem Zj6{K:ZxR}{F H:Hp}(k:List Key):∀(kvs:List (List Key × List PyData)) (vvs:List (List Key × V)) (ls:List Addr),kvs.map (·.1)=vvs.map (·.1)->vvs.map (·.2)=ls.map V.ref ->
  (∀(i:Nat) (ds:List PyData) (l:Addr),(kvs.map (·.2))[i]?=some ds->ls[i]?=some l->∃vs,H l=some (.lst vs)/\Zu K F ds vs) ->
  (∀ds,HM.Zn kvs k=some ds->∃l' vs,ZaT vvs k=some (.ref l')/\l'∈ls/\H l'=some (.lst vs)/\Zu K F ds vs)/\(HM.Zn kvs k=none->ZaT vvs k=none)
 | [],[],_,_,_,_=>⟨(λds h=>by cases h),λ_=>rfl⟩
 | [],_::_,_,hk,_,_=>by simp at hk
 | _::_,[],_,hk,_,_=>by simp at hk
 | _::_,_::_,[],_,hv,_=>by simp at hv
 | (k1,ds1)::kvs,(k2,v2)::vvs,l1::ls,hk,hv,r=>by
  rw[ZxY,ZxY]at hk hv;injection hk with e1 e2
  injection hv with e3 e4
  have e1:k1=k2:=e1;have e3:v2=.ref l1:=e3;subst e1 e3;obtain⟨i1,i2⟩:=Zj6 k kvs vvs ls e2 e4 λi ds l h1 h2=>r (i+1) ds l (by simpa using h1) (by simpa using h2)
  by_cases hkk:k1=k
  ·have e5:HM.Zn ((k1,ds1)::kvs) k=some ds1:=by simp[HM.Zn,ZyH,hkk]
   rw[e5,ZdI (p:=(k1,V.ref l1)) hkk];obtain⟨vs,q1,q2⟩:=r 0 ds1 l1 rfl rfl;exact⟨(λds h=>by cases h; exact⟨l1,vs,rfl,by simp,q1,q2⟩),(λh=>by cases h)⟩
  ·have e5:HM.Zn ((k1,ds1)::kvs) k=HM.Zn kvs k:=by simp[HM.Zn,ZyH,hkk]
   rw[e5,ZdR (p:=(k1,V.ref l1)) hkk];exact⟨λds h=>let ⟨l',vs,a1,a2,a3⟩:=i1 ds h; ⟨l',vs,a1,ZxW _ a2,a3⟩,i2⟩
theorem Zti{K:ZxR}{F H:Hp}{kvs:List (List Key × List PyData)}{v:V}{fp:List Addr}(q:Zak K F H (.otl kvs) v fp) :
  ∃l vvs ls,v=.ref l/\fp=l::ls/\H l=some (.dT vvs)/\kvs.map (·.1)=vvs.map (·.1)/\vvs.map (·.2)=ls.map V.ref /\
   ∀k,(∀ds,HM.Zn kvs k=some ds->∃l' vs,ZaT vvs k=some (.ref l')/\l'∈ls/\H l'=some (.lst vs)/\Zu K F ds vs)/\(HM.Zn kvs k=none->ZaT vvs k=none):=by
 cases q with
 | @otl l _ vvs ls h hk hv r=>exact⟨l,vvs,ls,rfl,rfl,h,hk,hv,λk=>Zj6 k kvs vvs ls hk hv r⟩
theorem ZsO{i:Nat}{r:HM.Env}{q:HM.B}(h:HM.ZeN i fa r=some q):∃x bb,fa r=some x/\r[i]?=some (some bb) /\
  ((∃kvs k d,bb=.ok kvs/\HM.ZiG x=some k/\HM.Zn kvs k=some d/\q=.pl d)\/(∃kvs k d,bb=.ot kvs/\HM.Zbx x=some k/\HM.Zn kvs k=some d/\q=.pl d)\/∃kvs k ds,bb=.otl kvs/\HM.Zbx x=some k/\HM.Zn kvs k=some ds/\q=.ol ds):=by
 unfold HM.ZeN at h;split at h
 ·rename_i x hx
  split at h
  ·rename_i kvs hb
   split at h
   ·rename_i k hk
    obtain⟨d,h1,h2⟩:=ZxT.mp h;exact⟨x,_,hx,hb,.inl ⟨kvs,k,d,rfl,hk,h1,h2.symm⟩⟩
   ·cases h
  ·rename_i kvs hb
   split at h
   ·rename_i k hk
    obtain⟨d,h1,h2⟩:=ZxT.mp h;exact⟨x,_,hx,hb,.inr (.inl ⟨kvs,k,d,rfl,hk,h1,h2.symm⟩)⟩
   ·cases h
  ·rename_i kvs hb
   split at h
   ·rename_i k hk
    obtain⟨d,h1,h2⟩:=ZxT.mp h;exact⟨x,_,hx,hb,.inr (.inr ⟨kvs,k,d,rfl,hk,h1,h2.symm⟩)⟩
   ·cases h
  ·cases h
 ·cases h
theorem Zmv(hu:X.A.units+1<cLine)(i:Nat){x:Str}{p1:Pos}(hk:XE X b fb)(hN:X.N[i]?=some x:=by rfl)(hv:Vis X.env.scope x:=by first | exact ZyP rfl | exact Zyx (ZyP rfl) | exact Zyx (Zyx rfl))(hd:(x==("__debug__":Str))=false:=by decide)(hcd:(x==("__classdict__":Str))=false:=by decide)
  (hs:ZqD b:=by intro _ _; rfl):XB X (.Subscript (.Name x p1) b pos) (HM.ZeN i fb):=by
 intro r q h;obtain⟨y,bb,h1,h2,h3⟩:=ZsO h;refine PE.imp (Zpx hu (ZcC hN hv hd hcd) (hk r y h1) hs) λσ H Q ⟨F0,H0,F,at_,kk⟩=>?_;obtain⟨u,fp,e1,e2⟩:=at_.any h2;refine⟨u,e1,F0,H0,F,at_,λw F2 H2 x2 r2=>?_⟩;have e2':=e2.mono x2.ff λ_ _ _ z=>x2.hh _ _ z;rcases h3 with⟨kvs,k,d,rfl,hk',hl,rfl⟩ | ⟨kvs,k,d,rfl,hk',hl,rfl⟩ | ⟨kvs,k,ds,rfl,hk',hl,rfl⟩
 ·cases e2' with
  | @ok l _ vvs g1 g2 g3=>obtain⟨v,q1,q2⟩:=(Za5.look (k:=k) (K:=X.K) (F:=F2) ⟨g2,g3⟩).1 d hl;rw[Zhu hk' r2];exact⟨l,v,rfl,by rw[<-q1]; exact ZdM.k g1,kk v F2 H2 x2 ⟨[],.pl q2⟩⟩
 ·cases e2' with
  | @ot l _ vvs g1 g2 g3=>obtain⟨v,q1,q2⟩:=(Za5.look (k:=k) (K:=X.K) (F:=F2) ⟨g2,g3⟩).1 d hl;obtain⟨bb',rfl,hbb⟩:=ZdQ hk' r2;exact⟨l,v,rfl,by rw[<-q1]; exact ZdM.t g1 (x2.sub _ _ hbb),kk v F2 H2 x2 ⟨[],.pl q2⟩⟩
 ·obtain⟨l,vvs,ls,rfl,_,g1,_,_,hlk⟩:=Zti e2'
  obtain⟨l',vs,q1,_,q2,q3⟩:=(hlk k).1 ds hl;obtain⟨bb',rfl,hbb⟩:=ZdQ hk' r2;exact⟨l,_,rfl,by rw[<-q1]; exact ZdM.t g1 (x2.sub _ _ hbb),kk _ F2 H2 x2 ⟨[l'],.ol q2 q3⟩⟩
end
end HP
namespace HP
open PySem PySem.Spec PyProof.Rows L2
variable[FX]
abbrev No:Value->Shared->Prop:=λ_ _=>False
abbrev Zpz(ifs:List Expr)(env:Env):Sem Bool :=
 forIn ifs true λc r=>if r=true then do let ok <-isTrue c env (eval c env); pure (ZBf ok)else pure (ZBf r)
theorem ZrX{prog:Program}{w:World}{A:Around}{R:Result->Shared->Prop}{s:Shared}{elt target iter:Expr}{ifs:List Expr}{scope:Scope}{pos:Pos}{it acc:Value}{env:Env}(J:Nat->Shared->Prop)
  (turn:∀n s,J n s->wpAny (model prog w) A (pyNext it) (λr s1=>match r with
   | none=>R (.ok .next) s1
   | some v=>wpAny (model prog w) A (ZBd target it v) (λ_ s2=>wpAny (model prog w) A (assign target env v) (λ_ s3=>wpAny (model prog w) A (Zpz ifs env) (λok s4=>if ok=true then wpAny (model prog w) A (eval elt env) (λx s5=>wpAny (model prog w) A (call (.builtin "list.append") [acc,x]) (λ_ s6=>∃m,m<n/\J m s6) No s5) No s4 else ∃m,m<n/\J m s4) No s3) No s2) No s1) No s)
  (n:Nat) (h:J n s):codeAny (model prog w) A (.compLoop (.ListComp elt [⟨target,iter,ifs,0⟩] scope pos) 0 it acc env) R s:=by
 refine codeAny_loop rfl J (λn s hI=>?_) n h;show wpAny _ A ((compTurn (.ListComp elt [⟨target,iter,ifs,0⟩] scope pos) 0 it acc env).onRaise (λx=>do noteFrame x env; theTreesLotGoes x)) _ _ s;refine wpAny_noted ?_;rw[compTurn_list];refine ZxQ (wpAny_standAt (ZxQ (Zy3 (turn n s hI) (λr s1 h1=>?_) λ_ _ z=>z.elim)));cases r with
 | none=>exact ZxV h1
 | some v =>
  refine ZxQ (Zy3 h1 (λ_ s2 h2=>ZxQ (Zy3 h2 (λ_ s3 h3=>ZxQ (Zy3 h3 (λok s4 h4=>?_) λ_ _ z=>z.elim)) λ_ _ z=>z.elim)) λ_ _ z=>z.elim);cases ok with
  | false=>exact ZxV ⟨rfl,h4⟩
  | true=>refine ZxQ (ZxQ (Zy3 h4 (λx s5 h5=>?_) λ_ _ z=>z.elim));exact ZxQ (Zy3 h5 (λ_ s6 h6=>ZxV (ZxV ⟨rfl,h6⟩)) λ_ _ z=>z.elim)
def ZU(X:Cx)(N:List Str)(scope:Scope)(cl:List (Str × Addr))(C:Addr)(s₀:Shared)(H₀:Hp)(ex:List Addr):Cx where
 prog:=X.prog
 w:=X.w
 K:=X.K
 mg:=X.mg
 base:=X.base
 A:=X.A
 N:=N
 s₀:=s₀
 H₀:=H₀
 env:=compEnvC scope cl C X.env
 outer:=X.stack
 stack:=X.stack
 ex:=ex
 fn:=λ_=>false
 calm:=true
 pn:=[]
 xe:=λ_ _=>False
theorem ZhS{env:Env}:∀(names:List (Str × NameKind)) (cs:List (Str × Addr)),(∀y∈names,y.2=.free->∃c,env.cells.lookup y.1=some c)->(∀x c,cs.lookup x=some c->env.cells.lookup x=some c) ->
  ∃cl,(forIn names cs λ(x:Str × NameKind) r=>(match x with | (name,kind)=>if kind==.free then do let c <-cellOf env name; pure (ZBf ((name,c)::r))else pure (ZBf r):Sem (ForInStep (List (Str × Addr)))))=pure cl /\
   (∀x c,cl.lookup x=some c->env.cells.lookup x=some c)/\(∀x,(cs.lookup x).isSome=true->(cl.lookup x).isSome=true)/\∀y∈names,y.2=.free->(cl.lookup y.1).isSome=true
 | [],cs,_,h2=>⟨cs,rfl,h2,λ_ h=>h,λy hy=>by simp at hy⟩
 | (n,k)::r,cs,h1,h2=>by
  rw[List.forIn_cons]
  by_cases hk:(k==ZzZ)=true
  ·obtain⟨c,hc⟩:=h1 (n,k) (ZxU ..) (by simpa using hk)
   have ec:cellOf env n=pure c:=by unfold cellOf; rw[hc]
   obtain⟨cl,e1,e2,e3,e4⟩:=ZhS r ((n,c)::cs) (λy hy=>h1 y (ZxW _ hy)) (λx d hx=>by
    rw[ZzB]at hx;split at hx
    ·rename_i hb
     have:x=n:=by simpa using hb
     cases hx; rw[this]; exact hc
    ·exact h2 x d hx)
   refine⟨cl,?_,e2,λx hx=>e3 x ?_,λy hy hf=>?_⟩
   ·simp only[hk,if_true,ec,pure_bind]
    exact e1
   ·rw[ZzB]
    split
    ·rfl
    ·exact hx
   ·rcases Zye.mp hy with e | hy
    ·subst e
     exact e3 n (by rw[ZzB]; simp)
    ·exact e4 y hy hf
  ·obtain⟨cl,e1,e2,e3,e4⟩:=ZhS r cs (λy hy=>h1 y (ZxW _ hy)) h2
   refine⟨cl,?_,e2,e3,λy hy hf=>?_⟩
   ·simp only[hk,if_false,pure_bind,ZzF]
    exact e1
   ·rcases Zye.mp hy with e | hy
    ·subst e
     exact absurd (by simpa using hf) hk
    ·exact e4 y hy hf
theorem Zfg{scope:Scope}{env:Env}(h:∀y∈scope.names,y.2=.free->∃c,env.cells.lookup y.1=some c) :
  ∃cl,closureFor scope env=pure cl/\(∀x c,cl.lookup x=some c->env.cells.lookup x=some c)/\∀y∈scope.names,y.2=.free->(cl.lookup y.1).isSome=true:=by
 obtain⟨cl,e1,e2,_,e4⟩:=ZhS (env:=env) scope.names [] h (λx c hx=>by simp at hx);refine⟨cl,?_,e2,e4⟩;unfold closureFor;exact(congrArg (λm:Sem (List (Str × Addr))=>m >>= λcs=>pure cs) e1).trans (pure_bind cl λcs=>pure cs)
theorem Ext.chg{F H F' H':Hp}(x:Ext F H F' H'){p:Addr}(o:HO)(h1:H p=none)(h2:F' p=none)(h3:∀u,H' p=some u->Zlf u=true):Ext F H F' (upd H' p o) :=
 ⟨x.ff,λb q z=>by
  have hb:b≠p:=Zaw z h1;have y:=x.hh b q z;unfold Zc5 at y ⊢;rw[ZA hb];exact y,λb q z=>by rw[ZA (Zaw z h2)]; exact x.sub b q z,x.new,λt=>(x.tab t).keep λa u z hu=>by
   have ha:a≠p:=λe=>by subst e; exact ZrN (h3 u z) hu
   rw[ZA ha]; exact z,x.nts⟩
theorem At.push{K:ZxR}{F0 H0 F H:Hp}{r:HM.Env}{σ:L2.St}{d:PyData}{v:V}(e:At K F0 H0 F H r σ)(q:Rep K F d v):At K F0 H0 F H (some (.pl d)::r) (some v::σ):=by
 obtain⟨fp,e⟩:=e;refine⟨λi=>match i with | 0=>[] | i+1=>fp i,e.ext,by rw[Zx8,Zx8,e.len],λi b h=>?_,λi h=>?_,λi a h=>?_,λi=>?_,λi j a hij h=>?_,e.tb,e.nt⟩
 ·cases i with
  | zero=>rw[ZAg]at h;cases h;exact⟨v,rfl,.pl q⟩
  | succ i=>rw[Zyw]at h;obtain⟨u,h1,h2⟩:=e.at_ i b h;exact⟨u,by rw[Zyw]; exact h1,h2⟩
 ·cases i with
  | zero=>rfl
  | succ i=>exact e.emp i λb z=>h b (by rw[Zyw]; exact z)
 ·cases i with
  | zero=>simp at h
  | succ i=>exact e.own i a h
 ·cases i with
  | zero=>exact ZzE
  | succ i=>exact e.nd i
 ·cases i with
  | zero=>simp at h
  | succ i =>
   cases j with
   | zero=>simp
   | succ j=>exact e.dis i j a (by omega) h
theorem At.chgNew{K:ZxR}{F0 H0 F H:Hp}{r:HM.Env}{σ:L2.St}{p:Addr}(o:HO){Hs Fs:Hp}(e:At K F0 H0 F H r σ)(es:At K F0 H0 Fs Hs r σ)(hs:ZaF Hs H)(h1:Hs p=none)(h2:F p=none)(h3:∀u,H p=some u->Zlf u=true):At K F0 H0 F (upd H p o) r σ:=by
 obtain⟨fp,e⟩:=e;obtain⟨fq,es⟩:=es;have hp:∀i,¬p∈fp i:=λi hm=>by
  obtain⟨b,hb⟩:=e.bound hm;obtain⟨v,q1,q2⟩:=e.at_ i b hb;obtain⟨v',q3,q4⟩:=es.at_ i b hb;rw[q1]at q3;cases q3;generalize fp i=f1 at q2 hm;generalize fq i=f2 at q4;cases q2 with
  | pl _=>simp at hm
  | hd _ _ _ _=>simp at hm
  | hf _=>simp at hm
  | ol k _=>cases q4 with | ol k' _=>simp at hm; subst hm; rw[h1]at k'; cases k'
  | ok k _ _=>cases q4 with | ok k' _ _=>simp at hm; subst hm; rw[h1]at k'; cases k'
  | ot k _ _=>cases q4 with | ot k' _ _=>simp at hm; subst hm; rw[h1]at k'; cases k'
  | otl k _ v1 _ =>
   cases q4 with
   | otl k' hk' v2 r2' =>
    have eo:=hs.back k' k λ_ z=>by cases z
    cases eo;have v2':=v2;rw[v1]at v2;rcases Zye.mp hm with z2 | z2
    ·subst z2; rw[h1]at k'; cases k'
    ·have:V.ref p∈ZBm V.ref _:=Zx3.mpr ⟨p,z2,rfl⟩
     rw[v2]at this;obtain⟨a',m1,m2⟩:=Zx3.mp this;injection m2 with m2
     subst m2;obtain⟨o,ho⟩:=Zak.there (Zak.otl k' hk' v2' r2') (ZxW _ m1);rw[h1]at ho; cases ho
 have hH0:H0 p=none:=es.ext.hh.free h1;refine⟨fp,e.ext.chg o hH0 h2 h3,e.len,λi b h=>?_,e.emp,e.own,e.nd,e.dis,e.tb,e.nt⟩;obtain⟨v,q1,q2⟩:=e.at_ i b h;refine⟨v,q1,q2.mono (Zp.refl F) λa ha o' z=>?_⟩;have hne:a≠p:=λe=>hp i (by rw[<-e]; exact ha);exact .of (by rw[ZA hne]; exact z)
end HP
namespace HP
open PySem PySem.Spec PyProof.Rows L2
variable[FX]
structure Zdn(X:Cx)(N:List Str)(scope:Scope)(fr:List Str):Prop where
 kind:scope.kind=.function
 cell:∀y∈scope.names,y.2≠.cell
 names:∀y∈scope.names,y.2=.local->scope.names.lookup y.1=some .local
 loc:∀x∈fr,scope.names.lookup x=some .local
 first:∀(i:Nat) (x:Str),fr[i]?=some x->N[i]?=some x
 nd:N.Nodup
 len:N.length=X.N.length+fr.length
 cap:∀y∈scope.names,y.2=.free->X.env.kindOf y.1=some .cell\/X.env.kindOf y.1=some .free
 same:∀(i:Nat) (y:Str),N[i+fr.length]?=some y->scope.names.lookup y=some .free->X.N[i]?=some y
 vis:∀(i:Nat) (y:Str),N[i+fr.length]?=some y->Vis scope y->scope.names.lookup y=some .free
def goG(dec:PyData->Option (List PyData))(c:HM.TF)(e:HM.EF)(r:HM.Env):List PyData->Option (List PyData)
 | []=>some []
 | x::xs=>match dec x with
  | some ys=>match c (ys.map (λd=>some (HM.B.pl d))++r)with
   | some true=>match e (ys.map (λd=>some (HM.B.pl d))++r)with
    | some y=>(goG dec c e r xs).map (y::·)
    | none=>none
   | some false=>goG dec c e r xs
   | none=>none
  | none=>none
def ZeZ(dec:PyData->Option (List PyData))(i:HM.IF)(c:HM.TF)(e:HM.EF):HM.BF:=λr=>match i r with
 | some xs=>if xs.length<HM.big then(goG dec c e r xs).map λys=>HM.B.ol ys else none
 | none=>none
def ZiN(Y:Cx)(m:Nat)(tg:Expr)(dec:PyData->Option (List PyData)):Prop:=∀(pins:List (Addr × Obj)) (s:Shared) (σ:L2.St) (sv:List (Option V)) (H F:Hp) (d:PyData) (ys:List PyData) (xv:V) (u:Value),sv.length=m->Inv Y pins (sv++σ) H s->RelV xv u->Zp F H->Rep Y.K F d xv->dec d=some ys ->
 wpAny (model Y.prog Y.w) Y.A (assign tg Y.env u) (λ_ s'=>∃vs:List V,vs.length=m/\Inv Y pins (vs.map some++σ) H s'/\Zu Y.K F ys vs) Y.xe s
theorem At.pushes{K:ZxR}{F0 H0 F H:Hp}{r:HM.Env}{σ:L2.St}:∀{ds:List PyData} {vs:List V},At K F0 H0 F H r σ->Zu K F ds vs->At K F0 H0 F H (ds.map (λd=>some (HM.B.pl d))++r) (vs.map some++σ)
 | [],vs,e,q=>by rw[q.nil_inv];exact e
 | d::ds,vs,e,q=>by obtain⟨v,us,rfl,r1,r2⟩:=q.cons_inv;exact(At.pushes e r2).push r1
section
variable{X:Cx}{N:List Str}{scope:Scope}{fr:List Str}{cl:List (Str × Addr)}{C:Addr}
theorem Zbv{env:Env}{y:Str}{k:NameKind}:∀{names:List (Str × NameKind)},(names.map λ(n,k)=>if(k==ZzZ&&env.scope.kind==.function&&env.kindOf n==some .cell)then(n,NameKind.cell)else(n,k)).lookup y=some k ->
  names.lookup y=some k\/(k=.cell/\names.lookup y=some .free)
 | [],h=>by simp at h
 | (n,k')::r,h=>by
  have ih:=@Zbv env y k r;rw[ZxY]at h;dsimp only at h
  by_cases hc:(k'==ZzZ&&env.scope.kind==.function&&env.kindOf n==some .cell)=true
  ·rw[if_pos hc,ZzB]at h
   rw[ZzB];split at h
   ·cases h
    refine .inr ⟨rfl,?_⟩;have:(k'==ZzZ)=true:=by rw[Zyd,Zyd]at hc;exact hc.1.1
    rw[show k'=ZzZ by simpa using this]
   ·exact ih h
  ·rw[if_neg hc,ZzB]at h
   rw[ZzB];split at h
   ·cases h
    exact .inl rfl
   ·exact ih h
theorem lookup_mem{y:Str}{k:NameKind}:∀{names:List (Str × NameKind)},names.lookup y=some k->(y,k)∈names
 | [],h=>by simp at h
 | (n,k')::r,h=>by
  rw[ZzB]at h;split at h
  ·cases h
   rename_i hb;rw[show y=n by simpa using hb];exact ZxU ..
  ·exact ZxW _ (lookup_mem h)
theorem Zux{pins:List (Addr × Obj)}{σ:L2.St}{H:Hp}{s:Shared}{fp:List Addr}(T:Zdn X N scope fr)(hcl:∀y c,cl.lookup y=some c->X.env.cells.lookup y=some c)(hfr:∀y∈scope.names,y.2=.free->(cl.lookup y.1).isSome=true)
  (I:Inv X pins σ H s) (hc:X.calm=true) (hf:∀b∈fp,Zf2 X pins H b) (hfl:∀b∈fp,b<s.heap.objs.size) (hC:s.heap.objs.size<=C):(ZU X N scope cl C s H fp).Ok:=by
 refine⟨I.ok.mod,T.kind,I.ok.glob,I.ok.blt,hC,λy z c h1 h2=>I.ok.inj y z c (hcl y c h1) (hcl z c h2),λy h=>?_,λy c h=>?_,λ_=>I.ok.hd hc,I.ok.frames,.inl rfl,λb hb=>⟨?_,λy c h=>?_⟩,λb o h=>I.bs b o h,
  ZyG I.ok.bsz I.sz,λb o h hb=>?_,λb hb hs=>?_,I.stack,I.stkFree⟩
 ·have h':(relabel scope X.env).names.lookup y=some .cell\/(relabel scope X.env).names.lookup y=some .free:=h
  have hm:(y,ZzZ)∈scope.names:=by
   rcases h' with h' | h'
   ·rcases Zbv h' with q | ⟨_,q⟩
    ·exact absurd rfl (T.cell _ (lookup_mem q))
    ·exact lookup_mem q
   ·rcases Zbv h' with q | ⟨e,_⟩
    ·exact lookup_mem q
    ·cases e
  exact Zys.mp (hfr _ hm rfl)
 ·exact absurd h (by show ¬false=true; simp)
 ·exact Zyf (Zyl (hfl b hb) hC)
 ·obtain⟨_,_,_,_,q,_⟩:=hf b hb
  exact q y c (hcl y c h)
 ·obtain⟨_,_,_,q,_⟩:=hf b hb
  rcases q with q | q
  ·exact I.ok.noex b o h q
  ·exact absurd (Zyl (Zx7 h) (ZyG I.ok.bsz q)) (Zzz _)
 ·obtain⟨_,q1,q2,_⟩:=hf b hb
  rcases Zye.mp (I.stkSub b hs)with z | z
  ·exact q1 z
  ·exact q2 z
theorem ZnS{pins:List (Addr × Obj)}{σ:L2.St}{H:Hp}{s:Shared}{fp:List Addr}{D:Addr}{h1:Heap}{tk:Nat}(T:Zdn X N scope fr)(hcl:∀y c,cl.lookup y=some c->X.env.cells.lookup y=some c)(hfr:∀y∈scope.names,y.2=.free->(cl.lookup y.1).isSome=true)
  (I:Inv X pins σ H s) (hc:X.calm=true) (hf:∀b∈fp,Zf2 X pins H b) (hfl:∀b∈fp,b<s.heap.objs.size) (hD:s.heap.objs.size=D) (hC:D<C) (ns:h1.Ns C (λ_=>none)) (hl:h1.get? D=some { cls:=.type "list",data:=.seq #[] 0 })
  (k:∀b o,s.heap.get? b=some o->h1.get? b=some o):Inv (ZU X N scope cl C s H fp) [] (Zyp fr.length none++σ) (upd H D (.lst [])) { s with heap:=h1,toks:=tk }:=by
 have hn:H D=none:=I.hok.fresh (ZBg hD);have hDC:s.heap.objs.size<=C:=ZyG (ZBg hD) (ZzG hC);have hCn:H C=none:=I.hok.fresh hDC;refine⟨Zux T hcl hfr I hc hf hfl hDC,rfl,I.bare,Un.laid k (ZBg hD) hn,⟨_,ns,λi y v e1 e2 e3=>?_⟩,λy c h=>?_,?_,λy c h=>?_,λp hp=>absurd (show p∈([]:List (Addr × Obj)) from hp) (by simp),I.hok.laid k (ZBg hD) ⟨Zzu _,[],0,.nil,hl⟩,?_⟩
 ·have hge:fr.length<=i:=by
   apply ZAv;intro hlt;rw[ZyE (by rw[ZyC]; exact hlt),ZAf,if_pos hlt]at e2;cases e2
  rw[ZyA (by rw[ZyC]; exact hge),ZyC]at e2;obtain⟨j,rfl⟩:∃j,i=j+fr.length:=⟨i-fr.length,by omega⟩;rw[Nat.add_sub_cancel]at e2
  ·have e3':Vis scope y:=by
    have e3:Vis (relabel scope X.env) y:=e3;rcases e3 with q | q | q
    ·rcases Zbv q with q | ⟨z,_⟩
     ·exact .inl q
     ·cases z
    ·rcases Zbv q with q | ⟨_,q⟩
     ·exact .inr (.inl q)
     ·exact .inr (.inr q)
    ·rcases Zbv q with q | ⟨z,_⟩
     ·exact .inr (.inr q)
     ·cases z
   have hfree:=T.vis j y e1 e3';have hm:=lookup_mem hfree;have hN:=T.same j y e1 hfree;have hcap:=T.cap _ hm rfl;obtain⟨m,_,hl⟩:=I.loc;obtain⟨u,ru,lu⟩:=hl j y v hN e2 (by
    rcases hcap with q | q
    ·exact .inr (.inl q)
    ·exact .inr (.inr q))
   refine⟨u,ru,?_⟩;obtain⟨c,hcc⟩:=Zys.mp (hfr _ hm rfl);rcases lu with⟨q,_⟩ | ⟨_,c',e,z⟩
   ·rcases hcap with q' | q'<;>(rw[q']at q; cases q)
   ·refine .inr ⟨?_,c,hcc,?_⟩
    ·rcases e3 with q | q | q
     ·have q:(relabel scope X.env).names.lookup y=some .local:=q
      rcases Zbv q with q | ⟨z,_⟩
      ·rw[hfree]at q; cases q
      ·cases z
     ·exact .inl q
     ·exact .inr q
    ·rw[hcl y c hcc]at e
     cases e;obtain⟨o,ho,hd⟩:=z;exact⟨o,k _ _ ho,hd⟩
 ·obtain⟨v,o,ho,hd⟩:=I.cell y c (hcl y c h)
  exact⟨v,o,k _ _ ho,hd⟩
 ·show upd H D (.lst []) C=none
  rw[ZA (ZAH hC)];exact hCn
 ·have hq:=I.freeC y c (hcl y c h)
  obtain⟨v,o,ho,_⟩:=I.cell y c (hcl y c h);have:c≠D:=Zyf (by rw[<-hD]; exact Zx7 ho);rw[ZA this];exact hq
 ·show(Zyp fr.length none++σ).length=N.length
  rw[Zyc,ZyC,I.len,T.len,Nat.add_comm]
def XTs(Y:Cx)(ifs:List Expr)(f:HM.TF):Prop:=∀r c,f r=some c->∀(pins:List (Addr × Obj)) (s:Shared) (σ:L2.St) (H:Hp) (Q:Bool->Hp->Prop),Inv Y pins σ H s->(Now Y.K r σ H λF0 H0 F=>∀F' H',Ext F H F' H'->Q c H') ->
 wpAny (model Y.prog Y.w) Y.A (Zpz ifs Y.env) (TP Y pins σ Q) Y.xe s
theorem ZbB{Y:Cx}:XTs Y [] HM.Zam:=by intro r c h pins s σ H Q I ⟨F0,H0,F,at_,k⟩;cases h;exact wpAny_tests_nil ⟨H,I,k F H at_.refl⟩
theorem ZcS{Y:Cx}{e:Expr}{f:HM.TF}(h:XT Y e f):XTs Y [e] f:=λr c hc pins s σ H Q I q=>wpAny_tests_one (h r c hc pins s σ H Q I q)
def ItE(K:ZxR)(J:It)(ds:List PyData)(F:Hp):Prop:=∀F' H,Zp F F'->Zp F' H ->
 (∀(i:Nat) (d:PyData),ds[i]?=some d->J.go i H/\∀x H',J.yld i H x H'->∃F2,Ext (ZcD F' H) H F2 H'/\Rep K F2 d x)/\J.stop ds.length H
theorem ItD.e{K:ZxR}{J:It}{ds:List PyData}{F:Hp}(h:ItD K J ds F):ItE K J ds F:=λF' H s1 s2=>by obtain⟨a,b⟩:=h F' H s1 s2;refine⟨λi d hd=>⟨(a i d hd).1,λx H' hy=>?_⟩,b⟩;obtain⟨e,r⟩:=(a i d hd).2 x H' hy;subst e;exact⟨_,.refl (Ext.refl s2).tups.sub,r⟩
def XIE(X:Cx)(tg e:Expr)(f:HM.IF):Prop:=∀r ds,f r=some ds->PI X tg e λσ H R=>Now X.K r σ H λF0 H0 F=>∀J F' H',Ext F H F' H'->ItE X.K J ds F'->R J H'
theorem XI.e{X:Cx}{tg e:Expr}{f:HM.IF}(h:XI X tg e f):XIE X tg e f:=λr ds hr pins s σ H R I ⟨F0,H0,F,at_,k⟩=>h r ds hr pins s σ H R I ⟨F0,H0,F,at_,λJ F' H' x q=>k J F' H' x q.e⟩
theorem Zos{pins:List (Addr × Obj)}{σ:L2.St}{H1:Hp}{s2:Shared}{fp:List Addr}{it D:Addr}{tn:Nat->Heap->Prop}{J:It}{elt iter:Expr}{ifs:List Expr}{tg:Expr}{pos:Pos}{dec:PyData->Option (List PyData)}{fc:HM.TF}{fe:HM.EF}{s4:Shared}{r:HM.Env}{ds out:List PyData}{Fs Hs F0 H0 F1:Hp}
  {R:Result->Shared->Prop} (T:Zdn X N scope fr) (I2:Inv X pins σ H1 s2) (W:Turn X.prog X.w X.K tg J fp it tn) (hf:∀b∈fp,Zf2 X pins H1 b)
  (I4:Inv (ZU X N scope cl C s2 H1 fp) [] (Zyp fr.length none++σ) (upd H1 D (.lst [])) s4) (tn0:tn 0 s4.heap) (hD:s2.heap.objs.size<=D) (hfl:∀b∈fp,b<s2.heap.objs.size) (hbl:X.calm=true)
  (hc:XTs (ZU X N scope cl C s2 H1 fp) ifs fc) (he:XE (ZU X N scope cl C s2 H1 fp) elt fe) (at_:At X.K F0 H0 Fs Hs r σ) (x1:Ext Fs Hs F1 H1) (itd:ItE X.K J ds F1) (hbind:ZiN (ZU X N scope cl C s2 H1 fp) fr.length tg dec) (hbig:ds.length<HM.big) (go:goG dec fc fe r ds=some out)
  (hR:∀s',(∃F H vs,Inv (ZU X N scope cl C s2 H1 fp) [] (Zyp fr.length none++σ) H s'/\Ext Fs Hs F H/\H D=some (.lst vs)/\F D=none/\Zu X.K F out vs)->R (.ok .next) s') :
  codeAny (model X.prog X.w) X.A (.compLoop (.ListComp elt [⟨tg,iter,ifs,0⟩] scope pos) 0 (.ref it) (.ref D) (compEnvC scope cl C X.env)) R s4:=by
 have hH1D:H1 D=none:=I2.hok.fresh hD;have hHsD:Hs D=none:=x1.hh.free hH1D;have hF1D:F1 D=none:=x1.sub.free hH1D;have hfpD:∀b∈fp,b≠D:=λb hb=>Zyf (Zyl (hfl b hb) hD);have okY:=I4.ok;have stat:∀{H:Hp},(∀b∈fp,H b=none)->∀b∈fp,Zf2 (ZU X N scope cl C s2 H1 fp) [] H b:=λhn b hb=>⟨hn b hb,(okY.exf b hb).1,okY.exfs b hb,.inl hb,(okY.exf b hb).2,λp hp=>absurd (show p∈([]:List (Addr × Obj)) from hp) (by simp)⟩;refine ZrX (λn s'=>∃(j:Nat) (sv:List (Option V)) (F H:Hp) (ys:List PyData) (vs:List V) (rest:List PyData),sv.length=fr.length/\Inv (ZU X N scope cl C s2 H1 fp) [] (sv++σ) H s'/\tn j s'.heap/\(∀b∈fp,H b=none)/\Ext Fs Hs F H/\Zp F1 F/\At X.K F0 H0 F H r σ /\
  H D=some (.lst vs)/\F D=none/\Zu X.K F ys vs/\j+n=ds.length/\ys.length<=j/\goG dec fc fe r (ds.drop j)=some rest/\out=ys++rest) ?_ ds.length
  ⟨0,Zyp fr.length none,F1,_,[],[],out,ZyC,I4,tn0,λb hb=>by rw[ZA (hfpD b hb)]; exact(hf b hb).1,x1.lay' hH1D,Zp.refl _,(at_.grow x1).grow ((at_.grow x1).refl.lay' hH1D),ZF,hF1D,.nil,by omega,Zx2 _,go,rfl⟩
 rintro n s5 ⟨j,sv,F,H,ys,vs,rest,hsv,I5,tn5,hfp5,x5,sF,at5,hHD,hFD,rys,hjn,hyl,hgo,hout⟩
 obtain⟨it1,it2⟩:=itd F H sF at5.sub;cases n with
 | zero =>
  have ej:j=ds.length:=by omega
  subst ej;rw[ZBT]at hgo;cases hgo;rw[Zyu]at hout;subst hout;refine thn (W.done (ZU X N scope cl C s2 H1 fp) rfl rfl rfl rfl _ [] s5 _ H No I5 (stat hfp5) tn5 it2) λrv s6 ⟨e,I6⟩=>?_;subst e;refine hR s6 ⟨F,H,vs,I6.weak (by rw[Zyc,Zyc,ZyC,hsv]) λi v hv=>?_,x5,hHD,hFD,rys⟩
  by_cases hi:i<fr.length
  ·rw[ZyE (by rw[ZyC]; exact hi),ZAf,if_pos hi]at hv
   cases hv
  ·rw[ZyA (by rw[ZyC]; omega),ZyC]at hv
   rw[ZyA (by omega),hsv];exact hv
 | succ n =>
  have hlt:j<ds.length:=by omega
  obtain⟨jg,jy⟩:=it1 j ds[j] (Zx5 hlt);obtain⟨F2,x5,sF,at5,hFD,rys,jy⟩:∃F2,Ext Fs Hs F2 H/\Zp F1 F2/\At X.K F0 H0 F2 H r σ/\F2 D=none/\Zu X.K F2 ys vs/\∀x H',J.yld j H x H'->∃F3,Ext F2 H F3 H'/\Rep X.K F3 ds[j] x :=
   ⟨ZcD F H,x5.tups,sF.trans (Zc1 at5.sub),at5.grow at5.refl.tups,by unfold ZcD; rw[hHD]; exact hFD,rys.mono (Zc1 at5.sub),jy⟩
  clear it1 it2
  rw[ZAE hlt]at hgo;refine thn (W.item (ZU X N scope cl C s2 H1 fp) rfl rfl rfl rfl j [] s5 _ H No I5 (stat hfp5) tn5 jg) λrv s6 ⟨u,e,h6⟩=>?_;subst e;refine thn h6 λ_ s7 ⟨xv,H7,I7,r7,y7,tn7,fr7⟩=>?_;obtain⟨F7,x7,rx⟩:=jy xv H7 y7;obtain⟨F2,x5,sF,at5,hHD,hFD,rys,rx⟩:∃F2,Ext Fs Hs F2 H7/\Zp F1 F2/\At X.K F0 H0 F2 H7 r σ/\H7 D=some (.lst vs)/\F2 D=none/\Zu X.K F2 ys vs/\Rep X.K F2 ds[j] xv:=by
   refine⟨F7,x5.trans x7,sF.trans x7.ff,at5.grow x7,x7.hh _ _ hHD,?_,rys.mono x7.ff,rx⟩;cases q:F7 D with
   | none=>rfl
   | some o =>
    rcases x7.new D o q with z | z
    ·rw[hFD]at z; cases z
    ·exact(z.no hHD λ_ q=>by cases q).elim
  have I7':=I7.pinned (stat fr7) (W.obj _ _ tn7);unfold goG at hgo;split at hgo
  case h_2=>cases hgo
  rename_i zs hzs;have dok:=hbind _ s7 σ sv H7 F2 ds[j] zs xv u hsv I7' r7 at5.sub rx hzs;refine thn dok λ_ s8 ⟨ws,hws,I8,rws⟩=>?_;have atp:=at5.pushes rws;have again:∀{s9:Shared} {F9 H9:Hp} {zs9:List PyData} {ws9:List V} {rest':List PyData},Inv (ZU X N scope cl C s2 H1 fp) ([]++Ziu fp s7.heap) (ws.map some++σ) H9 s9->Ext Fs Hs F9 H9->Zp F2 F9->At X.K F0 H0 F9 H9 r σ->H9 D=some (.lst ws9)->F9 D=none->Zu X.K F9 zs9 ws9->zs9.length<=j+1->goG dec fc fe r (ds.drop (j+1))=some rest'->out=zs9++rest' ->
    ∃m,m<n+1/\∃(j:Nat) (sv:List (Option V)) (F2 H:Hp) (ys:List PyData) (vs:List V) (rest:List PyData),sv.length=fr.length/\Inv (ZU X N scope cl C s2 H1 fp) [] (sv++σ) H s9/\tn j s9.heap/\(∀b∈fp,H b=none)/\Ext Fs Hs F2 H/\Zp F1 F2/\At X.K F0 H0 F2 H r σ /\
     H D=some (.lst vs)/\F2 D=none/\Zu X.K F2 ys vs/\j+m=ds.length/\ys.length<=j/\goG dec fc fe r (ds.drop j)=some rest/\out=ys++rest:=by
   intro s9 F9 H9 zs9 ws9 rest' I9 x9 s9F a9 h9 f9 r9 l9 g9 o9;refine⟨n,Zz8 n,j+1,ws.map some,F9,H9,zs9,ws9,rest',by rw[ZxS]; exact hws,I9.unpinned,W.keep _ _ _ tn7 λb hb o e=>(I9.pin (b,o) (Zyn _ (Zyn _ (Zft hb e)))).1,λb hb=>?_,x9,sF.trans s9F,a9,h9,f9,r9,by omega,l9,g9,o9⟩;obtain⟨o,e,d⟩:=W.obj _ _ tn7 b hb;exact(I9.pin (b,o) (Zyn _ (Zyn _ (Zft hb e)))).2.1
  have noD:∀{F' H':Hp},Ext F2 H7 F' H'->F' D=none:=λ{F' H'} y=>by
   cases q:F' D with
   | none=>rfl
   | some o =>
    rcases y.new D o q with z | z
    ·rw[hFD]at z; cases z
    ·exact(z.no hHD λ_ q=>by cases q).elim
  split at hgo
  ·rename_i hcv
   split at hgo
   ·rename_i y hy
    obtain⟨rest',g1,g2⟩:=ZxT.mp hgo;subst g2;refine thn (hc _ _ hcv _ s8 _ H7 (λc' H'=>c'=true/\∃F',Ext F2 H7 F' H') I8 ⟨F0,H0,F2,atp,λF' H' y=>⟨rfl,F',y⟩⟩) λok s9 ⟨H9,I9,eok,F9,x9⟩=>?_;subst eok;rw[if_pos rfl];refine thn (he _ _ hy _ s9 _ H9 (λv' H'=>∃F',Ext F9 H9 F' H'/\Rep X.K F' y v') I9 ⟨F0,H0,F9,atp.grow x9,λv' F' H' x q=>⟨F',x,q⟩⟩) λu' s10 ⟨v',H10,I10,r10,F10,x10,q10⟩=>?_;have x910:=x9.trans x10;have hHD':H10 D=some (.lst vs):=x910.hh _ _ hHD;have hFD':=noD x910;refine thn (Zir (X:=ZU X N scope cl C s2 H1 fp) _ s10 _ H10 (.ref D) [v'] (.ref D) [u'] (λ_ H'=>H'=upd H10 D (.lst (vs++[v']))) I10 rfl (.cons r10 .nil) ⟨D,vs,v',rfl,rfl,hHD',?_,rfl⟩) λ_ s11 ⟨_,H11,I11,_,e11⟩=>?_
    ·have:=rys.1
     exact Zg0 (by omega)
    subst e11;refine again (zs9:=ys++[y]) I11 ((x5.trans x910).chg _ hHsD hFD' λu z=>by rw[hHD']at z; cases z; rfl) x910.ff ((at5.grow x910).chgNew _ at_ (x5.trans x910).hh hHsD hFD' λu z=>by rw[hHD']at z; cases z; rfl) ZF hFD' ((rys.mono x910.ff).append (.one q10)) (by rw[Zyc]; show ys.length+1<=j+1; omega) g1 (by rw[hout,Zzv]; rfl)
   ·cases hgo
  ·rename_i hcv
   refine thn (hc _ _ hcv _ s8 _ H7 (λc' H'=>c'=false/\∃F',Ext F2 H7 F' H') I8 ⟨F0,H0,F2,atp,λF' H' y=>⟨rfl,F',y⟩⟩) λok s9 ⟨H9,I9,eok,F9,x9⟩=>?_;subst eok;rw[if_neg (by simp)];exact again (zs9:=ys) I9 (x5.trans x9) x9.ff (at5.grow x9) (x9.hh _ _ hHD) (noD x9) (rys.mono x9.ff) (by omega) hgo hout
  ·cases hgo
theorem ZnY{pins:List (Addr × Obj)}{σ:L2.St}{H1 H:Hp}{s2 s':Shared}{fp:List Addr}{sv:List (Option V)}{h':Heap}(I2:Inv X pins σ H1 s2)(hf:∀b∈fp,Zf2 X pins H1 b)(hC:s2.heap.objs.size<=C)
  (I:Inv (ZU X N scope cl C s2 H1 fp) [] (sv++σ) H s') (hs:ZzH C s'.heap h'):Inv X pins σ H { s' with heap:=h' }:=by
 have u:Un (frs X.stack) fp H1 H s2.heap s'.heap:=I.base;have hCn:H C=none:=I.free;have ne:∀b o,s2.heap.get? b=some o->b≠C:=λb o e=>Zyf (Zyl (Zx7 e) hC);refine I2.call' (s':={ s' with heap:=h' }) (ch:=fp) I.os ⟨λb o e n hb hx=>(hs.2 b (ne b o e)).trans (u.keep b o e n hb hx),λb o e n hb hx=>?_,u.free,λb o e hx=>?_,u.tups,u.frzs,u.tbls⟩ (λb o e=>?_) I.bare λb hb=>?_
 ·obtain⟨sl,q⟩:=u.slot b o e n hb hx
  exact⟨sl,(hs.2 b (ne b o e)).trans q⟩
 ·obtain⟨o',q⟩:=u.there b o e hx
  exact⟨o',(hs.2 b (ne b o e)).trans q⟩
 ·refine(I.hok b o e).stay (λc w' hc q=>(hs.2 c ?_).trans q) (λ_ q=>q) λ_ _ q=>q
  rintro rfl
  rcases hc with rfl | hc
  ·rw[hCn]at e; cases e
  ·rw[hCn]at hc; cases hc
 ·obtain⟨q0,q1,q2,q3,q4,q5⟩:=hf b hb
  exact⟨q3,q1,q4,q5⟩
variable{elt iter:Expr}{ifs:List Expr}{tg:Expr}{pos:Pos}{fi:HM.IF}{dec:PyData->Option (List PyData)}{fc:HM.TF}{fe:HM.EF}
theorem Zoc{pins:List (Addr × Obj)}{σ:L2.St}{H:Hp}{s:Shared}(T:Zdn X N scope fr)(I:Inv X pins σ H s):∀y∈scope.names,y.2=.free->∃c,X.env.cells.lookup y.1=some c:=λy hy e=>I.ok.has y.1 (T.cap y hy e)
theorem Zmw(hxe:X.xe=λ_ _=>False)(hcalm:X.calm=true)(T:Zdn X N scope fr)(hbind:∀cl C s H ex,ZiN (ZU X N scope cl C s H ex) fr.length tg dec)(hi:XIE X tg iter fi)(hc:∀cl C s H ex,XTs (ZU X N scope cl C s H ex) ifs fc)(he:∀cl C s H ex,XE (ZU X N scope cl C s H ex) elt fe)
  (hs:∀x,Zzh iter X.env x=pure x:=by intro _; rfl):XF X (.ListComp elt [⟨tg,iter,ifs,0⟩] scope pos) (ZeZ dec fi fc fe):=by
 intro r b h;unfold ZeZ at h;split at h
 ·rename_i ds hds
  split at h
  ·rename_i hbig
   obtain⟨out,hgo,e⟩:=ZxT.mp h;subst e;intro pins s σ H Q I ⟨F0,H0,F,at_,k⟩;obtain⟨cl,hclos,hcl,hfr⟩:=Zfg (Zoc T I);rw[eval_ListComp];refine wpAny_comprehension_free (use:=none) rfl hs hclos T.kind T.names (thn (hi r ds hds pins s σ H (λJ H'=>∃F',Ext F H F' H'/\ItE X.K J ds F') I ⟨F0,H0,F,at_,λJ F' H' x q=>⟨F',x,q⟩⟩) λv s1 h1=>thn h1 λitv s2 h2=>?_);obtain⟨it,fp,tn,J,H1,rfl,I2,W,st2,f2,F1,x1,itd⟩:=h2;have hfl:∀b∈fp,b<s2.heap.objs.size:=λb hb=>let ⟨o,ho,_⟩:=W.obj 0 _ st2 b hb; Zx7 ho
   refine ZyQ (ZBh T.cell (by intro y hy; simp at hy) (λh1 hns hsb=>?_) T.kind);dsimp only at hns hsb ⊢;generalize hP:s2.heap.push { cls:=.type "list",dict:=none,data:=.seq ([]:List Value).toArray }=h0 at hns hsb ⊢;have hsz:h0.objs.size=s2.heap.objs.size+1:=by rw[<-hP,ZAs]
   have hDC:s2.heap.objs.size<h0.objs.size:=by rw[hsz]; exact Zz8 _
   have old:∀b o,s2.heap.get? b=some o->h1.get? b=some o:=λb o e=>hsb.extBut b o (Zyf (ZzJ (Zx7 e) hDC)) (ZxX _ (by rw[<-hP]; exact ZxX _ e));have hl:h1.get? s2.heap.objs.size=some { cls:=.type "list",data:=.seq #[] 0 }:=hsb.extBut _ _ (Zyf hDC) (ZxX _ (by rw[<-hP]; exact Zx9 _ rfl));have I4:Inv (ZU X N scope cl h0.objs.size s2 H1 fp) [] (Zyp fr.length none++σ) (upd H1 s2.heap.objs.size (.lst [])) { s2 with heap:=h1,toks:=s2.toks+([]:List (Str × Value)).length }:=ZnS T hcl hfr I2 hcalm f2 hfl rfl hDC hns hl old;have tn1:tn 0 h1:=W.keep _ _ _ st2 λb _ o e=>old b o e;have hHsD:H s2.heap.objs.size=none:=x1.hh.free (I2.hok.fresh (Zx2 _));have loop:codeAny (model X.prog X.w) X.A (.compLoop (.ListComp elt [⟨tg,iter,ifs,0⟩] scope pos) 0 (.ref it) (.ref s2.heap.objs.size) (compEnvC scope cl h0.objs.size X.env)) (compPost (model X.prog X.w) X.A X.xe none (EP X pins σ Q) (.ref s2.heap.objs.size) h0.objs.size)
     { s2 with heap:=h1,toks:=s2.toks+([]:List (Str × Value)).length }:=by
    refine Zos T I2 W f2 I4 tn1 (Zx2 _) hfl hcalm (hc _ _ _ _ _) (he _ _ _ _ _) at_ x1 itd (hbind _ _ _ _ _) hbig hgo λs' ⟨F',H',vs,I',x',hD',hFD',rs⟩=>?_;obtain⟨m,hn,_⟩:=id I'.loc;refine⟨m,hn,λh2 hs2=>⟨.ref s2.heap.objs.size,H',ZnY I2 f2 (ZzG hDC) I' hs2,rfl,k _ F' H' x' ⟨[s2.heap.objs.size],.ol hD' rs,by simp,λa ha=>?_⟩⟩⟩;obtain rfl:a=s2.heap.objs.size:=by simpa using ha
    exact⟨hFD',hHsD⟩
   exact codeAny_compStart_list loop (W.self _ 0 _ _ _ tn1 loop)
  ·cases h
 ·cases h
theorem Zjk(i:Nat){y:Str}{py spos:Pos}(hN:X.N.Nodup)(hxe:X.xe=λ_ _=>False)(hcalm:X.calm=true)(T:Zdn X N scope fr)(hbind:∀cl C s H ex,ZiN (ZU X N scope cl C s H ex) fr.length tg dec)(hi:XIE X tg iter fi)(hc:∀cl C s H ex,XTs (ZU X N scope cl C s H ex) ifs fc)(he:∀cl C s H ex,XE (ZU X N scope cl C s H ex) elt fe)
  (hiy:X.N[i]?=some y:=by rfl) (hy:X.env.scope.names.lookup y=some .local:=by rfl) (hsw:Zz6 (.ListComp elt [⟨tg,iter,ifs,0⟩] scope pos) (some (.Name y py)) spos.line X.env=pure true:=by rfl)
  (hs:∀x,Zzh iter X.env x=pure x:=by intro _; rfl):XS X (.Assign [.Name y py] (.ListComp elt [⟨tg,iter,ifs,0⟩] scope pos) spos) (HM.Z8 i (ZeZ dec fi fc fe)):=by
 intro r o h;obtain⟨b,hb,e⟩:=ZxT.mp h;subst e;unfold ZeZ at hb;split at hb
 ·rename_i ds hds
  split at hb
  ·rename_i hbig
   obtain⟨out,hgo,e⟩:=ZxT.mp hb;subst e;intro pins s σ H E I ⟨F0,H0,F,at_,k⟩;obtain⟨cl,hclos,hcl,hfr⟩:=Zfg (Zoc T I);rw[exec_Assign_Name_used _ _ _ _ hsw];refine ZxQ (wpAny_standAt (ZxQ ?_));show wpAny _ X.A (do let _ <-comprehension (.ListComp elt [⟨tg,iter,ifs,0⟩] scope pos) scope X.env _ (newList []) false (eval iter X.env) (some (assign (.Name y py) X.env))) _ _ s;refine ZxQ (Zy3 (wpAny_comprehension_free (use:=some (assign (.Name y py) X.env)) (Q:=λ_ s'=>SP X pins E .next s') rfl hs hclos T.kind T.names (thn (hi r ds hds pins s σ H (λJ H'=>∃F',Ext F H F' H'/\ItE X.K J ds F') I ⟨F0,H0,F,at_,λJ F' H' x q=>⟨F',x,q⟩⟩) λv s1 h1=>thn h1 λitv s2 h2=>?_)) (λ_ s' hq=>ZxV (ZxV hq)) λ_ _ e=>e)
   obtain⟨it,fp,tn,J,H1,rfl,I2,W,st2,f2,F1,x1,itd⟩:=h2;have hfl:∀b∈fp,b<s2.heap.objs.size:=λb hb=>let ⟨o,ho,_⟩:=W.obj 0 _ st2 b hb; Zx7 ho
   refine ZyQ (ZBh T.cell (by intro y hy; simp at hy) (λh1 hns hsb=>?_) T.kind);dsimp only at hns hsb ⊢;generalize hP:s2.heap.push { cls:=.type "list",dict:=none,data:=.seq ([]:List Value).toArray }=h0 at hns hsb ⊢;have hsz:h0.objs.size=s2.heap.objs.size+1:=by rw[<-hP,ZAs]
   have hDC:s2.heap.objs.size<h0.objs.size:=by rw[hsz]; exact Zz8 _
   have old:∀b o,s2.heap.get? b=some o->h1.get? b=some o:=λb o e=>hsb.extBut b o (Zyf (ZzJ (Zx7 e) hDC)) (ZxX _ (by rw[<-hP]; exact ZxX _ e));have hl:h1.get? s2.heap.objs.size=some { cls:=.type "list",data:=.seq #[] 0 }:=hsb.extBut _ _ (Zyf hDC) (ZxX _ (by rw[<-hP]; exact Zx9 _ rfl));have I4:Inv (ZU X N scope cl h0.objs.size s2 H1 fp) [] (Zyp fr.length none++σ) (upd H1 s2.heap.objs.size (.lst [])) { s2 with heap:=h1,toks:=s2.toks+([]:List (Str × Value)).length }:=ZnS T hcl hfr I2 hcalm f2 hfl rfl hDC hns hl old;have tn1:tn 0 h1:=W.keep _ _ _ st2 λb _ o e=>old b o e;have hHsD:H s2.heap.objs.size=none:=x1.hh.free (I2.hok.fresh (Zx2 _));have loop:codeAny (model X.prog X.w) X.A (.compLoop (.ListComp elt [⟨tg,iter,ifs,0⟩] scope pos) 0 (.ref it) (.ref s2.heap.objs.size) (compEnvC scope cl h0.objs.size X.env)) (compPost (model X.prog X.w) X.A X.xe (some (assign (.Name y py) X.env)) (λ_ s'=>SP X pins E .next s') (.ref s2.heap.objs.size) h0.objs.size)
     { s2 with heap:=h1,toks:=s2.toks+([]:List (Str × Value)).length }:=by
    refine Zos T I2 W f2 I4 tn1 (Zx2 _) hfl hcalm (hc _ _ _ _ _) (he _ _ _ _ _) at_ x1 itd (hbind _ _ _ _ _) hbig hgo λs' ⟨F',H',vs,I',x',hD',hFD',rs⟩=>?_;obtain⟨m,hn,_⟩:=id I'.loc;have IX:Inv X pins σ H' s':=ZnY (h':=s'.heap) I2 f2 (ZzG hDC) I' (ZCD _ _);have hCn:H' h0.objs.size=none:=I'.free;have neL:h0.objs.size≠X.env.locals:=ZAH (ZzJ I2.lt hDC);have neC:∀z c,X.env.cells.lookup z=some c->c≠h0.objs.size:=λz c hz=>by obtain⟨v,o,ho,_⟩:=I2.cell z c hz;exact Zyf (ZzJ (Zx7 ho) hDC)
    have neP:∀p∈X.pn++pins,p.1≠h0.objs.size:=λp hp=>Zyf (ZzJ (Zx7 (I2.pin p hp).1) hDC);show wpAny _ X.A (assign (.Name y py) X.env (.ref s2.heap.objs.size)) _ _ _;refine wpAny_assign_Name (Zlu IX hN hiy (.inl hy) (v:=.ref s2.heap.objs.size) rfl (λs3 I3 hsa=>?_) (.inr hy));obtain⟨a,sa,ea⟩:=hsa;have neA:h0.objs.size≠a:=by
     rcases ea with e | e
     ·rw[e]; exact neL
     ·exact ZyR (neC _ _ e)
    refine⟨m,hn.sameBut sa neA,λh2 hs2=>?_⟩;refine⟨_,H',I3.turned (t':=s3.toks) (it:=h0.objs.size) (λb o hb e=>(hs2.2 b hb).trans e) hCn neL (.inr (ZyG I2.sz (ZzG hDC))) neC neP,k _ F' H' ((at_.grow x').storeNew at_ x'.hh (fp':=[s2.heap.objs.size]) (.ol hD' rs) (by simp) λa ha=>?_)⟩;obtain rfl:a=s2.heap.objs.size:=by simpa using ha
    exact⟨hFD',hHsD⟩
   exact codeAny_compStart_list loop (W.self _ 0 _ _ _ tn1 loop)
  ·cases hb
 ·cases hb
end
end HP
namespace HP
open PySem PySem.Spec PyProof.Rows L2
variable[FX]
def Ztz(d:PyData):Option (List PyData):=some [d]
def ZkX:PyData->Option (List PyData)
 | .tuple [x,y]=>some [x,y]
 | _=>none
theorem ZvQ(c:HM.TF)(e:HM.EF)(r:HM.Env):∀xs,HM.ZaK c e r xs=goG Ztz c e r xs
 | []=>rfl
 | x::xs=>by unfold HM.ZaK goG;rw[ZvQ c e r xs];rfl
theorem Zvd(c:HM.TF)(e:HM.EF)(r:HM.Env):∀xs,HM.ZeO c e r xs=goG ZkX c e r xs
 | []=>rfl
 | x::xs=>by
  have ih:=Zvd c e r xs;unfold HM.ZeO goG;split
  ·rename_i h; cases h
  ·rename_i a b q h
   cases h;rw[ih];rfl
  ·rename_i h1
   have hn:ZkX x=none:=by
    unfold ZkX;split
    ·exact(h1 _ _ _ rfl).elim
    ·rfl
   rw[hn]
theorem ZpG(i:HM.IF)(c:HM.TF)(e:HM.EF):HM.ZR i c e=ZeZ Ztz i c e:=by
 funext r
 unfold HM.ZR ZeZ;cases i r with
 | none=>rfl
 | some xs=>dsimp only; rw[ZvQ]
theorem ZpC(i:HM.IF)(c:HM.TF)(e:HM.EF):HM.Zdc i c e=ZeZ ZkX i c e:=by
 funext r
 unfold HM.Zdc ZeZ;cases i r with
 | none=>rfl
 | some xs=>dsimp only; rw[Zvd]
theorem Znq{K:ZxR}{F:Hp}{d1 d2:PyData}{v:V}(h:Rep K F (.tuple [d1,d2]) v):∃a v1 v2,v=.ref a/\F a=some (.tup [v1,v2])/\Rep K F d1 v1/\Rep K F d2 v2:=by
 cases h with
 | @tup a ds vs h1 h2 h3 =>
  cases vs with
  | nil=>simp at h2
  | cons v1 vs=>cases vs with
   | nil=>simp at h2
   | cons v2 vs=>cases vs with
    | nil=>exact⟨a,v1,v2,rfl,h1,h3 0 _ _ rfl rfl,h3 1 _ _ rfl rfl⟩
    | cons _ _=>simp at h2
section
variable{X:Cx}{N:List Str}{scope:Scope}{x x2:Str}{px px2 pt:Pos}{kt:Nat}
theorem Zsb(T:Zdn X N scope [x])(cl:List (Str × Addr))(C:Addr)(s₀:Shared)(H₀:Hp)(ex:List Addr):ZiN (ZU X N scope cl C s₀ H₀ ex) 1 (.Name x px) Ztz:=by
 intro pins s σ sv H F d ys xv u hsv I r sub q hd;cases hd;have hx:=T.loc x (Zyb.mpr rfl);refine thn (Zfx (X:=ZU X N scope cl C s₀ H₀ ex) (i:=0) T.nd (T.first 0 x rfl) (.inl (ZzK hx)) (.inr (ZzK hx)) _ s _ H xv u (λσ' H'=>σ'=(sv++σ).set 0 (some xv)/\H'=H) I r ⟨rfl,rfl⟩) λ_ s' ⟨σ',H',I',e1,e2⟩=>?_
 subst e1 e2;refine⟨[xv],rfl,?_,.one q⟩;cases sv with
 | nil=>simp at hsv
 | cons a sv=>cases sv with
  | nil=>exact I'
  | cons _ _=>simp at hsv
theorem ZrD(T:Zdn X N scope [x,x2])(cl:List (Str × Addr))(C:Addr)(s₀:Shared)(H₀:Hp)(ex:List Addr):ZiN (ZU X N scope cl C s₀ H₀ ex) 2 (.Tuple [.Name x px,.Name x2 px2] kt pt) ZkX:=by
 intro pins s σ sv H F d ys xv u hsv I r sub q hd;have hx:=T.loc x (ZxU ..);have hx2:=T.loc x2 (ZxW _ (ZxU ..));unfold ZkX at hd;split at hd
 ·rename_i d1 d2
  cases hd;obtain⟨pa,v1,v2,e7,hpa,rx1,rx2⟩:=Znq q;subst e7;refine thn (Zq7 (X:=ZU X N scope cl C s₀ H₀ ex) (n:=2) rfl (ZhN (Zfx (X:=ZU X N scope cl C s₀ H₀ ex) (i:=0) T.nd (T.first 0 x rfl) (.inl (ZzK hx)) (.inr (ZzK hx))) (ZhN (Zfx (X:=ZU X N scope cl C s₀ H₀ ex) (i:=1) T.nd (T.first 1 x2 rfl) (.inl (ZzK hx2)) (.inr (ZzK hx2))) Zpp)) rfl rfl _ s _ H (.ref pa) u (λσ' H'=>σ'=((sv++σ).set 0 (some v1)).set 1 (some v2)/\H'=H) I r ⟨pa,[v1,v2],rfl,.of (sub _ _ hpa),rfl,v1,[v2],rfl,v2,[],rfl,rfl,rfl,rfl⟩) λ_ s' ⟨σ',H',I',e1,e2⟩=>?_
  subst e1 e2;refine⟨[v1,v2],rfl,?_,.cons rx1 (.one rx2)⟩;cases sv with
  | nil=>simp at hsv
  | cons a sv=>cases sv with
   | nil=>simp at hsv
   | cons b sv=>cases sv with
    | nil=>exact I'
    | cons _ _=>simp at hsv
 ·cases hd
def Zrx(kinds:Str->Option NameKind)(XN N:List Str)(names:List (Str × NameKind))(fr:List Str):Bool :=
 names.all (λy=>y.2 != .cell)&&names.all (λy=>y.2 != .local||names.lookup y.1==some .local)&&fr.all (λx=>names.lookup x==some .local)&&(ZxZ fr.length).all (λi=>N[i]?==fr[i]?)&&decide N.Nodup&&N.length==XN.length+fr.length &&
 names.all (λy=>y.2 != .free||kinds y.1==some .cell||kinds y.1==some .free) &&
 (ZxZ (N.length-fr.length)).all (λi=>match N[i+fr.length]? with
  | some y=>(names.lookup y != some .free||XN[i]?==some y)&&(names.lookup y==some .free||(names.lookup y != some .local&&names.lookup y != some .cell))
  | none=>true)
theorem ZL{X:Cx}{N XN:List Str}{scope sc:Scope}{fr:List Str}(hs:X.env.scope=sc:=by rfl)(hN:X.N=XN:=by rfl)(hk:scope.kind=.function:=by rfl)(h:Zrx (λy=>sc.names.lookup y) XN N scope.names fr=true:=by decide +kernel):Zdn X N scope fr:=by
 subst hN;unfold Zrx at h;simp only[Zyd,Zx0,Zzm,bne_iff_ne,beq_iff_eq,decide_eq_true_eq]at h;obtain⟨⟨⟨⟨⟨⟨⟨h1,h2⟩,h3⟩,h4⟩,h5⟩,h6⟩,h7⟩,h8⟩:=h;have at_:∀(i:Nat) (y:Str),N[i+fr.length]?=some y->(scope.names.lookup y≠some .free\/X.N[i]?=some y)/\(scope.names.lookup y=some .free\/(scope.names.lookup y≠some .local/\scope.names.lookup y≠some .cell)):=λi y e=>by have hi:i+fr.length<N.length:=(Zx4.mp e).1;have:=h8 i (Zyh.mpr (by omega));rw[e]at this;simpa only[Zyd,Zzm,bne_iff_ne,beq_iff_eq]using this
 refine⟨hk,h1,λy hy e=>(h2 y hy).resolve_left (λz=>z e),h3,λi x e=>?_,h5,h6,λy hy e=>?_,λi y e q=>(at_ i y e).1.resolve_left (λz=>z q),λi y e v=>?_⟩
 ·rw[h4 i (Zyh.mpr (Zx4.mp e).1)]
  exact e
 ·have:=h7 y hy
  rw[show X.env.kindOf y.1=sc.names.lookup y.1 by rw[<-hs]; rfl];rcases this with(z | z) | z
  ·exact absurd e z
  ·exact .inl z
  ·exact .inr z
 ·rcases(at_ i y e).2 with z | ⟨z1,z2⟩
  ·exact z
  ·rcases v with v | v | v
   ·exact absurd v z1
   ·exact absurd v z2
   ·exact v
variable{elt iter:Expr}{ifs:List Expr}{pos:Pos}{fi:HM.IF}{fc:HM.TF}{fe:HM.EF}
theorem ZaM(hxe:X.xe=λ_ _=>False)(hcalm:X.calm=true)(T:Zdn X N scope [x])(hi:XI X (.Name x px) iter fi)(hc:∀cl C s H ex,XTs (ZU X N scope cl C s H ex) ifs fc)(he:∀cl C s H ex,XE (ZU X N scope cl C s H ex) elt fe)
  (hs:∀x,Zzh iter X.env x=pure x:=by intro _; rfl):XF X (.ListComp elt [⟨.Name x px,iter,ifs,0⟩] scope pos) (HM.ZR fi fc fe):=by
 rw[ZpG];exact Zmw hxe hcalm T (Zsb T) hi.e hc he hs
theorem Zsf(hxe:X.xe=λ_ _=>False)(hcalm:X.calm=true)(T:Zdn X N scope [x,x2])(hi:XI X (.Tuple [.Name x px,.Name x2 px2] kt pt) iter fi)(hc:∀cl C s H ex,XTs (ZU X N scope cl C s H ex) ifs fc)(he:∀cl C s H ex,XE (ZU X N scope cl C s H ex) elt fe)
  (hs:∀x,Zzh iter X.env x=pure x:=by intro _; rfl):XF X (.ListComp elt [⟨.Tuple [.Name x px,.Name x2 px2] kt pt,iter,ifs,0⟩] scope pos) (HM.Zdc fi fc fe):=by
 rw[ZpC];exact Zmw hxe hcalm T (ZrD T) hi.e hc he hs
theorem Zd6(i:Nat){y:Str}{py spos:Pos}(hN:X.N.Nodup)(hxe:X.xe=λ_ _=>False)(hcalm:X.calm=true)(T:Zdn X N scope [x])(hi:XI X (.Name x px) iter fi)(hc:∀cl C s H ex,XTs (ZU X N scope cl C s H ex) ifs fc)(he:∀cl C s H ex,XE (ZU X N scope cl C s H ex) elt fe)
  (hiy:X.N[i]?=some y:=by rfl) (hy:X.env.scope.names.lookup y=some .local:=by rfl) (hsw:Zz6 (.ListComp elt [⟨.Name x px,iter,ifs,0⟩] scope pos) (some (.Name y py)) spos.line X.env=pure true:=by rfl)
  (hs:∀x,Zzh iter X.env x=pure x:=by intro _; rfl):XS X (.Assign [.Name y py] (.ListComp elt [⟨.Name x px,iter,ifs,0⟩] scope pos) spos) (HM.Z8 i (HM.ZR fi fc fe)):=by
 rw[ZpG];exact Zjk i hN hxe hcalm T (Zsb T) hi.e hc he hiy hy hsw hs
theorem Zou(i:Nat){y:Str}{py spos:Pos}(hN:X.N.Nodup)(hxe:X.xe=λ_ _=>False)(hcalm:X.calm=true)(T:Zdn X N scope [x,x2])(hi:XI X (.Tuple [.Name x px,.Name x2 px2] kt pt) iter fi)(hc:∀cl C s H ex,XTs (ZU X N scope cl C s H ex) ifs fc)(he:∀cl C s H ex,XE (ZU X N scope cl C s H ex) elt fe)
  (hiy:X.N[i]?=some y:=by rfl) (hy:X.env.scope.names.lookup y=some .local:=by rfl) (hsw:Zz6 (.ListComp elt [⟨.Tuple [.Name x px,.Name x2 px2] kt pt,iter,ifs,0⟩] scope pos) (some (.Name y py)) spos.line X.env=pure true:=by rfl)
  (hs:∀x,Zzh iter X.env x=pure x:=by intro _; rfl):XS X (.Assign [.Name y py] (.ListComp elt [⟨.Tuple [.Name x px,.Name x2 px2] kt pt,iter,ifs,0⟩] scope pos) spos) (HM.Z8 i (HM.Zdc fi fc fe)):=by
 rw[ZpC];exact Zjk i hN hxe hcalm T (ZrD T) hi.e hc he hiy hy hsw hs
end
end HP
namespace HP
open PySem PySem.Spec PyProof.Rows L2
variable[FX]
section
variable{prog:Program}{w:World}{K:Type}[DecidableEq K]{knd:HeapKind prog w K}{A:Around}{E:Value->Shared->Prop}{s:Shared}
theorem Zld{d a:Addr}{xs:List (K × Addr × Value)}{k:K}{v:Value}{Q:Value->Shared->Prop}(hu:knd.room A)(hkey:knd.is s.heap k a)(hm:s.heap.DictOfH knd d xs)(hsz:xs.length<=sizeLine)
  (h1:∀p,atKey xs k=some p->Q p.2 { s with toks:=s.toks+knd.draws k })
  (h2:atKey xs k=none->∀h',h'.DictOfH knd d (storedH xs k a v)->ZzH d s.heap h'->Q v { s with heap:=h',toks:=s.toks+knd.draws k }) :
  wpAny (model prog w) A (dictSetDefault d (.ref a) v) Q E s:=by
 obtain⟨o,es,ep,ho,hc,hd,he,his,hn⟩:=hm;unfold dictSetDefault
 try with_reducible refine Zy0 ?_
 refine ZxQ (knd.pyHash hu hkey ?_);refine ZxQ (wpAny_dictFind_heap (s:={ s with toks:=s.toks+knd.draws k }) hu hkey ho hd he his hn ?_ ?_)
 ·intro hno
  have hnot:k ∉ xs.map (·.1):=not_mem_keys_of_get hno;have hnk:=atKey_none_of_get hno;refine ZxQ (wpAny_rule (ZxQ (wpAny_updateDictKeys (hz:=by have e:=size_of_entries he; omega) (s:={ s with toks:=s.toks+knd.draws k }) ho hd (ZxV (h2 hnk _ ⟨_,_,ep+1,ZyZ _ ho (Obj.isFreed_of_dict (Obj.data_mapDictKeys hd _)),
   hc.mapDictKeys _,Obj.data_mapDictKeys hd _,?_,?_,?_⟩ (ZyX ..))))))
  ·rw[storedH_new hnk]
   simp[he,entryOfKey]
  ·rw[storedH_new hnk]
   intro x hx;rcases Zyq.mp hx with hx | hx
   ·exact knd.keeps (his x hx) ho hd (ZyX ..)
   ·simp only[Zyb]at hx
    subst hx;exact knd.keeps hkey ho hd (ZyX ..)
  ·rw[storedH_new hnk]
   rw[Zyr,Zz3];refine⟨hn,by simp,?_⟩;intro x hx y hy;simp only[ZxY,ZzI,Zyb]at hy;subst hy;exact λe=>hnot (e▸hx)
 ·intro j p hj
  refine ZxQ (ZAT (s:={ s with toks:=s.toks+knd.draws k }) ho hd ?_);rw[entry_at he j,hj];exact ZxQ (wpAny_rule (ZxV (h1 p (atKey_of_get hn hj))))
theorem Zji(d a:Addr)(hd:(d==Zzl)=false)(dflt:Value) :
  MeetsIn prog w (Builtin.«dict.setdefault» ⟨[.ref d,.ref a,dflt],[]⟩) (λA R s=>knd.room A.in1/\∃k xs,knd.is s.heap k a/\s.heap.DictOfH knd d xs/\xs.length<=sizeLine /\
   (∀p,atKey xs k=some p->R (.ok (.ret p.2)) { s with toks:=s.toks+knd.draws k }) /\
   (atKey xs k=none->∀h',h'.DictOfH knd d (storedH xs k a dflt)->ZzH d s.heap h'->R (.ok (.ret dflt)) { s with heap:=h',toks:=s.toks+knd.draws k })) :=
 .of_wp λA R s ⟨hu,k,xs,hkey,hm,hz,h1,h2⟩=>by unfold Builtin.«dict.setdefault»;refine ZxQ ?_;unfold Builtin.Dict.keyAndDefault;refine ZxQ (wpAny_notOrdered_dict hm.typeIs ?_);show wpAny _ _ (pure (d,ZyO a,some dflt)) _ _ s;refine ZxV ?_;show wpAny _ _ (if(d==Zzl)=true then _ else(dictSetDefault d (.ref a) dflt >>= _)) _ _ s;rw[if_neg (by rw[hd]; exact Zyy)];exact ZxQ (Zld hu hkey hm hz (λp hp=>ZxV ⟨p.2,rfl,h1 p hp⟩) λhn h' hm' hs'=>ZxV ⟨dflt,rfl,h2 hn h' hm' hs'⟩)
end
section
variable{X:Cx}{pins:List (Addr × Obj)}{σ:L2.St}{H:Hp}{s:Shared}{a b:Addr}{z:V}{r:Value}{A:Around}{E:Value->Shared->Prop}{kvs:List (List Key × V)}{k:List Key}
theorem Zv5{Q:Value->Shared->Prop}(hu:A.units+1<cLine)(I:Inv X pins σ H s)(e:H a=some (.dT kvs))(eb:H b=some (.tup (k.map kV)))(hl:kvs.length<sizeLine)(rz:RelV z r)
  (h1:∀v,ZaT kvs k=some v->∀w' s',Inv X pins σ H s'->RelV v w'->Q w' s') (h2:ZaT kvs k=none->∀s',Inv X pins σ (upd H a (.dT (kvs++[(k,z)]))) s'->Q r s') :
  wpAny (model X.prog X.w) A (call (.builtin "dict.setdefault") [.ref a,.ref b,r]) Q E s:=by
 obtain⟨zz,hd,xs,rel,dd⟩:=ZtO I.hok e;have hz:xs.length<=sizeLine:=by rw[<-ZAj rel]; exact zz
 have hv:=rel.val k;refine call_meetsIn ZBn dd.typeIs PySem.F.entry_dict_setdefault (PySem.F.args_dict_setdefault_3 _ _ _) (Zji (knd:=ZA9 (ZaN X.prog X.w)) a b hd r) ⟨ZAl hu,k,xs,ZgZ I.hok eb,dd,hz,λp hp=>?_,λhn h' dd' hs=>?_⟩
 ·rw[hp]at hv
  cases hvv:ZaT kvs k with
  | none=>rw[hvv]at hv; exact hv.elim
  | some v=>rw[hvv]at hv; exact h1 v hvv _ _ (I.tok _) hv
 ·rw[hn]at hv
  have hvv:ZaT kvs k=none:=by
   cases hvv:ZaT kvs k with
   | none=>rfl
   | some v=>rw[hvv]at hv; exact hv.elim
  refine h2 hvv _ ?_;have hp:=rel.put k eb rz;have epk:putK kvs k z=kvs++[(k,z)]:=by unfold putK;rw[if_neg];rw[Zj4,hvv];simp
  rw[epk]at hp;obtain⟨q,es,ep,hq,g2,g3,g4,_,g5⟩:=dd';refine Zi4 I (by rw[e]; exact ZAM) hs ⟨q,hq⟩ ⟨by rw[Zyc]; exact hl,hd,_,hp.keeps λc ys ec=>?_,q,es,ep,hq,g2,g3,g4,g5⟩;rw[ZA (ZtJ ec e (λz=>nomatch z))];exact ec
end
def Zxt(td ty tx:TE):TE:=λσ H Q=>td σ H λx H1=>∃a,x=.ref a/\IsD H1 a/\ty σ H1 λy H2=>tx σ H2 λz H3=>∃kvs k b,H3 a=some (.dT kvs)/\y=.ref b/\H3 b=some (.tup (k.map kV))/\kvs.length<sizeLine /\
 (∀v,ZaT kvs k=some v->Q v H3)/\(ZaT kvs k=none->Q z (upd H3 a (.dT (kvs++[(k,z)]))))
section
variable{X:Cx}{o e f:Expr}{apos cpos:Pos}{td ty tx:TE}
theorem Zvs(hu:X.A.units+1<cLine)(ho:PE X o td)(he:PE X e ty)(hf:PE X f tx)(m:M2 X o "setdefault" apos e f cpos):PE X (.Call (.Attribute o "setdefault" apos) [e,f] [] cpos) (Zxt td ty tx):=by intro pins s σ H Q I h;refine wpAny_Call_method m.base m.few m.line PySem.F.plainAttrs_dict ZBn PySem.F.type_dict_setdefault (thn (ho pins s σ H _ I h) λu s1 ⟨x,H1,I1,rx,a,ex,d,q1⟩=>?_);subst ex;obtain rfl:u=ZyO a:=rx;obtain⟨t1,t2,_⟩:=Zv3 I1 d;refine⟨t1,t2,?_⟩;rw[m.trees];refine ZAZ rfl (ZCp (ZBu (thn (he pins s1 σ H1 _ I1 q1) λiv s2 ⟨y,H2,I2,ry,q2⟩=>ZBu (thn (hf pins s2 σ H2 _ I2 q2) λfv s3 ⟨z,H3,I3,rz,kvs,k,b,ea,ey,eb,hl,q3,q4⟩=>Calls.spliced_nil ?_))));subst ey;obtain rfl:iv=ZyO b:=ry;exact Zv5 hu I3 ea eb hl rz (λv hv w' s4 I4 rw'=>⟨v,H3,I4,rw',q3 v hv⟩) λhn s4 I4=>⟨z,_,I4,rz,q4 hn⟩
end
def OT(K:ZxR)(F H:Hp)(kvs:List (List Key × List PyData))(vvs:List (List Key × V))(ls:List Addr):Prop:=kvs.map (·.1)=vvs.map (·.1)/\vvs.map (·.2)=ls.map V.ref /\
 ∀(i:Nat) (ds:List PyData) (l:Addr),(kvs.map (·.2))[i]?=some ds->ls[i]?=some l->∃vs,H l=some (.lst vs)/\Zu K F ds vs
section
variable{K:ZxR}{F F' H H':Hp}{kvs:List (List Key × List PyData)}{vvs:List (List Key × V)}{ls:List Addr}
theorem OT.len(q:OT K F H kvs vvs ls):kvs.length=ls.length/\kvs.length=vvs.length:=by have e1:=congrArg ZyB q.1;have e2:=congrArg ZyB q.2.1;rw[ZxS,ZxS]at e1 e2;omega
theorem OT.mono(q:OT K F H kvs vvs ls)(s:Zp F F')(k:∀a∈ls,∀o,H a=some o->H' a=some o):OT K F' H' kvs vvs ls :=
 ⟨q.1,q.2.1,λi ds l h1 h2=>let ⟨vs,q1,q2⟩:=q.2.2 i ds l h1 h2; ⟨vs,k l (Zym h2) _ q1,q2.mono s⟩⟩
theorem OT.snoc(q:OT K F H kvs vvs ls)(k:List Key){p:Addr}(hp:H p=some (.lst [])):OT K F H (kvs++[(k,[])]) (vvs++[(k,.ref p)]) (ls++[p]):=by
 refine⟨by rw[Zyr,Zyr,q.1]; rfl,by rw[Zyr,Zyr,q.2.1]; rfl,λi ds l h1 h2=>?_⟩;have hl:=q.len;rw[Zyr]at h1
 by_cases hi:i<kvs.length
 ·rw[ZyE (by rw[ZxS]; exact hi)]at h1
  rw[ZyE (by omega)]at h2;exact q.2.2 i ds l h1 h2
 ·rw[ZyA (by rw[ZxS]; omega),ZxS]at h1
  rw[ZyA (by omega),<-hl.1]at h2;cases hj:i-kvs.length with
  | zero=>rw[hj]at h1 h2;cases h1; cases h2;exact⟨[],hp,.nil⟩
  | succ j=>rw[hj]at h1; cases h1
theorem OT.look(q:OT K F H kvs vvs ls)(k:List Key):(∀ds,HM.Zn kvs k=some ds->∃l' vs,ZaT vvs k=some (.ref l')/\l'∈ls/\H l'=some (.lst vs)/\Zu K F ds vs)/\(HM.Zn kvs k=none->ZaT vvs k=none):=Zj6 k kvs vvs ls q.1 q.2.1 q.2.2
theorem OT.app(k:List Key){d:PyData}{v:V}:∀{kvs:List (List Key × List PyData)} {vvs:List (List Key × V)} {ls:List Addr},OT K F H kvs vvs ls->ls.Nodup->Rep K F d v->∀{l':Addr} {vs:List V},ZaT vvs k=some (.ref l')->H l'=some (.lst vs) ->
  OT K F (upd H l' (.lst (vs++[v]))) (HM.Zdt kvs k d) vvs ls
 | [],[],_,q,_,_,l',vs,hv,_=>by cases hv
 | [],_::_,_,q,_,_,_,_,_,_=>by have:=q.len; simp at this
 | _::_,[],_,q,_,_,_,_,_,_=>by have:=q.len; simp at this
 | _::_,_::_,[],q,_,_,_,_,_,_=>by have:=q.len; simp at this
 | (k1,ds1)::kvs,(k2,v2)::vvs,l1::ls,q,nd,rd,l',vs,hv,hl=>by
  obtain⟨q1,q2,q3⟩:=q;rw[ZxY,ZxY]at q1 q2;injection q1 with e1 e2
  injection q2 with e3 e4
  have e1:k1=k2:=e1;have e3:v2=.ref l1:=e3;subst e1 e3;have rest:OT K F H kvs vvs ls:=⟨e2,e4,λi ds l h1 h2=>q3 (i+1) ds l (by simpa using h1) (by simpa using h2)⟩;obtain⟨n1,n2⟩:=ZyL.mp nd;obtain⟨us,f1,f2⟩:=q3 0 ds1 l1 rfl rfl;unfold HM.Zdt
  by_cases hk:k1=k
  ·rw[if_pos hk]
   rw[ZdI (p:=(k1,V.ref l1)) hk]at hv;cases hv;rw[hl]at f1;cases f1;refine⟨by rw[ZxY,ZxY,e2],by rw[ZxY,ZxY,e4],λi ds l h1 h2=>?_⟩;cases i with
   | zero=>cases h1; cases h2;exact⟨_,ZF,f2.append (.one rd)⟩
   | succ i=>rw[ZxY,Zyw]at h1;rw[Zyw]at h2;obtain⟨us,g1,g2⟩:=rest.2.2 i ds l h1 h2;exact⟨us,by rw[ZA (λz=>n1 (by rw[<-z]; exact Zym h2))]; exact g1,g2⟩
  ·rw[if_neg hk]
   rw[ZdR (p:=(k1,V.ref l1)) hk]at hv;have ih:=OT.app k rest n2 rd hv hl;have hne:l1≠l':=by
    rintro rfl
    have:∀(vvs:List (List Key × V)) (ls:List Addr),vvs.map (·.2)=ls.map V.ref->∀l',ZaT vvs k=some (.ref l')->l'∈ls:=by
     intro vvs
     induction vvs with
     | nil=>intro ls _ l' h; cases h
     | cons p vvs ih =>
      intro ls he l' h;cases ls with
      | nil=>simp at he
      | cons l ls =>
       rw[ZxY,ZxY]at he;injection he with he1 he2
       by_cases hp:p.1=k
       ·rw[ZdI hp]at h
        rw[he1]at h;cases h;exact ZxU
       ·rw[ZdR hp]at h
        exact ZxW _ (ih ls he2 l' h)
    exact n1 (this vvs ls e4 _ hv)
   refine⟨by rw[ZxY,ZxY,ih.1],by rw[ZxY,ZxY,e4],λi ds l h1 h2=>?_⟩;cases i with
   | zero=>cases h1; cases h2;exact⟨us,by rw[ZA hne]; exact f1,f2⟩
   | succ i=>rw[ZxY,Zyw]at h1;rw[Zyw]at h2;exact ih.2.2 i ds l h1 h2
end
theorem Zbj.otl{K:ZxR}{F0 H0 F H:Hp}{r:HM.Env}{σ:L2.St}{fp:Nat->List Addr}{i:Nat}{kvs:List (List Key × List PyData)}(e:Zbj K F0 H0 F H r σ fp)(h:r[i]?=some (some (.otl kvs))) :
  ∃a vvs ls,σ[i]?=some (some (.ref a))/\H a=some (.dT vvs)/\OT K F H kvs vvs ls/\fp i=a::ls:=by
 obtain⟨v,h1,h2⟩:=e.at_ i _ h;generalize hf:fp i=q at h2;cases h2 with
 | otl k1 k2 k3 k4=>exact⟨_,_,_,h1,k1,⟨k2,k3,k4⟩,rfl⟩
theorem Zbj.otlNew{K:ZxR}{F0 H0 Fb Hb F H:Hp}{r:HM.Env}{σ:L2.St}{fp:Nat->List Addr}{i:Nat}{kvs:List (List Key × List PyData)}{p:Addr}(k:List Key)(eb:Zbj K F0 H0 Fb Hb r σ fp)(x:Ext Fb Hb F H)(h:r[i]?=some (some (.otl kvs)))(hp:H p=some (.lst []))(hF:F p=none)(hb:Hb p=none) :
  ∃a vvs,σ[i]?=some (some (.ref a))/\H a=some (.dT vvs)/\vvs.length=kvs.length/\(HM.Zn kvs k=none->ZaT vvs k=none)/\At K F0 H0 F (upd H a (.dT (vvs++[(k,.ref p)]))) (r.set i (some (.otl (kvs++[(k,[])])))) σ:=by
 have e:=eb.grow x;obtain⟨a,vvs,ls,h1,h2,h3,h4⟩:=e.otl h;have hpn:∀j,p ∉ fp j:=λj hj=>by obtain⟨o,ho⟩:=eb.there hj;rw[hb]at ho; cases ho
 have hpa:p≠a:=λz=>hpn i (by rw[h4,z]; exact ZxU);have hal:a ∉ ls:=(ZyL.mp (h4▸e.nd i)).1;have nl:ls.Nodup:=(ZyL.mp (h4▸e.nd i)).2;have hpl:p ∉ ls:=λz=>hpn i (by rw[h4]; exact ZxW _ z);refine⟨a,vvs,h1,h2,h3.len.2.symm,(h3.look k).2,?_⟩;have q:=h3.snoc k hp;have q':OT K F (upd H a (.dT (vvs++[(k,.ref p)]))) (kvs++[(k,[])]) (vvs++[(k,.ref p)]) (ls++[p]):=q.mono (Zp.refl F) λc hc o z=>by
  rw[ZA]
  ·exact z
  ·rintro rfl
   rcases Zyq.mp hc with hc | hc
   ·exact hal hc
   ·exact hpa (Zyb.mp hc).symm
 have nd':(a::(ls++[p])).Nodup:=by
  refine ZyL.mpr ⟨?_,?_⟩
  ·intro z
   rcases Zyq.mp z with z | z
   ·exact hal z
   ·exact hpa (Zyb.mp z).symm
  ·rw[Zz3]
   refine⟨nl,by simp,λx hx y hy=>?_⟩;obtain rfl:y=p:=by simpa using hy
   rintro rfl
   exact hpl hx
 refine e.changeW h1 (fp':=a::(ls++[p])) (.otl ZF q'.1 q'.2.1 q'.2.2) nd' (λc hc=>?_) λc o z hn=>?_
 ·rcases Zye.mp hc with z | z
  ·subst z; exact .inl (by rw[h4]; exact ZxU)
  ·rcases Zyq.mp z with z | z
   ·exact .inl (by rw[h4]; exact ZxW _ z)
   ·obtain rfl:c=p:=Zyb.mp z
    exact .inr ⟨hF,eb.ext.hh.free hb,hpn⟩
 ·rw[ZA (λy=>hn (by rw[h4,y]; exact ZxU))]
  exact z
theorem At.otlApp{K:ZxR}{F0 H0 F H:Hp}{r:HM.Env}{σ:L2.St}{i:Nat}{kvs:List (List Key × List PyData)}{ds:List PyData}(k:List Key)(e:At K F0 H0 F H r σ)(h:r[i]?=some (some (.otl kvs)))(hd:HM.Zn kvs k=some ds) :
  ∃a vvs l vs,σ[i]?=some (some (.ref a))/\H a=some (.dT vvs)/\ZaT vvs k=some (.ref l)/\H l=some (.lst vs)/\Zu K F ds vs/\∀d v,Rep K F d v->At K F0 H0 F (upd H l (.lst (vs++[v]))) (r.set i (some (.otl (HM.Zdt kvs k d)))) σ:=by
 obtain⟨fp,e⟩:=e;obtain⟨a,vvs,ls,h1,h2,h3,h4⟩:=e.otl h;obtain⟨l,vs,g1,g2,g3,g4⟩:=(h3.look k).1 ds hd;have hal:a ∉ ls:=(ZyL.mp (h4▸e.nd i)).1;have nl:ls.Nodup:=(ZyL.mp (h4▸e.nd i)).2;have hne:a≠l:=λz=>hal (by rw[z]; exact g2);refine⟨a,vvs,l,vs,h1,h2,g1,g3,g4,λd v rd=>?_⟩;have q:=h3.app k nl rd g1 g3;refine e.change h1 (fp':=a::ls) (.otl (by rw[ZA hne]; exact h2) q.1 q.2.1 q.2.2) (h4▸e.nd i) (λc hc=>.inl (by rw[h4]; exact hc)) λc o z hn=>?_;rw[ZA (λy=>hn (by rw[h4,y]; exact ZxW _ g2))];exact z
section
variable{X:Cx}{a b c e:Expr}{fa fb fc:HM.EF}{pos p:Pos}{f:HM.BF}
theorem Zr9{k:List Key}{kvs:List (List Key × List PyData)}{ds:List PyData}(h:HM.Zn kvs k=some ds):HM.ZcE kvs k=kvs:=by unfold HM.ZcE; rw[h]
theorem Zru{k:List Key}{kvs:List (List Key × List PyData)}(h:HM.Zn kvs k=none):HM.ZcE kvs k=kvs++[(k,[])]:=by unfold HM.ZcE; rw[h]
theorem Zsg(hu:X.A.units+1<cLine)(i:Nat){x:Str}{p0 p1 p2 p3 p4 p5:Pos}(hk:XE X b fb)(ha:XE X a fa)(m:M2 X (.Name x p0) "setdefault" p1 b (.List [] p2) p3)(hN:X.N[i]?=some x:=by rfl)(hv:Vis X.env.scope x:=by first | exact ZyP rfl | exact Zyx (ZyP rfl) | exact Zyx (Zyx rfl))(hd:(x==("__debug__":Str))=false:=by decide)(hcd:(x==("__classdict__":Str))=false:=by decide)
  (hbase:ZAk (.Call (.Attribute (.Name x p0) "setdefault" p1) [b,.List [] p2] [] p3) "append" X.env (eval (.Call (.Attribute (.Name x p0) "setdefault" p1) [b,.List [] p2] [] p3) X.env)=eval (.Call (.Attribute (.Name x p0) "setdefault" p1) [b,.List [] p2] [] p3) X.env:=by rfl)
  (hfew:((backTo p5 (Zx6 [a] X.env)).all (λx=>!x.1)&&(backToKw p5 (ZBr [] X.env)).all (λx=>x.1.isSome)&&decide (([a]:List Expr).length+([]:List Keyword).length+(if([]:List Keyword).isEmpty then 0 else 1)<30))=true:=by rfl)
  (hline:(p4.endLine==p5.line)=true:=by rfl) (hs:Zx6 [a] X.env=[(false,eval a X.env)]:=by rfl):XS X (.Expr (.Call (.Attribute (.Call (.Attribute (.Name x p0) "setdefault" p1) [b,.List [] p2] [] p3) "append" p4) [a] [] p5) pos) (HM.ZnT i fb fa):=by
 intro r o h;unfold HM.ZnT at h;split at h
 ·rename_i y hy
  split at h
  ·rename_i kvs hb
   split at h
   ·rename_i k hk'
    split at h
    ·rename_i hzz
     split at h
     ·rename_i d hd'
      split at h
      ·rename_i ds hds
       split at h
       ·rename_i hz
        cases h;have hi:i<r.length:=(Zx4.mp hb).1;have hb':(r.set i (some (.otl (HM.ZcE kvs k))))[i]?=some (some (.otl (HM.ZcE kvs k))):=ZyF hi;refine PS.imp (Zi1 (Zp9 ZAh ZBU ZBV Zir (Zvs hu (ZcC hN hv hd hcd) (hk r y hy) (Zcq (X:=X) Ze (by simp) r (.ol []) rfl) m) (ZaI (ha _ d hd') Zb3 hs) hbase hfew hline hs rfl)) λE σ H ⟨F0,H0,F,at_,kk⟩=>?_;have fin:∀{F3 H3:Hp} {l:Addr},At X.K F0 H0 F3 H3 (r.set i (some (.otl (HM.ZcE kvs k)))) σ->(∃vs,SqL X.K H3 l vs)->(∀a' vvs',σ[i]?=some (some (.ref a'))->H3 a'=some (.dT vvs')->ZaT vvs' k=some (.ref l)) ->
          tyV X.K "list" (.ref l) H3/\Now X.K (r.set i (some (.otl (HM.ZcE kvs k)))) σ H3 λF0 H0 F=>∀v F' H',Ext F H3 F' H'->Rep X.K F' d v->Zpk (.ref l) [v] H' λ_ H'=>E.nx σ H':=by
         intro F3 H3 l at3 hl hat;refine⟨.inl ⟨rfl,hl⟩,F0,H0,F3,at3,λv F4 H4 x4 r4=>?_⟩;obtain⟨aa',vvs',l',vs',g1,g2,g3,g4,g5,g6⟩:=(at3.grow x4).otlApp k hb' hds;obtain⟨aa2,vvs2,l2,vs2,f1,f2,f3,_⟩:=at3.otlApp k hb' hds;rw[f1]at g1;cases g1;rw[x4.hh _ _ f2]at g2;cases g2;rw[hat _ _ f1 f2]at g3;cases g3;have g7:=g6 d v r4;rw[ZBe]at g7;refine⟨_,vs',v,rfl,rfl,g4,?_,kk _ F4 _ g7⟩;rw[<-g5.1];exact Zg0 hz
        obtain⟨fq,eb⟩:=at_;obtain⟨aa,vvs,ls,e1,e2,e3,e4⟩:=eb.otl hb;refine⟨.ref aa,e1,aa,rfl,.inr ⟨vvs,.inl e2⟩,F0,H0,F,⟨fq,eb⟩,λw F1 H1 x1 r1=>⟨F0,H0,F1,At.grow ⟨fq,eb⟩ x1,λv F2 H2 x2 ⟨fp,r2,nd,hn⟩=>?_⟩⟩;obtain⟨bb,rfl,hbb⟩:=ZdQ hk' r1;have x12:=x1.trans x2;have hz0:vvs.length<sizeLine:=by rw[<-e3.len.2]; exact Zg0 hzz
        refine⟨vvs,k,bb,x12.hh _ _ e2,rfl,x2.hh _ _ (x1.sub _ _ hbb),hz0,λu hu'=>?_,λhno=>?_⟩
        ·have hls:∃ds0,HM.Zn kvs k=some ds0:=by
          cases hq:HM.Zn kvs k with
          | some ds0=>exact⟨ds0,rfl⟩
          | none=>rw[(e3.look k).2 hq]at hu'; cases hu'
         obtain⟨ds0,hls⟩:=hls;have ead:=Zr9 hls;obtain⟨l0,vs0,q1,q2,q3,q4⟩:=(e3.look k).1 ds0 hls;rw[q1]at hu';cases hu';refine fin (F3:=F2) ?_ ⟨vs0,SqL.of (x12.hh _ _ q3)⟩ λa' vvs' z1 z2=>?_
         ·rw[ead]
          have:r.set i (some (.otl kvs))=r:=by obtain⟨h1,h2⟩:=Zx4.mp hb;rw[<-h2];exact ZAr h1
          rw[this];exact At.grow ⟨fq,eb⟩ x12
         ·rw[e1]at z1
          cases z1;rw[x12.hh _ _ e2]at z2;cases z2;exact q1
        ·have hls:HM.Zn kvs k=none:=by
          cases hq:HM.Zn kvs k with
          | none=>rfl
          | some ds0=>obtain⟨l0,vs0,q1,_⟩:=(e3.look k).1 ds0 hq;rw[hno]at q1; cases q1
         have ead:=Zru hls;cases r2 with
         | @ol l _ vs hl1 rs =>
          obtain rfl:vs=[]:=rs.nil_inv;have hHl:H l=none:=x1.hh.free (hn l (by simp)).2;obtain⟨aa2,vvs2,g1,g2,g3,g4,g5⟩:=eb.otlNew k x12 hb hl1 (hn l (by simp)).1 hHl;rw[e1]at g1;cases g1;rw[x12.hh _ _ e2]at g2;cases g2;have hne:l≠aa:=λz=>by rw[z,e2]at hHl; cases hHl
          refine fin (F3:=F2) (by rw[ead]; exact g5) ⟨[],SqL.of (by rw[ZA hne]; exact hl1)⟩ λa' vvs' z1 z2=>?_;rw[e1]at z1;cases z1;rw[ZF]at z2;cases z2;unfold ZaT at hno ⊢;rw[Option.map_eq_none_iff]at hno;rw[ZBH,hno];simp
       ·cases h
      ·cases h
     ·cases h
    ·cases h
   ·cases h
  ·cases h
 ·cases h
end
end HP
namespace HP
open PySem PyProof.Rows
def ZeC(xs:Array Nat):Prop:=xs.toList.Pairwise (· < ·)
theorem ZeC.lt{xs:Array Nat}(h:ZeC xs){i k:Nat}(hk:k<xs.size)(hik:i<k):xs.getD i 0<xs.getD k 0:=by have:=ZBN.mp h i k (by simpa using ZzJ hik hk) (by simpa using hk) hik;simpa [ZzR,hk,ZzJ hik hk]using this
theorem ZjU{xs:Array Nat}(h:ZeC xs)(j:Nat):∀(fuel lo hi:Nat),lo<=hi->hi<=xs.size->hi-lo<=fuel->(∀i,i<lo->xs.getD i 0<j)->(∀i,hi<=i->i<xs.size->j<=xs.getD i 0) ->
  ZAU xs j fuel lo hi<=xs.size/\(∀i,i<ZAU xs j fuel lo hi->xs.getD i 0<j)/\∀i,ZAU xs j fuel lo hi<=i->i<xs.size->j<=xs.getD i 0
 | 0,lo,hi,h1,h2,h3,a,b=>by
  obtain rfl:lo=hi:=by omega
  exact⟨h2,a,b⟩
 | fuel+1,lo,hi,h1,h2,h3,a,b=>by
  unfold ZAU;split
  ·rename_i hlt
   have hm:(lo+hi) / 2<xs.size:=by omega
   have e:xs.getD ((lo+hi) / 2) j=xs.getD ((lo+hi) / 2) 0:=by simp[ZzR,hm]
   dsimp only;rw[e]
   by_cases q:xs.getD ((lo+hi) / 2) 0<j
   ·rw[if_pos q]
    refine ZjU h j fuel ((lo+hi) / 2+1) hi (by omega) h2 (by omega) (λi hi'=>?_) b
    by_cases c:i=(lo+hi) / 2
    ·rw[c]; exact q
    ·exact ZzJ (h.lt hm (by omega)) q
   ·rw[if_neg q]
    refine ZjU h j fuel lo ((lo+hi) / 2) (by omega) (by omega) (by omega) a (λi hi' hs=>?_)
    by_cases c:i=(lo+hi) / 2
    ·rw[c]; omega
    ·have:=h.lt hs (show(lo+hi) / 2<i by omega); omega
  ·obtain rfl:lo=hi:=by omega
   exact⟨h2,a,b⟩
theorem Zfv{xs:Array Nat}(h:ZeC xs)(j:Nat):Zx1 xs j<=xs.size/\(∀i,i<Zx1 xs j->xs.getD i 0<j)/\∀i,Zx1 xs j<=i->i<xs.size->j<=xs.getD i 0 :=
 ZjU h j xs.size 0 xs.size (Zzu _) (Zx2 _) (by omega) (λi hi=>by omega) λi h1 h2=>by omega
theorem Zqa{xs:Array Nat}(h:ZeC xs){i:Nat}(hi:i<xs.size):Zx1 xs (xs.getD i 0+1)=i+1:=by
 obtain⟨a,b,c⟩:=Zfv h (xs.getD i 0+1);apply Nat.le_antisymm
 ·apply ZAv
  intro q;have h1:=b (i+1) q;have h2:=h.lt (show i+1<xs.size by omega) (Zz8 i);omega
 ·apply ZAv
  intro q;have h1:=c (Zx1 xs (xs.getD i 0+1)) (Zx2 _) (by omega)
  by_cases e:Zx1 xs (xs.getD i 0+1)=i
  ·rw[e]at h1; omega
  ·have:=h.lt hi (show Zx1 xs (xs.getD i 0+1)<i by omega); omega
theorem ZqL{xs:Array Nat}(h:ZeC xs):Zx1 xs 0=0:=by obtain⟨a,b,c⟩:=Zfv h 0;apply Nat.eq_zero_of_not_pos;intro q;have:=b 0 q;omega
theorem Zjw{xs:Array Nat}(h:ZeC xs){j:Nat}(hn:xs[Zx1 xs j]?≠some j):ZeC (Zyi xs (Zx1 xs j) j):=by
 obtain⟨a,b,c⟩:=Zfv h j;unfold ZeC;rw[ZAI];have gt:∀i,Zx1 xs j<=i->i<xs.size->j<xs.getD i 0:=by
  intro i h1 h2
  by_cases e:Zx1 xs j=i
  ·subst e
   have h3:=c _ h1 h2;have:xs.getD (Zx1 xs j) 0≠j:=λq=>hn (by
    have z:xs[Zx1 xs j]?=some (xs.getD (Zx1 xs j) 0):=by simp[ZzR,h2]
    rw[z,q])
   omega
  ·have h3:=h.lt h2 (show Zx1 xs j<i by omega)
   have h4:=c _ (Zx2 _) (show Zx1 xs j<xs.size by omega);omega
 rw[List.pairwise_append];refine⟨h.sublist (List.take_sublist ..),ZyD.mpr ⟨λx hx=>?_,h.sublist (List.drop_sublist ..)⟩,λx hx y hy=>?_⟩
 ·obtain⟨i,hi,rfl⟩:=ZAA hx
  rw[ZAu,Zyj]at hi;rw[List.getElem_drop];have:=gt (Zx1 xs j+i) (by omega) (by omega);simpa [ZzR,show Zx1 xs j+i<xs.size by omega]using this
 ·obtain⟨i,hi,rfl⟩:=ZAA hx
  rw[Zzp,Zyj]at hi;rw[List.getElem_take];have h1:=b i (by omega);have h1':xs.toList[i]'(by simp; omega)<j:=by simpa [ZzR,show i<xs.size by omega]using h1
  rcases Zye.mp hy with e | e
  ·rw[e]; exact h1'
  ·obtain⟨k,hk,rfl⟩:=ZAA e
   rw[ZAu,Zyj]at hk;rw[List.getElem_drop];have h2:=gt (Zx1 xs j+k) (by omega) (by omega);have h2':j<xs.toList[Zx1 xs j+k]'(by simp; omega):=by simpa [ZzR,show Zx1 xs j+k<xs.size by omega]using h2
   exact ZzJ h1' h2'
theorem has_none(j:Nat):SetTable.has #[] j=false:=by simp[SetTable.has]
structure Tab(b:Bool)(t:SetTable):Prop where
 dum:t.dummies=#[]
 rise:ZeC t.place
 led:t.led=b
 plain:t.plain=true
 low:∀j∈t.place.toList,j<8
 mask:t.mask=if t.place.size<=4 then 7 else 31
theorem Tab.fresh(b:Bool):Tab b (SetTable.fresh 0 0 b):=⟨rfl,.nil,rfl,rfl,λj hj=>by simp[SetTable.fresh]at hj,rfl⟩
theorem Tab.few{b:Bool}{t:SetTable}(h:Tab b t):t.place.size<=8:=by
 have key:∀(l:List Nat) (lo:Nat),l.Pairwise (· < ·)->(∀j∈l,lo<=j/\j<8)->l.length<=8-lo:=by
  intro l
  induction l with
  | nil=>intro lo _ _; simp
  | cons x l ih=>intro lo hp hb;have h1:=hb x (ZxU ..);have h2:=ih (x+1) (ZyD.mp hp).2 λy hy=>⟨(ZyD.mp hp).1 y hy,(hb y (ZxW _ hy)).2⟩;rw[Zx8]; omega
 have:=key t.place.toList 0 h.rise λj hj=>⟨Zzu _,h.low j hj⟩;simpa using this
theorem ZhR{b:Bool}{t:SetTable}(h:Tab b t){j:Nat}(hj:j ∉ t.place.toList):t.slot j=.empty/\t.place[Zx1 t.place j]?≠some j:=by have q:t.place[Zx1 t.place j]?≠some j:=λe=>hj (by rw[<-ZyJ]at e;exact Zym e);unfold SetTable.slot;dsimp only;rw[if_neg (by simpa using q),h.dum,has_none,if_neg (by simp)];exact⟨rfl,q⟩
theorem ZvZ{b:Bool}{t:SetTable}(h:Tab b t)(j:Nat):t.put j=({ t with place:=Zyi t.place (Zx1 t.place j) j },Zx1 t.place j):=by
 unfold SetTable.put;dsimp only;rw[h.dum,has_none];cases t;have:=h.dum
 simp_all
theorem size_insert{α:Type}(xs:Array α)(p:Nat)(x:α):(Zyi xs p x).size=xs.size+1:=by rw[<-Zyj,(Zzy xs p x).length_eq];simp
theorem Zu6{b:Bool}{t:SetTable}(h:Tab b t){es:Array (Int × Value)}(he:es.size=t.place.size){j:Nat}(h8:j<8)(hj:j ∉ t.place.toList)(v:Value) :
  layNew t es (j:Int) v=(Zyi es (Zx1 t.place j) ((j:Int),v),{ t with place:=Zyi t.place (Zx1 t.place j) j },false,false):=by
 obtain⟨e1,e2⟩:=ZhR h hj;have hfew:=h.few;have hm:t.mask=7\/t.mask=31:=by rw[h.mask]; split<;>simp
 have hbits:ZCr (j:Int) % (t.mask+1)=j:=by
  have hb:ZCr (j:Int)=j:=by unfold ZCr; omega
  rw[hb];rcases hm with e | e<;>rw[e]<;>omega
 have hfree:t.freeSlot (j:Int)=some (j,false):=by
  unfold SetTable.freeSlot SetTable.probe;have hf:10*ZCg t.mask=(10*ZCg t.mask-1)+1:=by unfold ZCg; omega
  rw[hf];unfold SetTable.probe.go;have hp:(t.probeStart (j:Int)).j=j:=hbits;rw[hp,e1];rfl
 have hle:t.place.size<=7:=by
  apply ZAv;intro q;have h8':t.place.size=8:=by omega
  have:=Zzn (l₁:=j::t.place.toList) (l₂:=ZxZ 8) (ZyL.mpr ⟨hj,h.rise.imp λq=>Zyf q⟩) (λx hx=>by
   rcases Zye.mp hx with e | e
   ·rw[e]; exact Zyh.mpr h8
   ·exact Zyh.mpr (h.low x e))
  simp at this;omega
 have hfit:(ZA2 { t with place:=Zyi t.place (Zx1 t.place j) j } (Zyi es (Zx1 t.place j) ((j:Int),v)).size)=true:=by unfold ZA2 ZA3;simp only[size_insert,he,h.dum];simp;rw[h.mask];split<;>omega
 unfold layNew;rw[hfree];dsimp only;rw[ZvZ h];dsimp only;unfold SetTable.orStandIn;rw[hfit];rfl
theorem Tab.ins{b:Bool}{t:SetTable}(h:Tab b t){j:Nat}(h8:j<8)(hj:j ∉ t.place.toList)(hs:t.place.size≠4):Tab b { t with place:=Zyi t.place (Zx1 t.place j) j }:=by
 obtain⟨_,e2⟩:=ZhR h hj;refine⟨h.dum,Zjw h.rise e2,h.led,h.plain,λx hx=>?_,?_⟩
 ·have:=(Zzy t.place (Zx1 t.place j) j).mem_iff.mp hx
  rw[Zz4]at this;rcases Zyq.mp this with q | q
  ·exact h.low x q
  ·rw[Zyb.mp q]; exact h8
 ·dsimp only
  rw[size_insert,h.mask];split<;>split<;>omega
def Zlb:List (List Nat):=(ZxZ 8).flatMap λa=>(ZxZ 8).flatMap λb=>(ZxZ 8).flatMap λc=>(ZxZ 8).flatMap λd=>(ZxZ 8).filterMap λe=>if a<b/\b<c/\c<d/\d<e then some [a,b,c,d,e]else none
theorem ZoX{l:List Nat}(h:l.Pairwise (· < ·))(h8:∀j∈l,j<8)(h5:l.length=5):l∈Zlb:=by
 match l,h5 with
 | [a,b,c,d,e],_=>simp at h h8;unfold Zlb;simp only[Zz9,Zyh,Zza];refine⟨a,by omega,b,by omega,c,by omega,d,by omega,e,by omega,?_⟩;rw[if_pos (by omega)]
theorem Zvm:∀l∈Zlb,(SetTable.layClean 31 (l.map λ(n:Nat)=>(n:Int)).toArray).map (λowner=>(ZxZ 32).filterMap λj=>(owner.getD j none).map (j,·))=some (l.zip (ZxZ 5)):=by decide +kernel
end HP
namespace HP
open PySem PyProof.Rows
def Zer(e:Int × Value):Int:=match e.2 with
 | .int n _=>n
 | _=>0
section
variable(prog:Program)(w:World)
def Zm7(es:List (Int × Value)):Prop:=∀e∈es,∃n t,e=((intKind prog w).hash n,ZzD n t)
def Zds(h:Heap)(a:Addr)(L:List Int):Prop:=∃o es ep t,h.get? a=some o/\o.ExactSet/\o.data=.set es ep t/\Zm7 prog w es.toList/\(es.toList.map Zer).Perm L/\es.toList.map Zer=t.place.toList.map (λ(j:Nat)=>(j:Int))/\Tab (!w.params.followText "set-order") t
end
section
variable{prog:Program}{w:World}{A:Around}{E:Value->Shared->Prop}{s:Shared}{a:Addr}{L:List Int}
theorem Zm7.elems{es:List (Int × Value)}(h:Zm7 prog w es):ElemsOf (intKind prog w) es:=λe he=>by obtain⟨n,t,rfl⟩:=h e he;exact⟨⟨n,ZBO _ _ _ _,rfl⟩,rfl⟩
theorem Zds.at'{h h':Heap}(x:Zds prog w h a L)(k:∀o,h.get? a=some o->h'.get? a=some o):Zds prog w h' a L:=let ⟨o,es,ep,t,e,r⟩:=x; ⟨o,es,ep,t,k o e,r⟩
def stp(L:List Int)(n:Int):List Int:=if L.contains n then L else L++[n]
theorem ZrK{k n:Int}{t:Tok}:(intKind prog w).is k (.int n t)=true↔n=k:=by
 constructor
 ·intro h
  exact(intKind prog w).inj _ _ _ (ZBO _ _ _ _) h
 ·rintro rfl; exact ZBO _ _ _ _
theorem ZhP:∀(j:Nat),j<8->(intKind prog w).hash (j:Int)=(j:Int)
 | 0,_=>rfl
 | 1,_=>rfl
 | 2,_=>rfl
 | 3,_=>rfl
 | 4,_=>rfl
 | 5,_=>rfl
 | 6,_=>rfl
 | 7,_=>rfl
 | n+8,h=>by omega
theorem Tab.fits{b:Bool}{t:SetTable}(h:Tab b t):t.fits t.place.size=true:=by have hf:=h.few;unfold ZA2 ZA3;rw[h.dum,h.mask];simp;split<;>omega
theorem size_of{es:Array (Int × Value)}{t:SetTable}(h:es.toList.map Zer=t.place.toList.map (λ(j:Nat)=>(j:Int))):es.size=t.place.size:=by have:=congrArg ZyB h;simpa using this
theorem Zkx{h:Heap}{o:Obj}{es es':Array (Int × Value)}{ep:Nat}{t t':SetTable}(ho:h.get? a=some o)(hex:o.ExactSet)(hd:o.data=.set es ep t)(hel:Zm7 prog w es'.toList)(hp:(es'.toList.map Zer).Perm L)
  (hs:es'.toList.map Zer=t'.place.toList.map (λ(j:Nat)=>(j:Int))) (ht:Tab (!w.params.followText "set-order") t') :
  (h.update a (ZAO es' t')).get? a=some { o with data:=.set es' (ep+1) t' }/\Zds prog w (h.update a (ZAO es' t')) a L:=by
 have hg:(h.update a (ZAO es' t')).get? a=some { o with data:=.set es' (ep+1) t' }:=by
  have:=ZyZ (ZAO es' t') ho (by rw[putSet_of es' t' hd]; rfl)
  rwa [putSet_of es' t' hd]at this
 exact⟨hg,_,es',ep+1,t',hg,hex,rfl,hel,hp,hs,ht⟩
theorem ZsA{b:Bool}{t:SetTable}{es:Array (Int × Value)}(hr:ZeC t.place)(h8:∀j∈t.place.toList,j<8)(h5:t.place.size=5)(he:es.map (·.1)=(t.place.toList.map (λ(j:Nat)=>(j:Int))).toArray)(hl:t.led=b)(hp:t.plain=true) :
  ∃t',relayAll t es 20=(es,t',false)/\t'.place=t.place/\Tab b t':=by
 have hc:=Zvm _ (ZoX hr h8 (by simpa using h5));obtain⟨owner,o1,o2⟩:=ZxT.mp hc;have hsz:es.size=5:=by have:=congrArg Array.size he;simp at this;omega
 have hlen:t.place.toList.length=5:=by simpa using h5
 have z1:(t.place.toList.zip (ZxZ 5)).map (·.1)=t.place.toList:=List.map_fst_zip (by rw[hlen]; simp);have z2:(t.place.toList.zip (ZxZ 5)).map (·.2)=ZxZ 5:=List.map_snd_zip (by rw[hlen]; simp);have hrl:t.relaid (es.map (·.1)) 20=some ({ mask:=31,place:=t.place,dummies:=#[],finger:=t.finger,led:=t.led,moves:=t.movedTo 31,plain:=t.plain },(ZxZ 5).toArray):=by
  unfold SetTable.relaid SetTable.laid;have e31:SetTable.sizeAbove 20-1=31:=by decide
  rw[e31,he,o1];show some _=some _;rw[o2,z1,z2]
 refine⟨{ mask:=31,place:=t.place,dummies:=#[],finger:=t.finger,led:=t.led,moves:=t.movedTo 31,plain:=t.plain },?_,rfl,⟨rfl,hr,hl,hp,h8,?_⟩⟩
 ·unfold relayAll
  rw[hrl];dsimp only;have ef:(ZxZ 5).toArray.filterMap (λx=>es[x]?)=es:=by apply Array.toList_inj.mp;rw[Array.toList_filterMap];have:=filterMap_getElem?_range es;rw[hsz]at this;simpa using this
  rw[ef];have ec:coversAll (ZxZ 5).toArray es.size=true:=by rw[hsz]; decide
  have et:ZA2 { mask:=31,place:=t.place,dummies:=#[],finger:=t.finger,led:=t.led,moves:=t.movedTo 31,plain:=t.plain } es.size=true:=by unfold ZA2 ZA3;simp[h5,hsz]
  rw[ec,et];rfl
 ·dsimp only
  rw[h5];rfl
theorem ZtB{j:Nat}{tk:Tok}{Q:Bool->Shared->Prop}(h8:j<8)(hX:Zds prog w s.heap a L)
  (h:∀b h',ZzH a s.heap h'->Zds prog w h' a (stp L j)->Q b { s with heap:=h' }) :
  wpAny (model prog w) A (setAddHashed a (.int j tk) ((intKind prog w).hash j)) Q E s:=by
 obtain⟨o,es,ep,t,ho,hex,hd,hen,hpm,hpl,ht⟩:=hX;have hel:=hen.elems;have hsc:(ZzD (j:Int) tk).scannable=true:=rfl;have hkey:(intKind prog w).is (j:Int) (.int j tk)=true:=ZBO _ _ _ _;have hsz:=size_of hpl;have hfew:=ht.few;have hf:t.fits es.size=true:=by rw[hsz]; exact ht.fits
 have hsb:scanBound=4096:=rfl;have hb:es.size<scanBound:=by omega
 unfold setAddHashed setAddHashedIn;refine Zy0 (ZxQ (ZAV ho hd hf ?_));dsimp only;rw[byScan_of hsc hb hel];simp only[↓reduceIte];unfold setAddByScan;refine ZxQ (ZxQ (wpAny_rule (ZxQ (wpAny_setScan_of hkey ho hd hf hel ?_))));cases hr:List.findIdx? (λe=>(intKind prog w).is (j:Int) e.2) es.toList with
 | some i =>
  dsimp only;obtain⟨hi,hpi,_⟩:=List.findIdx?_eq_some_iff_getElem.mp hr;have hmem:(j:Int)∈L:=by refine hpm.mem_iff.mp (Zx3.mpr ⟨es.toList[i],Zzq hi,?_⟩);obtain⟨m,u,e⟩:=hen _ (Zzq hi);rw[e]at hpi ⊢;exact ZrK.mp hpi
  refine ZxV (ZxV ?_);have e:s={ s with heap:=s.heap }:=by cases s; rfl
  have q:=h false s.heap (ZCD a s.heap) ⟨o,es,ep,t,ho,hex,hd,hen,by unfold stp; rw[if_pos (by simpa using hmem)]; exact hpm,hpl,ht⟩;rw[e];exact q
 | none =>
  dsimp only;have hne:∀e∈es.toList,Zer e≠(j:Int):=λe he hv=>by obtain⟨m,u,e1⟩:=hen e he;have no:=List.findIdx?_eq_none_iff.mp hr e he;rw[e1]at no hv;have yes:(intKind prog w).is (j:Int) (.int m u)=true:=ZrK.mpr hv;exact absurd (yes.symm.trans no) (by simp)
  have hnm:(j:Int) ∉ L:=λhm=>by obtain⟨e,he,hv⟩:=Zx3.mp (hpm.mem_iff.mpr hm);exact hne e he hv
  have hj:j ∉ t.place.toList:=λhm=>by
   have:(j:Int)∈es.toList.map Zer:=by rw[hpl]; exact Zx3.mpr ⟨j,hm,rfl⟩
   obtain⟨e,he,hv⟩:=Zx3.mp this;exact hne e he hv
  obtain⟨mk,pl,dm,fg,ld,mv,pn⟩:=t;obtain rfl:pn=true:=ht.plain;obtain rfl:dm=#[]:=ht.dum;rw[ZhP j h8,Zu6 ht hsz h8 hj];dsimp only;obtain⟨_,hnj⟩:=ZhR ht hj;obtain⟨hle,_,_⟩:=Zfv ht.rise j;have hen1:Zm7 prog w (Zyi es (Zx1 pl j) ((j:Int),ZzD j tk)).toList:=λe he=>by
   have:=(Zzy _ _ _).mem_iff.mp he;rw[Zz4]at this;rcases Zyq.mp this with q | q
   ·exact hen e q
   ·exact⟨j,tk,by rw[ZhP j h8]; exact Zyb.mp q⟩
  have hpm1:((Zyi es (Zx1 pl j) ((j:Int),ZzD j tk)).toList.map Zer).Perm (stp L j):=by unfold stp;rw[if_neg (by simpa using hnm)];refine((Zzy _ _ _).map Zer).trans ?_;rw[Zz4,Zyr];exact hpm.append_right _
  have hpl1:(Zyi es (Zx1 pl j) ((j:Int),ZzD j tk)).toList.map Zer=(Zyi pl (Zx1 pl j) j).toList.map (λ(j:Nat)=>(j:Int)):=by rw[ZAI,ZAI,Zyr,Zyr,ZxY,ZxY,List.map_take,List.map_take,List.map_drop,List.map_drop,hpl];rfl
  have hs1:(Zyi es (Zx1 pl j) ((j:Int),ZzD j tk)).size=es.size+1:=size_insert _ _ _;generalize hE:Zyi es (Zx1 pl j) ((j:Int),ZzD j tk)=es1 at hen1 hpm1 hpl1 hs1 ⊢;have hz1:es1.size<=sizeLine:=by rw[Zzc]; omega
  refine ZxQ (ZxV ?_);simp only[↓reduceIte];refine ZxQ ?_;rw[hashByValue_scannable 8 hsc];refine ZxV ?_;rw[show plainKind (ZzD (j:Int) tk)=true from rfl];simp only[↓reduceIte];show wpAny (model prog w) A (do
    storeSet a es1 (⟨mk,Zyi pl (Zx1 pl j) j,#[],fg,ld,mv,true⟩:SetTable)
    if(!false&&ZAw (⟨mk,Zyi pl (Zx1 pl j) j,#[],fg,ld,mv,true⟩:SetTable))=true then _ else _) _ E s
  refine ZxQ (wpAny_storeSet_of ho hd ?_ hz1);have hsb1:=ZyX s.heap a (ZAO es1 (⟨mk,Zyi pl (Zx1 pl j) j,#[],fg,ld,mv,true⟩:SetTable))
  by_cases h4:pl.size=4
  ·have hm:mk=7:=by have q:=ht.mask; dsimp only at q; rw[h4]at q; exact q
   have htf:ZAw (⟨mk,Zyi pl (Zx1 pl j) j,#[],fg,ld,mv,true⟩:SetTable)=true:=by unfold ZAw ZA3;simp[size_insert,h4,ht.dum,hm]
   have hg:(s.heap.update a (ZAO es1 (⟨mk,Zyi pl (Zx1 pl j) j,#[],fg,ld,mv,true⟩:SetTable))).get? a=some { o with data:=.set es1 (ep+1) (⟨mk,Zyi pl (Zx1 pl j) j,#[],fg,ld,mv,true⟩:SetTable) }:=by
    have:=ZyZ (ZAO es1 (⟨mk,Zyi pl (Zx1 pl j) j,#[],fg,ld,mv,true⟩:SetTable)) ho (by rw[putSet_of _ _ hd]; rfl)
    rwa [putSet_of _ _ hd]at this
   have hh:es1.map (·.1)=((Zyi pl (Zx1 pl j) j).toList.map (λ(j:Nat)=>(j:Int))).toArray:=by
    apply Array.toList_inj.mp;rw[Array.toList_map,<-hpl1];refine Zzx λe he=>?_;obtain⟨m,u,e1⟩:=hen1 e he;have hm:m∈es1.toList.map Zer:=Zx3.mpr ⟨e,he,by rw[e1]; rfl⟩;rw[hpl1]at hm;obtain⟨k,hk,rfl⟩:=Zx3.mp hm;have hk8:k<8:=by
     have:=(Zzy _ _ _).mem_iff.mp hk;rw[Zz4]at this;rcases Zyq.mp this with q | q
     ·exact ht.low k q
     ·rw[Zyb.mp q]; exact h8
    rw[e1];exact ZhP (prog:=prog) (w:=w) k hk8
   obtain⟨t',r1,r2,r3⟩:=ZsA (b:=!w.params.followText "set-order") (t:=(⟨mk,Zyi pl (Zx1 pl j) j,#[],fg,ld,mv,true⟩:SetTable)) (es:=es1) (Zjw ht.rise hnj)
    (λk hk=>by
     have:=(Zzy _ _ _).mem_iff.mp hk;rw[Zz4]at this;rcases Zyq.mp this with q | q
     ·exact ht.low k q
     ·rw[Zyb.mp q]; exact h8) (by dsimp only; rw[size_insert,h4]) hh ht.led ht.plain
   have hgr:SetTable.grown es1.size=20:=by rw[hs1,hsz,h4]; rfl
   rw[htf];simp only[Bool.not_false,Bool.and_self,↓reduceIte];rw[hgr,r1];dsimp only;refine ZxQ (ZxV (ZxQ (wpAny_storeSet_of hg rfl ?_ hz1)));obtain⟨_,hS2⟩:=Zkx (prog:=prog) (t':=t') hg hex rfl hen1 hpm1 (by rw[r2]; exact hpl1) r3;exact ZxV (ZxV (h true _ (hsb1.trans (ZyX _ a _)) hS2))
  ·have htf:ZAw (⟨mk,Zyi pl (Zx1 pl j) j,#[],fg,ld,mv,true⟩:SetTable)=false:=by
    unfold ZAw ZA3;have q:=ht.mask;dsimp only at q;simp only[size_insert];rw[q];simp;have:=hfew;dsimp only at this;split<;>omega
   rw[htf];simp only[Bool.and_false,ZzF,↓reduceIte];obtain⟨_,hS1⟩:=Zkx (prog:=prog) (t':=(⟨mk,Zyi pl (Zx1 pl j) j,#[],fg,ld,mv,true⟩:SetTable)) ho hex hd hen1 hpm1 hpl1 (ht.ins h8 hj h4);exact ZxV (ZxV (h true _ hsb1 hS1))
end
section
variable{prog:Program}{w:World}{A:Around}{E:Value->Shared->Prop}{s:Shared}
abbrev Zc3(w:World):Obj:={ cls:=.type "set",dict:=none,data:=.set #[] 0 (.fresh 0 0 (!w.params.followText "set-order")) }
theorem Zmj(v:Value){Q₁:Value->Shared->Prop}(h:Q₁ (.ref s.heap.objs.size) { s with heap:=s.heap.push (Zc3 w) }) :
  codeAny (model prog w) A (.call (.builtin "set.__new__") ⟨[.type "set",v],[]⟩) (wants Q₁ E) s:=by
 refine codeAny_of_tree ?_;show wpAny _ A.in1 (do checkBuiltinCall "set.__new__" ⟨[.type "set",v],[]⟩; again (.builtin "set.__new__" ⟨[.type "set",v],[]⟩)) _ _ s;refine ZxQ (ZCc (PySem.F.newCall_set_1 v) (ZxV ⟨Zz0 ZCh _,Zy9 PySem.F.entry_set_new ?_⟩));rw[ZyV ZCh _];unfold Builtin.«set.__new__» Builtin.Frozenset.newClass;have hsub:=sub_set_self;obtain⟨hp,g,d,tk,os⟩:=s;dsimp only
 wp_walk
 refine ZAx (ZxV ?_);dsimp only;simp only[newObj];exact ZxQ (wpAny_alloc (ZxV (ZxV h)))
theorem Zta(h:Heap):Zds prog w (h.push (Zc3 w)) h.objs.size [] :=
 ⟨_,#[],0,_,Zx9 _ rfl,⟨rfl,rfl,rfl⟩,rfl,λe he=>by simp at he,.nil,rfl,Tab.fresh _⟩
theorem ZhO:∀(l acc:List Int) (x:Int),HM.dedup acc (l++[x])=stp (HM.dedup acc l) x
 | [],acc,x=>by show HM.dedup acc [x]=stp acc x;unfold HM.dedup stp;split<;>rfl
 | y::l,acc,x=>by
  show HM.dedup acc (y::(l++[x]))=_;unfold HM.dedup;split
  ·exact ZhO l acc x
  ·exact ZhO l _ x
variable{R:Result->Shared->Prop}{I:Addr}{fp wr:List Addr}{G:Array GenState->Array GenState->Prop}{P:Nat->Value->Prop}{St:Nat->Shared->Prop}
theorem Zrp{ns:List Int}(W:WalksS prog w A.in1 I fp wr G ns.length P St)(S:Addr)(hSf:S ∉ fp)(hval:∀i v,P i v->∃t,v=.int (ns.getD i 0) t)(hb:∀n∈ns,0<=n/\n<8) :
  ∀(k i:Nat) (s:Shared),ns.length-i=k->i<=ns.length->St i s->Zds prog w s.heap S (HM.dedup [] (ns.take i)) ->
   (∀s',Moved (S::wr) G s s'->Zds prog w s'.heap S (HM.dedup [] ns)->R (.ok (.ret .none)) s') ->
   codeAny (model prog w) A (.builtin "set.update.loop" ⟨[.ref S,.ref I],[]⟩) R s:=by
 have hSw:S ∉ wr:=λh=>hSf (W.sub _ h);have hsub:∀b∈wr,b∈S::wr:=λb hb=>ZxW _ hb;intro k
 induction k with
 | zero =>
  intro i s hk hi hst hS hR;obtain rfl:i=ns.length:=by omega
  rw[List.take_length]at hS;refine Zy9 F.entry_set_update_loop ?_;rw[ZyV F.plain_set_update_loop _];show wpAny _ A.in1 (pyNext (.ref I) >>= _) _ _ s;refine ZxQ (W.done s _ _ hst λs' hm=>?_);show wpAny _ A.in1 (ret ZyS) _ _ s';exact ZxV (hR s' (hm.mono hsub) (hS.at' λo e=>hm.heap S o hSw e))
 | succ k ih =>
  intro i s hk hi hst hS hR;have hlt:i<ns.length:=by omega
  refine Zy9 F.entry_set_update_loop ?_;rw[ZyV F.plain_set_update_loop _];show wpAny _ A.in1 (pyNext (.ref I) >>= _) _ _ s;refine ZxQ (W.item i s _ _ hlt hst λv s' hP hst' hm=>?_);obtain⟨t,rfl⟩:=hval i v hP;have hS':=hS.at' (h':=s'.heap) λo e=>hm.heap S o hSw e;show wpAny _ A.in1 (holding [ZzD (ns.getD i 0) t] (setAdd S (.int (ns.getD i 0) t)) >>= _) _ _ s';refine ZxQ (Zy0 ?_);unfold setAdd;refine Zy0 (ZxQ ((intKind prog w).pyHash (k:=ns.getD i 0) (ZBO _ _ _ _) ?_));have hbi:=hb (ns.getD i 0) (by rw[Zzj,Zx5 hlt]; exact Zzq hlt);obtain⟨j,ej⟩:∃j:Nat,ns.getD i 0=(j:Int):=⟨(ns.getD i 0).toNat,by omega⟩;have e:stp (HM.dedup [] (ns.take i)) (ns.getD i 0)=HM.dedup [] (ns.take (i+1)):=by rw[<-ZhO,List.take_succ,Zzj];simp[hlt]
  rw[ej]at e hbi ⊢;refine ZtB (s:={ s' with toks:=s'.toks+1 }) (by omega) hS' λb h' hsb hS2=>?_;rw[e]at hS2;refine ZxV ⟨Zz0 F.plain_set_update_loop _,ih (i+1) _ (by omega) hlt (W.frame _ s' _ _ hst' (Nat.le_succ _) λb hb o e=>?_) hS2 λs'' hm'' hS''=>?_⟩
  ·rw[hsb.2 b (λh:b=S=>hSf (by rw[<-h]; exact hb))]; exact e
  ·refine hR s'' (Moved.trans W.gtrans ((hm.mono hsub).then_heap (Nat.le_succ _) λb o hb e=>?_) hm'') hS''
   rw[hsb.2 b (λh:b=S=>hb (by rw[h]; exact ZxU))]; exact e
set_option maxHeartbeats 3200000 in
theorem Zr6{l:Addr}{items:Array Value}{ns:List Int}{Q:Value->Shared->Prop}(hh:A.handled=none)(hl:s.heap.IsList l items)(hi:IntsAre items.toList ns)(hb:∀n∈ns,0<=n/\n<8)
  (h:∀(h':Heap) (tk:Nat),Zds prog w h' s.heap.objs.size (HM.dedup [] ns)->(∀b o,b<s.heap.objs.size->s.heap.get? b=some o->h'.get? b=some o)->Q (.ref s.heap.objs.size) { s with heap:=h',toks:=tk }) :
  wpAny (model prog w) A (call (.type "set") [.ref l]) Q E s:=by
 have hsz:items.size=ns.length:=by rw[<-hi.length,Zyj]
 obtain⟨c,tl,hmro⟩:=Zzr.mro;have hmade:=Zzr.made;have hsub:=Zzr.sub;refine wpAny_call (codeAny_of_tree ?_);show wpAny _ _ (callAny (.type "set") _) _ _ _;refine ZxV ⟨Code.quiet_builtin _ (by decide +kernel),Zy9 PySem.F.entry_type_call ?_⟩;rw[Around.under_plain (weight_type_call_type "set" [.ref l] []) rfl];have h1:=Zzr.notType;have h2:=Zzr.canCreate;have hct:=PySem.F.typeCall_set_1 (.ref l)
 repeat (any_goals (first | assumption | wp_step))
 refine ZzS (Zmj (.ref l) (E:=E) (Q₁:=λobj s₁=>obj=.ref s.heap.objs.size/\s₁={ s with heap:=s.heap.push (Zc3 w) }) ⟨rfl,rfl⟩) λr s₁ hr=>?_;cases r with
 | error e=>exact hr
 | ok fl =>
  cases fl with
  | ret obj =>
   obtain⟨rfl,rfl⟩:=hr;have hX:=Zta (prog:=prog) (w:=w) s.heap;have hS:(s.heap.push (Zc3 w)).get? s.heap.objs.size=some (Zc3 w):=Zx9 _ rfl;have hT:Shared.TypeIs { s with heap:=s.heap.push (Zc3 w) } (.ref s.heap.objs.size) "set":=⟨_,hS,rfl⟩;have hli:=Zzr.init.lookup;have hbi:=Zzr.init.bind (.ref s.heap.objs.size)
   repeat (any_goals (first | assumption | wp_step))
   refine ZzS (codeAny_call_builtin (R:=wants (λr s₂=>r=.none/\∃h' tk,s₂={ s with heap:=h',toks:=tk }/\Zds prog w h' s.heap.objs.size (HM.dedup [] ns) /\
     (∀b o,b<s.heap.objs.size->s.heap.get? b=some o->h'.get? b=some o)) E) Zzr.init.plain PySem.F.entry_set_init (check_set_init_1 hT ?_)) λr₂ s₂ hr₂=>?_
   ·obtain⟨⟨ocls,odict,odata,oslots⟩,hol,hcl,nl,hdl⟩:=hl
    simp only at hcl hdl;subst hcl; subst hdl;have hol':(s.heap.push (Zc3 w)).get? l=some { cls:=.type "list",dict:=odict,data:=.seq items nl,slots:=oslots }:=ZxX _ hol;have hsls:=PySem.F.sub_list_set;have hslf:=PySem.F.sub_list_frozenset;have hne:(ZAK "list" == ZAK "dict")=false:=by decide
    have hl1:(s.heap.push (Zc3 w)).IsList l items:=⟨_,hol',rfl,nl,rfl⟩;unfold Builtin.«set.__init__» noKeywords Builtin.Frozenset.updateFrom;generalize hPI:pyIter=PI
    wp_walk
    subst hPI;refine ZBG hl1 (ZxQ (wpAny_runValue ?_));have hlS:l<s.heap.objs.size:=Zx7 hol;have hh3:A.in1.in1.in1.handled=none:=by simp[hh]
    have hneI:l≠(s.heap.push (Zc3 w)).objs.size:=by rw[ZAs]; exact Zyf (ZAq hlS)
    have hSf:s.heap.objs.size ∉ [(s.heap.push (Zc3 w)).objs.size,l]:=by rw[ZAs]; simp only[Zye,Zyb,List.not_mem_nil,or_false,not_or];exact⟨Zyf (Zz8 _),ZAH hlS⟩
    have Wl:=(Walks.list (prog:=prog) (w:=w) hh3 _ l hneI items).toS;rw[hsz]at Wl;refine Zrp Wl s.heap.objs.size hSf (λi v hv=>IntsAre.int_at hi i v (by rw[ZyJ]; exact hv)) hb (ns.length-0) 0 _ (by omega) (Zzu _)
     ⟨⟨_,Zx9 _ rfl,rfl,rfl⟩,hl1.push _⟩ (hX.at' λo e=>ZxX _ e) λs' hm hS'=>?_
    obtain⟨h',g',d',tk',os'⟩:=s';have eg:g'=s.gens:=hm.gens;have ed:d'=s.drawn:=hm.drawn;have eo:os'=s.os:=hm.os;subst eg; subst ed; subst eo
    show wpAny _ _ _ _ _ _;refine ZxV ?_;show wpAny _ _ (ret ZyS) _ _ _;refine ZxV ⟨rfl,h',tk',rfl,hS',λb o hb e=>?_⟩;refine hm.heap b o ?_ (ZxX _ (ZxX _ e));simp only[Zye,Zyb,List.not_mem_nil,or_false,not_or];exact⟨Zyf hb,by rw[ZAs]; exact Zyf (ZAq hb)⟩
   ·cases r₂ with
    | error e=>exact hr₂
    | ok fl₂ =>
     cases fl₂ with
     | ret r =>
      obtain⟨rfl,h',tk,rfl,hS',hk'⟩:=hr₂
      repeat (any_goals (first | assumption | wp_step))
      exact h _ _ hS' hk'
     | _=>exact hr₂.elim
  | _=>exact hr.elim
end
end HP
namespace HP
open PySem PyProof.Rows
theorem Zcz:Slot "set_iterator" "__next__" "set_iterator.__next__" :=
 .of (owner:="set_iterator") (n:="__next__") (by rw[typeLookup_type,builtinLookup_eq_fast]; kernel_rfl) (by decide +kernel) (by decide +kernel) (by decide +kernel)
  (by first | exact .inl (by decide +kernel) | exact .inr (by decide +kernel)) (by rw[isSubtype_type]; kernel_rfl)
theorem ZhY:entryFor table "set_iterator.__next__" = some Builtin.«set_iterator.__next__»:=entryFor_of_tree (by kernel_rfl)
theorem ZiL:Slot "set_iterator" "__iter__" "set_iterator.__iter__" :=
 .of (owner:="set_iterator") (n:="__iter__") (by rw[typeLookup_type,builtinLookup_eq_fast]; kernel_rfl) (by decide +kernel) (by decide +kernel) (by decide +kernel)
  (by first | exact .inl (by decide +kernel) | exact .inr (by decide +kernel)) (by rw[isSubtype_type]; kernel_rfl)
theorem Zmg:entryFor table "set_iterator.__iter__" = some Builtin.«dict_keyiterator.__iter__» :=
 entryFor_alias (id':="dict_keyiterator.__iter__") (by kernel_rfl) rfl (by decide +kernel) (by kernel_rfl)
theorem ZkM:entryFor table "set.__iter__" = some Builtin.«frozenset.__iter__» :=
 entryFor_alias (id':="frozenset.__iter__") (by kernel_rfl) rfl (by decide +kernel) (by kernel_rfl)
theorem Zon:Manifest.owners.lookup (String.ofList ['r','o','t','a','r','e','t','i','_','t','e','s'].reverse)=some Manifest.sig_set_iterator:=by kernel_rfl
theorem Ziz(a:Value):argsOk "set_iterator.__next__" ⟨[a],[]⟩:=by unfold argsOk; rw[signature?_of (id:="set_iterator.__next__") (n:=['_','_','t','x','e','n','_','_']) (o:=['r','o','t','a','r','e','t','i','_','t','e','s']) (by kernel_rfl) Zon]; kernel_rfl
theorem ZnA(a:Value):argsOk "set_iterator.__iter__" ⟨[a],[]⟩:=by unfold argsOk; rw[signature?_of (id:="set_iterator.__iter__") (n:=['_','_','r','e','t','i','_','_']) (o:=['r','o','t','a','r','e','t','i','_','t','e','s']) (by kernel_rfl) Zon]; kernel_rfl
theorem ZkK{α:Type}:∀(l:List α) (i:Nat) (h:i<l.length),(l[i]::l.eraseIdx i).Perm l
 | x::l,0,_=>.refl _
 | x::l,i+1,h=>by
  have h':i<l.length:=by simpa using h
  show(l[i]::x::l.eraseIdx i).Perm (x::l);exact(List.Perm.swap x l[i] _).trans ((ZkK l i h').cons x)
theorem Zly{α:Type}(next:Nat->Nat):∀(n k:Nat) (left:List α) (out:Array α),left.length=n->(ZB4.go next n k left out).toList.Perm (out.toList++left)
 | 0,k,left,out,h=>by rw[ZAo h,Zyu];exact .refl _
 | n+1,k,left,out,h=>by
  have hl:next k % left.length<left.length:=Nat.mod_lt _ (by omega)
  unfold ZB4.go;rw[Zx5 hl];dsimp only;refine(Zly next n (k+1) _ _ (by rw[List.length_eraseIdx_of_lt hl]; omega)).trans ?_
  rw[Zz4,Zzv];refine List.Perm.append_left _ ?_;exact ZkK left _ hl
theorem Zk1{α:Type}(next:Nat->Nat)(xs:Array α):(ZB4 next xs).toList.Perm xs.toList:=by
 have:=Zly next xs.size 0 xs.toList #[] (by simp)
 simpa [ZB4]using this
end HP
namespace HP
open PySem PyProof.Rows
structure Zev(w:World)(h:Heap)(a:Addr)(es:Array (Int × Value))(ep:Nat)(t:SetTable):Prop where
 obj:∃o,h.get? a=some o/\o.ExactSet/\o.data=.set es ep t
 fit:t.fits es.size=true
 siz:es.size=t.place.size
 tab:Tab (!w.params.followText "set-order") t
theorem Zev.at'{w:World}{h h':Heap}{a:Addr}{es:Array (Int × Value)}{ep:Nat}{t:SetTable}(x:Zev w h a es ep t)(k:∀o,h.get? a=some o->h'.get? a=some o):Zev w h' a es ep t :=
 ⟨let ⟨o,e,r⟩:=x.obj; ⟨o,k o e,r⟩,x.fit,x.siz,x.tab⟩
def ZdN(w:World)(a:Addr)(es:Array (Int × Value))(ep:Nat):Array (Int × Value):=if w.params.followText "set-order" then ZB4 (w.params.setOrder a ep) es else es
theorem Zit(w:World)(a:Addr)(es:Array (Int × Value))(ep:Nat):(ZdN w a es ep).toList.Perm es.toList:=by
 unfold ZdN; split
 ·exact Zk1 _ _
 ·exact .refl _
theorem ZiC(w:World)(a:Addr)(es:Array (Int × Value))(ep:Nat):(ZdN w a es ep).size=es.size:=by have:=(Zit w a es ep).length_eq;simpa using this
def ZgN(h:Heap)(it a:Addr)(slot i n ep:Nat):Prop:=∃o,h.get? it=some o/\o.cls=.type "set_iterator"/\o.data=.fields #[.int slot 0,.int i 0,.ref a,.int n 0,.int ep 0]
theorem ZgN.typeIs{s:Shared}{it a:Addr}{slot i n ep:Nat}(x:ZgN s.heap it a slot i n ep):s.TypeIs (.ref it) "set_iterator":=let ⟨o,ho,hc,_⟩:=x; ⟨o,ho,hc⟩
theorem ZgN.at'{h h':Heap}{it a:Addr}{slot i n ep:Nat}(x:ZgN h it a slot i n ep)(k:∀o,h.get? it=some o->h'.get? it=some o):ZgN h' it a slot i n ep:=let ⟨o,e,r⟩:=x; ⟨o,k o e,r⟩
section
variable{prog:Program}{w:World}{A:Around}{E:Value->Shared->Prop}{s:Shared}{it a:Addr}{es:Array (Int × Value)}{ep:Nat}{t:SetTable}
theorem Zsp{Q:Value->Shared->Prop}(x:Zev w s.heap a es ep t)
  (hQ:Q (.ref s.heap.objs.size) { s with heap:=s.heap.push { cls:=.type "set_iterator",data:=.fields #[.int 0 0,.int 0 0,.ref a,.int es.size 0,.int ep 0] } }) :
  wpAny (model prog w) A (pyIter (.ref a)) Q E s:=by
 obtain⟨o,ho,hex,hd⟩:=x.obj;have hT:s.TypeIs (.ref a) "set":=⟨o,ho,hex.1⟩;refine ZBI hT ZCi (Zzb ZCi hT ZkM ?_ (PySem.F.args_set_iter_1 _));unfold Builtin.«frozenset.__iter__» Builtin.Frozenset.slot0 slotArgs Builtin.Frozenset.addrOf Builtin.Frozenset.sizeOf;refine ZxQ (ZxQ (ZxV (ZxV ?_)));dsimp only;refine ZxQ (ZxQ (ZBk ho hd x.fit (ZxV ?_)));have hdr:∀{R:Bool->Shared->Prop} {A':Around} {E':Value->Shared->Prop},R false s->wpAny (model prog w) A' (setDrawn a) R E' s:=λ{R A' E'} hR=>by unfold setDrawn setsByText;refine ZxQ (ZAV ho hd x.fit (ZxQ (ZxQ (ZAx (ZxV (ZxV ?_))))));obtain⟨mk,pl,dm,fg,ld,mv,pn⟩:=t;obtain rfl:pn=true:=x.tab.plain;show R (!_&&(!true&&_)) s;simpa using hR
 refine ZxQ (hdr ?_);rw[if_neg (by simp)];refine ZxQ (ZxV (ZxQ (wpAny_setEpoch_of ho hd x.fit ?_)));show wpAny (model prog w) A.in1 (newFields "set_iterator" [rawInt 0,rawInt 0,ZyO a,rawInt (es.size:Int),rawInt (ep:Int)] >>= _) _ E s;refine ZxQ (ZyQ (ZxV ⟨_,rfl,"set_iterator",_,⟨_,Zx9 _ rfl,rfl⟩,Zcz.lookup,?_⟩));simpa [rawInt]using hQ
theorem Zjt{slot i:Nat}{R:Option (Value × Nat)->Shared->Prop}(x:Zev w s.heap a es ep t)(hs:w.params.followText "set-order" = false->Zx1 t.place slot=i)
  (hR:R ((ZdN w a es ep)[i]?.map λe=>(e.2,if w.params.followText "set-order" then slot else t.place.getD i 0+1)) s):wpAny (model prog w) A (setNext a slot i ep) R E s:=by
 obtain⟨o,ho,hex,hd⟩:=x.obj;unfold setNext setsByText;refine ZxQ (ZAV ho hd x.fit ?_);dsimp only;refine ZxQ (ZxQ (ZAx (ZxV ?_)));dsimp only;cases hb:w.params.followText "set-order" with
 | true=>have hb':(model prog w).w.params.followText "set-order" = true:=hb;rw[hb',if_pos rfl];unfold ZdN at hR;rw[hb,if_pos rfl]at hR;simp only[if_pos]at hR;refine ZzX (λq=>absurd q (by simp)) λ_=>?_;unfold setWalk setsByText;refine ZxQ (ZxQ (ZAV ho hd x.fit ?_));dsimp only;refine ZxQ (ZxQ (ZAx (ZxV ?_)));dsimp only;rw[hb',if_pos rfl];exact ZxQ (ZAx (ZxV (ZxV hR)))
 | false =>
  have hb':(model prog w).w.params.followText "set-order" = false:=hb;rw[hb',if_neg (by simp)];unfold ZdN at hR;rw[hb]at hR;simp only[ZzF,if_false]at hR;have hi:=hs hb;have hled:t.led=true:=by rw[x.tab.led,hb]; rfl
  have hsz:=x.siz;obtain⟨mk,pl,dm,fg,ld,mv,pn⟩:=t;obtain rfl:pn=true:=x.tab.plain;obtain rfl:ld=true:=hled;refine ZzX (λq=>absurd (show(!true&&_)=true from q) (by simp)) λ_=>?_;refine ZxQ ?_;refine ZzX (λq=>absurd (show(!true&&_)=true from q) (by simp)) λ_=>?_;refine ZxV ?_;dsimp only at hi hsz ⊢;rw[hi];refine ZxV ?_
  by_cases hlt:i<es.size
  ·have h1:es[i]?=some es[i]:=Zz5 hlt
   have h2:pl[i]?=some (pl.getD i 0):=by simp[ZzR,show i<pl.size by omega]
   rw[h1]at hR ⊢;rw[h2];exact hR
  ·have h1:es[i]?=none:=ZA0 (by omega)
   rw[h1]at hR ⊢;exact hR
theorem Ztr{slot i:Nat}{e:Int × Value}{Q:Option Value->Shared->Prop}(hit:ZgN s.heap it a slot i es.size ep)(x:Zev w s.heap a es ep t)(hs:w.params.followText "set-order" = false->Zx1 t.place slot=i)(he:(ZdN w a es ep)[i]?=some e)
  (hQ:∀h',ZgN h' it a (if w.params.followText "set-order" then slot else t.place.getD i 0+1) (i+1) es.size ep->ZzH it s.heap h'->Q (some e.2) { s with heap:=h' }) :
  wpAny (model prog w) A (pyNext (.ref it)) Q E s:=by
 obtain⟨o,ho,hc,hd⟩:=id hit;obtain⟨os,hos,hex,hds⟩:=x.obj;unfold pyNext;refine ZxQ (ZBB (wpAny_callSpecial?_slot (name:=ZAa "__next__") hit.typeIs Zcz
  (Zzb Zcz hit.typeIs ZhY ?_ (Ziz _))))
 unfold Builtin.«set_iterator.__next__» slotArgs;refine ZxQ (ZxV ?_);dsimp only;refine ZxQ (ZBo ho hd ?_);dsimp only;refine ZxQ (ZBk hos hds x.fit ?_);refine ZzX (λq=>absurd q (by simp)) λ_=>?_;simp only[ZAW];refine ZxQ (Zjt x hs ?_);rw[he];dsimp only[Option.map_some];refine ZxQ (ZAP ho hd (by simp) ?_);have g1:(s.heap.update it (ZCs (·.setIfInBounds 0 (rawInt ((if w.params.followText "set-order" = true then slot else t.place.getD i 0+1:Nat):Int))))).get? it=some _:=ZyZ _ ho (ZBa (Zzs hd _));refine ZxQ (ZAP g1 (Zzs hd _) (by simp) ?_);refine ZxV ⟨_,rfl,ZxV (hQ _ ⟨_,ZyZ _ g1 (ZBa (Zzs (Zzs hd _) _)),?_,?_⟩ ((ZyX ..).trans (ZyX ..)))⟩
 ·rw[ZBJ,ZBJ]; exact hc
 ·rw[Zzs (Zzs hd _)]; simp[rawInt]
theorem ZsF{slot i:Nat}{Q:Option Value->Shared->Prop}(hh:A.handled=none)(hit:ZgN s.heap it a slot i es.size ep)(x:Zev w s.heap a es ep t)(hs:w.params.followText "set-order" = false->Zx1 t.place slot=i)(he:es.size<=i)
  (hQ:∀h',Heap.ExtBut it s.heap h'->Q none { s with heap:=h' }):wpAny (model prog w) A (pyNext (.ref it)) Q E s:=by
 obtain⟨o,ho,hc,hd⟩:=id hit;obtain⟨os,hos,hex,hds⟩:=x.obj;have hn:(ZdN w a es ep)[i]?=none:=ZA0 (by rw[ZiC]; exact he);unfold pyNext;refine ZxQ (ZBB (wpAny_callSpecial?_slot (name:=ZAa "__next__") hit.typeIs Zcz
  (Zzb Zcz hit.typeIs ZhY ?_ (Ziz _))))
 unfold Builtin.«set_iterator.__next__» slotArgs;refine ZxQ (ZxV ?_);dsimp only;refine ZxQ (ZBo ho hd ?_);dsimp only;refine ZxQ (ZBk hos hds x.fit ?_);refine ZzX (λq=>absurd q (by simp)) λ_=>?_;simp only[ZAW];refine ZxQ (Zjt x hs ?_);rw[hn];dsimp only[Option.map_none];refine ZxQ (ZAP ho hd (by simp) ?_);refine ZxQ ?_;simp only[newExc,newTuple];refine ZxQ (ZyQ ?_ (by size_fits));refine ZxQ (m:=ZBp _ _) (ZCc (a:=ZyS) (by first | rfl | (simp only[ZBp]; rfl)) ?_)
 refine ZyQ ?_ (by size_fits);simp only[raiseNew];refine ZxQ (wpAny_handled ?_);rw[show A.in1.handled=none from hh];refine ZxQ (ZxV (wpAny_throw ?_));refine ZxQ (ZBW (T:="StopIteration") (b:=true) ⟨_,Zx9 _ rfl,rfl⟩ isSubtype_stop ?_);exact ZxV (hQ _ (((ZyX ..).extBut.push _).push _))
theorem ZsH{slot i n:Nat}{Q:Value->Shared->Prop}(hit:ZgN s.heap it a slot i n ep)(h:Q (.ref it) s):wpAny (model prog w) A (pyIter (.ref it)) Q E s:=by refine ZBI hit.typeIs ZiL (Zzb ZiL hit.typeIs Zmg ?_ (ZnA _));show wpAny _ _ (ret (.ref it)) _ _ s;exact ZxV ⟨_,rfl,"set_iterator",_,hit.typeIs,Zcz.lookup,h⟩
theorem Zr3(hh:A.handled=none)(I a:Addr)(hne:a≠I)(es:Array (Int × Value))(ep:Nat)(t:SetTable) :
  Walks prog w A I [I,a] [I] es.size (λi v=>∃e,(ZdN w a es ep)[i]?=some e/\v=e.2) (λi h=>∃slot,ZgN h I a slot i es.size ep/\Zev w h a es ep t/\(w.params.followText "set-order" = false->Zx1 t.place slot=i)) where
 sub:=λb hb=>by simp at hb; simp[hb]
 frame:=λ_ _ _ ⟨slot,h1,h2,h3⟩ hk=>⟨slot,h1.at' λo e=>hk I (by simp) o e,h2.at' λo e=>hk a (by simp) o e,h3⟩
 item:=λi s Q E hi ⟨slot,h1,h2,h3⟩ hQ=>by
  have hlt:i<(ZdN w a es ep).size:=by rw[ZiC]; exact hi
  have hx:(ZdN w a es ep)[i]?=some (ZdN w a es ep)[i]:=Zz5 hlt;refine Ztr h1 h2 h3 hx λh' hit' hs'=>?_;refine hQ _ h' s.toks ⟨_,hx,rfl⟩ ⟨_,hit',h2.at' λo e=>hs'.extBut a o hne e,λhb=>?_⟩ λb o hb e=>hs'.extBut b o (λh=>hb (by simp[h])) e;rw[hb];exact Zqa h2.tab.rise (by rw[<-h2.siz]; exact hi)
 done:=λs Q E ⟨slot,h1,h2,h3⟩ hQ=>ZsF hh h1 h2 h3 (Zx2 _) λh' he'=>hQ h' s.toks λb o hb e=>he' b o (λh=>hb (by simp[h])) e
 self:=λ_ _ _ _ ⟨slot,h1,_⟩ hQ=>ZsH h1 hQ
end
end HP
namespace HP
open PySem PySem.W PyProof.Rows
section
variable{α β:Type}
def ZcA(o:Nat->Nat->Bool)(n:Nat):KasT α->(α->Prop)->Prop
 | .ret a,Q=>Q a
 | .ask i j k,Q=>i<n/\j<n/\ZcA o n (k (o i j)) Q
theorem ZcA.bnd{o:Nat->Nat->Bool}{n:Nat}{f:α->KasT β}{Q:β->Prop}:∀(t:KasT α),ZcA o n t (λa=>ZcA o n (f a) Q)->ZcA o n (t.bind f) Q
 | .ret a,h=>h
 | .ask i j k,h=>⟨h.1,h.2.1,ZcA.bnd (k (o i j)) h.2.2⟩
end
structure Pm(n:Nat)(p:Array Nat):Prop where
 pos:0<n
 perm:p.Perm (List.toArray (ZxZ n))
theorem Pm.size{n:Nat}{p:Array Nat}(h:Pm n p):p.size=n:=by have:=h.perm.size_eq;simpa using this
theorem Pm.lt{n:Nat}{p:Array Nat}(h:Pm n p)(i:Nat):p.getD i 0<n:=by
 by_cases hi:i<p.size
 ·have e:p.getD i 0=p[i]:=by simp[ZzR,hi]
  rw[e];have:=(ZBC.mp h.perm).mem_iff (a:=p[i]);have h2:=this.mp (by simp);simpa using h2
 ·have e:p.getD i 0=0:=by simp[ZzR,hi]
  rw[e]; exact h.pos
theorem Pm.rev{n:Nat}{p:Array Nat}(h:Pm n p)(i j:Nat):Pm n (kas_rev p i j):=⟨h.pos,(mirror_perm _ _ _ _).trans h.perm⟩
theorem Pm.bub{n:Nat}{p:Array Nat}(h:Pm n p)(i j:Nat):Pm n (bubble p i j):=⟨h.pos,(bubble_perm _ _ _).trans h.perm⟩
theorem getD_eq?(p:Array Nat)(i:Nat):p.getD i 0=(p[i]?).getD 0:=by simp[Array.getD_eq_getD_getElem?]
section
variable(O:KeyOrd)(key:Nat->O.α)
def Ka(p:Array Nat)(i:Nat):O.α:=key (p.getD i 0)
def Up(p:Array Nat)(k:Nat):Prop:=∀i j,i<=j->j<k->O.kle (Ka O key p i) (Ka O key p j)
def Dn(p:Array Nat)(k:Nat):Prop:=∀i j,i<=j->j<k->O.kle (Ka O key p j) (Ka O key p i)
def Ev(p:Array Nat)(m q:Nat):Prop:=∀i,m-(q+1)<=i->i<m->Ka O key p i=Ka O key p (m-1)
abbrev orc:Nat->Nat->Bool:=λi j=>O.blt (key i) (key j)
variable{O key}{p:Array Nat}{n:Nat}
theorem ZnL{i j:Nat}(hj:j<=p.size)(k:Nat):Ka O key (kas_rev p i j) k=if i<=k/\k<j then Ka O key p (i+j-1-k)else Ka O key p k:=by unfold Ka kas_rev;rw[getD_eq?,getElem?_mirror_all hj];split<;>rw[<-getD_eq?]
theorem ZiI{i j:Nat}(hj:j<=p.size)(h:∀k,i<=k->k<j->Ka O key p k=Ka O key p (j-1))(k:Nat):Ka O key (kas_rev p i j) k=Ka O key p k:=by
 rw[ZnL hj];split
 ·rename_i hk
  rw[h _ (by omega) (by omega),h k hk.1 hk.2]
 ·rfl
theorem Zsa{s d:Nat}(hs:s<p.size)(hd:d<=s)(k:Nat):Ka O key (bubble p s d) k=if k=s-d then Ka O key p s else if s-d<k/\k<=s then Ka O key p (k-1)else Ka O key p k:=by
 unfold Ka;rw[getD_eq?,getElem?_bubble hs d hd]
 by_cases h1:k=s-d
 ·rw[if_pos h1,if_pos h1,<-getD_eq?]
 ·rw[if_neg h1,if_neg h1]
  by_cases h2:s-d<k/\k<=s
  ·rw[if_pos h2,if_pos h2,<-getD_eq?]
  ·rw[if_neg h2,if_neg h2,<-getD_eq?]
theorem Up.one:Up O key p 1:=λi j h1 h2=>by
 obtain rfl:i=j:=by omega
 exact ZAm _
theorem Up.more{k:Nat}(h:Up O key p k)(hl:O.kle (Ka O key p (k-1)) (Ka O key p k)):Up O key p (k+1):=λi j h1 h2=>by
 by_cases hj:j<k
 ·exact h i j h1 hj
 obtain rfl:j=k:=by omega
 by_cases hi:i=j
 ·subst hi; exact ZAm _
 ·exact ZA7 (h i (j-1) (by omega) (by omega)) hl
theorem Dn.more{k:Nat}(h:Dn O key p k)(hl:O.kle (Ka O key p k) (Ka O key p (k-1))):Dn O key p (k+1):=λi j h1 h2=>by
 by_cases hj:j<k
 ·exact h i j h1 hj
 obtain rfl:j=k:=by omega
 by_cases hi:i=j
 ·subst hi; exact ZAm _
 ·exact ZA7 hl (h i (j-1) (by omega) (by omega))
theorem Dn.same{p':Array Nat}{k:Nat}(h:Dn O key p k)(e:∀i,Ka O key p' i=Ka O key p i):Dn O key p' k:=λi j h1 h2=>by rw[e,e]; exact h i j h1 h2
theorem Zj5(hp:Pm n p){Q:Nat->Prop}:∀(f m:Nat),Up O key p m->(∀m',m<=m'->m'<=m+f->Up O key p m'->(m'=m+f\/O.klt (Ka O key p m') (Ka O key p (m'-1)))->Q m')->ZcA (orc O key) n (kas_asc p f m) Q
 | 0,m,hu,hq=>hq m (Zx2 _) (by omega) hu (.inl rfl)
 | f+1,m,hu,hq=>by
  refine⟨hp.lt _,hp.lt _,?_⟩;dsimp only;split
  ·rename_i h
   exact hq m (Zx2 _) (by omega) hu (.inr h)
  ·rename_i h
   refine Zj5 hp f (m+1) (hu.more (ZzY h)) λm' h1 h2 h3 h4=>hq m' (by omega) (by omega) h3 (h4.imp (λe=>by omega) id)
theorem Zgo{Q:Array Nat × Nat × Nat->Prop}:∀(f:Nat) (p:Array Nat) (m q:Nat),Pm n p->Dn O key p m->q+1<=m->Ev O key p m q->m+f<=n ->
  (∀p' m' q',Pm n p'->m<=m'->m'<=m+f->Dn O key p' m'->q'+1<=m'->Ev O key p' m' q'->Q (p',m',q'))->ZcA (orc O key) n (kas_desc f p m q) Q
 | 0,p,m,q,hp,hd,h1,he,hn,hq=>hq p m q hp (Zx2 _) (by omega) hd h1 he
 | f+1,p,m,q,hp,hd,h1,he,hn,hq=>by
  have hz:m<=p.size:=by rw[hp.size]; omega
  have e0:∀p',Ev O key p' (m+1) 0:=λp' i h1 h2=>by congr 1; omega
  refine⟨hp.lt _,hp.lt _,?_⟩;dsimp only;split
  ·rename_i h
   have hd':=hd.more (ZAX h);split
   ·exact Zgo f _ (m+1) 0 (hp.rev _ _) (hd'.same (ZiI hz he)) (by omega) (e0 _) (by omega) λp' m' q' a b c d e g=>hq p' m' q' a (by omega) (by omega) d e g
   ·exact Zgo f _ (m+1) 0 hp hd' (by omega) (e0 _) (by omega) λp' m' q' a b c d e g=>hq p' m' q' a (by omega) (by omega) d e g
  ·rename_i h
   refine⟨hp.lt _,hp.lt _,?_⟩;dsimp only;split
   ·exact hq p m q hp (Zx2 _) (by omega) hd h1 he
   ·rename_i h'
    have l1:=ZzY h;have l2:=ZzY h';have ee:Ka O key p m=Ka O key p (m-1):=ZCu l2 l1;refine Zgo f p (m+1) (q+1) hp (hd.more l2) (by omega) (λi a b=>?_) (by omega) λp' m' q' a b c d e g=>hq p' m' q' a (by omega) (by omega) d e g;rw[show m+1-1=m by omega]
    by_cases hi:i=m
    ·rw[hi]
    ·rw[ee]; exact he i (by omega) (by omega)
theorem ZlH{Q:Nat × Array Nat->Prop}{m:Nat}(hp:Pm n p)(hd:Dn O key p m)(h1:1<=m)(hm:m<=n)(hq:∀m' p',1<=m'->m'<=n->Pm n p'->Up O key p' m'->Q (m',p')):ZcA (orc O key) n (kas_tail3 m n p) Q:=by
 have hz:m<=p.size:=by rw[hp.size]; omega
 refine ZcA.bnd _ (Zj5 (hp.rev 0 m) (n-m) m (λi j a b=>?_) λm' a b c _=>hq m' _ (by omega) (by omega) (hp.rev 0 m) c);rw[ZnL hz,ZnL hz,if_pos (by omega),if_pos (by omega)];exact hd _ _ (by omega) (by omega)
theorem ZlC{Q:Nat × Array Nat->Prop}{m:Nat}(hp:Pm n p)(hd:Dn O key p (m+1))(hm:m+1<=n)(hq:∀m' p',1<=m'->m'<=n->Pm n p'->Up O key p' m'->Q (m',p')):ZcA (orc O key) n (kas_descPart m n p) Q:=by
 refine ZcA.bnd _ (Zgo (n-(m+1)) p (m+1) 0 hp hd (by omega) (λi a b=>by congr 1; omega) (by omega) λp' m' q' h1 h2 h3 h4 h5 h6=>?_);have hz:m'<=p'.size:=by rw[h1.size]; omega
 dsimp only;split
 ·exact ZlH (h1.rev _ _) (h4.same (ZiI hz h6)) (by omega) (by omega) hq
 ·exact ZlH h1 h4 (by omega) (by omega) hq
theorem Zqx{Q:Nat × Array Nat->Prop}(hp:Pm n p)(hq:∀m' p',1<=m'->m'<=n->Pm n p'->Up O key p' m'->Q (m',p')):ZcA (orc O key) n (kas_count n p) Q:=by
 have h0:=hp.pos;refine ZcA.bnd _ (Zj5 hp (n-1) 1 Up.one λm h1 h2 h3 h4=>?_);have hz:m<=p.size:=by rw[hp.size]; omega
 split
 ·exact hq m p (by omega) (by omega) hp h3
 ·rename_i hne
  have hne':m≠n:=by simpa using hne
  have hlt:O.klt (Ka O key p m) (Ka O key p (m-1)):=h4.resolve_left (by omega);split
  ·rename_i hm
   refine⟨hp.lt _,hp.lt _,?_⟩;dsimp only;split
   ·exact hq m p (by omega) (by omega) hp h3
   ·rename_i hr
    have hr':O.kle (Ka O key p (m-1)) (Ka O key p 0):=ZzY hr;have all:∀k,0<=k->k<m->Ka O key p k=Ka O key p (m-1):=λk _ hk=>ZCu (h3 k (m-1) (by omega) (by omega)) (ZA7 hr' (h3 0 k (by omega) hk));refine ZlC (hp.rev _ _) (Dn.same ?_ (ZiI hz all)) (by omega) hq;refine Dn.more (λi j a b=>?_) (ZAX hlt);rw[all i (by omega) (by omega),all j (by omega) b]; exact ZAm _
  ·obtain rfl:m=1:=by omega
   refine ZlC hp (Dn.more (λi j a b=>?_) (ZAX hlt)) (by omega) hq;obtain rfl:i=j:=by omega
   exact ZAm _
theorem ZhK{Q:Nat->Prop}{k:Nat}(hp:Pm n p)(hu:Up O key p k):∀(f l r:Nat),l<=r->r<=k->r-l<=f->(∀i,i<l->O.kle (Ka O key p i) (Ka O key p k))->(∀i,r<=i->i<k->O.klt (Ka O key p k) (Ka O key p i)) ->
  (∀l,l<=k->(∀i,i<l->O.kle (Ka O key p i) (Ka O key p k))->(∀i,l<=i->i<k->O.klt (Ka O key p k) (Ka O key p i))->Q l)->ZcA (orc O key) n (kas_place p k f l r) Q
 | 0,l,r,h1,h2,h3,lo,hi,hq=>by
  obtain rfl:l=r:=by omega
  exact hq l h2 lo hi
 | f+1,l,r,h1,h2,h3,lo,hi,hq=>by
  unfold kas_place;split
  ·obtain rfl:l=r:=by omega
   exact hq l h2 lo hi
  ·refine⟨hp.lt _,hp.lt _,?_⟩
   dsimp only;split
   ·rename_i h
    exact ZhK hp hu f l ((l+r) / 2) (by omega) (by omega) (by omega) lo (λi a b=>KeyOrd.klt_of_klt_of_kle h (hu _ _ a b)) hq
   ·rename_i h
    refine ZhK hp hu f ((l+r) / 2+1) r (by omega) (by omega) (by omega) (λi a=>ZA7 (hu i ((l+r) / 2) (by omega) (by omega)) (ZzY h)) hi hq
theorem Zod{Q:Array Nat->Prop}:∀(f:Nat) (p:Array Nat) (k:Nat),Pm n p->Up O key p k->k+f=n->(∀p',Pm n p'->Up O key p' n->Q p')->ZcA (orc O key) n (kas_bin f p k) Q
 | 0,p,k,hp,hu,hn,hq=>by
  obtain rfl:k=n:=by omega
  exact hq p hp hu
 | f+1,p,k,hp,hu,hn,hq=>by
  refine ZcA.bnd _ (ZhK hp hu k 0 k (by omega) (Zx2 _) (by omega) (λi a=>by omega) (λi a b=>by omega) λl hl lo hi=>?_);refine Zod f _ (k+1) (hp.bub _ _) (λi j a b=>?_) (by omega) hq;have hk:k<p.size:=by rw[hp.size]; omega
  rw[Zsa hk (by omega),Zsa hk (by omega),show k-(k-l)=l by omega]
  repeat' split
  all_goals first
   | (exfalso; omega)
   | exact ZAm _
   | exact lo _ (by omega)
   | exact ZAX (hi _ (by omega) (by omega))
   | exact hu _ _ (by omega) (by omega)
theorem ZrT(hn:0<n){Q:Array Nat->Prop}(hq:∀p,Pm n p->Up O key p n->Q p):ZcA (orc O key) n (kas_sort n) Q:=by
 refine ZcA.bnd _ (Zqx ⟨hn,.refl _⟩ λm p h1 h2 h3 h4=>?_);dsimp only;rw[show max m 1=m by omega];split
 ·exact Zod _ p m h3 h4 (by omega) hq
 ·exact hq p h3 (by rwa [show n=m by omega])
end
theorem lex_irrefl:∀a:List Int,HM.lexLt a a=false
 | []=>rfl
 | x::a=>by show(if x=x then HM.lexLt a a else decide (x<x))=false;rw[if_pos rfl]; exact lex_irrefl a
theorem Zgb(x y:Int)(a b:List Int):HM.lexLt (x::a) (y::b)=if x=y then HM.lexLt a b else decide (x<y):=rfl
theorem lex_trans:∀a b c:List Int,HM.lexLt a b=true->HM.lexLt b c=true->HM.lexLt a c=true
 | [],[],_,h,_=>by cases h
 | [],_::_,[],_,h=>by cases h
 | [],_::_,_::_,_,_=>rfl
 | _::_,[],_,h,_=>by cases h
 | _::_,_::_,[],_,h=>by cases h
 | x::a,y::b,z::c,h1,h2=>by
  rw[Zgb]at *;split at h1
  ·rename_i e
   subst e;split at h2
   ·rename_i e; subst e; rw[if_pos rfl]; exact lex_trans a b c h1 h2
   ·rename_i e; rw[if_neg e]; exact h2
  ·split at h2
   ·rename_i e1 e2; subst e2; rw[if_neg e1]; exact h1
   ·rename_i e1 e2
    have h1:=of_decide_eq_true h1;have h2:=of_decide_eq_true h2;rw[if_neg (by omega)]; exact decide_eq_true (by omega)
theorem ZkW:∀a b c:List Int,HM.lexLt a c=true->HM.lexLt a b=true\/HM.lexLt b c=true
 | [],[],_,h=>.inr h
 | [],_::_,_,_=>.inl rfl
 | _::_,_,[],h=>by cases h
 | _::_,[],_::_,_=>.inr rfl
 | x::a,y::b,z::c,h=>by
  rw[Zgb]at *;rw[Zgb];split at h
  ·rename_i e
   subst e
   by_cases e:x=y
   ·subst e; rw[if_pos rfl,if_pos rfl]; exact ZkW a b c h
   ·rw[if_neg e,if_neg (ZyR e)]
    by_cases q:x<y
    ·exact .inl (decide_eq_true q)
    ·exact .inr (decide_eq_true (by omega))
  ·rename_i e
   have h:=of_decide_eq_true h
   by_cases e1:x=y
   ·subst e1; rw[if_neg e]; exact .inr (decide_eq_true h)
   ·rw[if_neg e1]
    by_cases q:x<y
    ·exact .inl (decide_eq_true q)
    ·rw[if_neg (by omega)]; exact .inr (decide_eq_true (by omega))
theorem Ziv:∀a b:List Int,HM.lexLt a b=false->HM.lexLt b a=false->a=b
 | [],[],_,_=>rfl
 | [],_::_,h,_=>by cases h
 | _::_,[],_,h=>by cases h
 | x::a,y::b,h1,h2=>by
  rw[Zgb]at h1 h2
  by_cases e:x=y
  ·subst e
   rw[if_pos rfl]at h1 h2;rw[Ziv a b h1 h2]
  ·rw[if_neg e]at h1
   rw[if_neg (ZyR e)]at h2;have h1:=of_decide_eq_false h1;have h2:=of_decide_eq_false h2;omega
@[reducible] def Znt:KeyOrd where
 α:=List Int
 blt:=HM.lexLt
 irrefl:=lex_irrefl
 trans:=lex_trans
 negTrans:=ZkW
 total:=Ziv
theorem ZhJ{α:Type}{R:α->α->Prop}(anti:∀a b,R a b->R b a->a=b):∀{l m:List α},l.Perm m->l.Pairwise R->m.Pairwise R->l=m
 | [],m,hp,_,_=>(List.nil_perm.mp hp).symm
 | x::l,[],hp,_,_=>absurd hp.symm (by intro q; exact List.cons_ne_nil _ _ (List.nil_perm.mp q))
 | x::l,y::m,hp,hl,hm=>by
  obtain⟨l1,l2⟩:=ZyD.mp hl;obtain⟨m1,m2⟩:=ZyD.mp hm;have e:x=y:=by
   rcases Zye.mp (hp.mem_iff.mp (ZxU ..))with e | e
   ·exact e
   ·rcases Zye.mp (hp.mem_iff.mpr (ZxU ..))with e' | e'
    ·exact e'.symm
    ·exact anti x y (l1 y e') (m1 x e)
  subst e;rw[ZhJ anti ((List.perm_cons x).mp hp) l2 m2]
def TI(h:Heap)(b:Addr)(t:List Int):Prop:=∃o its n,h.get? b=some o/\o.cls=.type "tuple"/\o.data=.seq its n/\IntsAre its.toList t
theorem TI.keep{h h':Heap}{b:Addr}{t:List Int}(x:TI h b t)(k:∀o,h.get? b=some o->h'.get? b=some o):TI h' b t:=let ⟨o,its,n,e,r⟩:=x; ⟨o,its,n,k o e,r⟩
section
variable{prog:Program}{w:World}{A:Around}{E:Value->Shared->Prop}{s:Shared}
theorem Zrm{fin:Bool}{Q:Bool->Shared->Prop}:∀{vs ws:List Value} {a b:List Int} (i:Nat),IntsAre vs a->IntsAre ws b->fin=decide (vs.length<ws.length)->Q (HM.lexLt a b) s->KatLex prog w A true fin Q (vs.zip ws) i s
 | _,_,_,_,i,.nil,.nil,e,q=>by subst e; exact kat_nil q
 | _,_,_,_,i,.nil,.cons _ _ _,e,q=>by subst e; exact kat_nil q
 | _,_,_,_,i,.cons _ _ _,.nil,e,q=>by subst e; exact kat_nil q
 | _,_,_,_,i,.cons x t hv,.cons y u hw,e,q=>by
  rw[List.zip_cons_cons];refine kat_cons (wpAny_eqBool_int ?_);rw[Zgb]at q
  by_cases h:x=y
  ·rw[if_pos h]at q
   rw[show(x==y)=true by simpa using h];refine kat_yes (Zrm (i+1) hv hw ?_ q);rw[e,Zx8,Zx8];exact decide_eq_decide.mpr (by omega)
  ·rw[if_neg h]at q
   rw[show(x==y)=false by simpa using h];refine kat_no ?_
   by_cases hi:i=0
   ·rw[show(true&&i==0)=true by simpa using hi]
    exact oneLt_int q
   ·rw[show(true&&i==0)=false by simpa using hi]
    exact kat_one _ _ (PyProof.Rows.lt_int q)
theorem ZvA{x y:Addr}{a b:List Int}{Q:Bool->Shared->Prop}(hx:TI s.heap x a)(hy:TI s.heap y b)(h:Q (HM.lexLt a b) s):wpAny (model prog w) A (keyLt' (tuples' true) (.ref x) (.ref y)) Q E s:=by obtain⟨ox,ix,n,e1,_,d1,r1⟩:=hx;obtain⟨oy,iy,k,e2,_,d2,r2⟩:=hy;refine kat_lt e1 d1 e2 d2 (Zrm 0 r1 r2 ?_ h);rw[Zyj,Zyj]
theorem ZpD{α:Type}{cmp:Nat->Nat->(Bool->Shared->Prop)->Shared->Prop}{o:Nat->Nat->Bool}{n:Nat}(hc:∀i j C,i<n->j<n->C (o i j) s->cmp i j C s){G:α->Shared->Prop}:∀(t:KasT α),ZcA o n t (λa=>G a s)->t.kasWp cmp G s
 | .ret a,h=>h
 | .ask i j k,h=>hc i j _ h.1 h.2.1 (ZpD hc (k (o i j)) h.2.2)
theorem ZsD{a:Addr}{vs:List Value}{ts:List (List Int)}{n:Nat}{P:PySem.Fin->Shared->Prop}(ho:s.heap.get? a=some (seqObj "list" vs.toArray n))(hl:ts.length=vs.length)
  (hT:∀(i:Nat) t,ts[i]?=some t->∃b,vs[i]?=some (.ref b)/\TI s.heap b t) (hne:vs.length<2\/∀t∈ts,t≠[]) (h64:vs.length<64)
  (h:∀p:List Nat,p.Perm (ZxZ vs.length)->(p.map λi=>ts.getD i []).Pairwise (λx y=>HM.lexLt y x=false)->P (.done (.ret .none)) { s with heap:=sortedHeap s.heap a vs (p.map λi=>vs.getD i ZyS).toArray }) :
  wpAny (model prog w) A (Builtin.«list.sort» ⟨[.ref a],[]⟩) P E s:=by
 rw[list_sort_plain];have ha:a<s.heap.objs.size:=Zx7 ho;refine ZxQ (listItems_at ho rfl (ZxQ (listUpdate_at ho rfl ?_ (by rw[Zya,Zzc]; omega) (Zzu _))));obtain⟨e1,ho1⟩:∃e1,(s.heap.update a (ZAL λ_=>#[])).get? a=some (seqObj "list" #[] e1):=⟨_,get?_update_seq ho (λ_=>#[])⟩;refine ZxQ (seqEpoch_at ho1 rfl ?_);refine ZxQ (wpAny_newTuple ?_ (by show vs.length<=_; rw[Zzc]; omega));refine ZxQ (wpAny_newList ?_ (Zzu _));refine Zy0 ?_;generalize hG:((s.heap.update a (ZAL λ_=>#[])).push (seqObj "tuple" vs.toArray 0)).push (seqObj "list" #[] 0)=g;have ho6:g.get? a=some (seqObj "list" #[] e1):=by rw[<-hG,ZAY _ _ _ (by rw[size_push',ZA8]; exact Zyf (ZAq ha)),ZAY _ _ _ (by rw[ZA8]; exact Zyf ha)];exact ho1
 have hold:∀b o,b≠a->s.heap.get? b=some o->g.get? b=some o:=λb o hb e=>by have hlt:=Zx7 e;rw[<-hG,ZAY _ _ _ (by rw[size_push',ZA8]; exact Zyf (ZAq hlt)),ZAY _ _ _ (by rw[ZA8]; exact Zyf hlt),Heap.get?_update_ne _ _ _ _ hb];exact e
 have hT6:∀(i:Nat) t,ts[i]?=some t->∃b,vs[i]?=some (.ref b)/\TI g b t:=λi t e=>by
  obtain⟨b,e1,x⟩:=hT i t e;refine⟨b,e1,x.keep λo q=>hold b o ?_ q⟩
  rintro rfl
  obtain⟨o',_,_,q1,q2,_⟩:=x;rw[ho]at q1;cases q1;injection q2 with q2
  exact absurd q2 (by decide)
 show wpAny (model prog w) A _ P E { s with heap:=g };dsimp only;have fin:∀(st':SortSt) (p:List Nat),p.Perm (ZxZ vs.length)->(p.map λi=>ts.getD i []).Pairwise (λx y=>HM.lexLt y x=false)->(arrOf st').map (·.2)=(p.map λi=>vs.getD i ZyS).toArray->failedOf st'=none ->
   wpAny (model prog w) A (do
    let touched:=(<-seqEpoch a) != e1
    Builtin.List.listUpdate (.ref a) λ_=>(arrOf st').map (·.2)
    if let some e:=failedOf st' then rule "list.sort.comparison-raised"; throw e
    if touched then rule "list.sort.modified"; raiseError "ValueError" "list modified during sort"
    ret .none) P E { s with heap:=g }:=by
  intro st' p hp hs har hf;refine ZxQ (seqEpoch_at ho6 rfl ?_);rw[har];refine ZxQ (listUpdate_at ho6 rfl ?_ (Zzu _) (by show(p.map λi=>vs.getD i ZyS).toArray.size<=_; rw[Zya,ZxS,hp.length_eq,Zz2,Zzc]; omega));rw[hf];simp only[bne_self_eq_false,ZzF,if_false];refine ZxV ?_;have:=h p hp hs;unfold sortedHeap at this;rw[hG]at this;exact this
 by_cases h2:vs.toArray.size<2
 ·rw[if_pos h2,if_pos h2]
  refine ZxQ (ZxV ?_);rw[StateT.run_pure];refine ZxQ (ZxV ?_);refine fin (SortSt.mk' general' (vs.toArray.zip vs.toArray) #[] 7 none) (ZxZ vs.length) (.refl _) ?_ ?_ rfl
  ·rw[Zya]at h2
   have:vs.length=0\/vs.length=1:=by omega
   rcases this with e | e<;>rw[e]<;>simp
  ·rw[Zya]at h2
   show Array.map (·.2) (vs.toArray.zip vs.toArray)=_
   match vs,h2 with
   | [],_=>simp
   | [v],_=>simp
 ·rw[if_neg h2,if_neg h2]
  rw[Zya]at h2;have hne':∀t∈ts,t≠[]:=hne.resolve_left h2;have tups:∀(vs:List Value) (ts:List (List Int)),ts.length=vs.length->(∀(i:Nat) t,ts[i]?=some t->∃b,vs[i]?=some (.ref b)/\TI g b t)->(∀t∈ts,t≠[])->∃fs,KatTups g vs fs/\fs.length=vs.length/\∀v∈fs,∃x t,v=ZzD x t:=by
   intro vs
   induction vs with
   | nil=>intro ts hl _ _; exact⟨[],KatTups.nil,rfl,by simp⟩
   | cons v vs ih =>
    intro ts hl hT hn;cases ts with
    | nil=>simp at hl
    | cons t ts =>
     obtain⟨fs,f1,f2,f3⟩:=ih ts (by simpa using hl) (λi t e=>hT (i+1) t (by simpa using e)) λx hx=>hn x (ZxW _ hx);obtain⟨b,eb,o,its,m,g1,g2,g3,g4⟩:=hT 0 t rfl;simp at eb;subst eb;cases t with
     | nil=>exact absurd rfl (hn [] (ZxU ..))
     | cons x t =>
      cases hi:its.toList with
      | nil=>rw[hi]at g4; cases g4
      | cons y ys =>
       rw[hi]at g4;cases g4 with
       | cons _ u _ =>
        refine⟨.int x u::fs,KatTups.cons g1 g2 g3 ?_ f1,by simp[f2],λv hv=>?_⟩
        ·rw[<-ZyJ,hi]; rfl
        ·rcases Zye.mp hv with e | e
         ·exact⟨x,u,e⟩
         ·exact f3 v e
  obtain⟨fs,f1,f2,f3⟩:=tups vs ts hl hT6 hne';refine ZxQ (kat_kind (s:={ s with heap:=g }) (T:=.type "int") f1 (by omega) (λv hv=>?_) (by rfl) ?_)
  ·obtain⟨x,t,rfl⟩:=f3 v hv
   exact Looks.of_pure rfl
  rw[show(ZAK "int" != ZAK "tuple")=true by decide];refine ZxQ (Zy3 (kat_run (ks:=vs) (Q:=λst' s'=>s'={ s with heap:=g }/\∃p:Array Nat,Pm vs.length p/\Up Znt (λi=>ts.getD i []) p vs.length/\arrOf st'=p.map (kas_item (vs.toArray.zip vs.toArray))/\failedOf st'=none)
   (G:=λp s'=>s'={ s with heap:=g }/\Pm vs.length p/\Up Znt (λi=>ts.getD i []) p vs.length) rfl (by omega) h64 (λp' st' s' a1 a2 a3 a4=>⟨a4.1,p',a4.2.1,a4.2.2,a2,a3⟩) ?_) ?_ λ_ _ e=>e)
  ·refine ZpD (o:=orc Znt λi=>ts.getD i []) (n:=vs.length) (λi j C hi hj hC=>?_) _ (ZrT (by omega) λp h1 h2=>⟨rfl,h1,h2⟩)
   have gi:ts[i]?=some (ts.getD i []):=by simp[show i<ts.length by omega]
   have gj:ts[j]?=some (ts.getD j []):=by simp[show j<ts.length by omega]
   obtain⟨b1,v1,x1⟩:=hT6 i _ gi;obtain⟨b2,v2,x2⟩:=hT6 j _ gj;show wpAny (model prog w) A (keyLt' _ (vs.getD i ZyS) (vs.getD j ZyS)) C _ _;rw[show vs.getD i ZyS=.ref b1 by simp[Zzj,v1],show vs.getD j ZyS=.ref b2 by simp[Zzj,v2]];exact ZvA x1 x2 hC
  ·rintro ⟨⟨⟩,st'⟩ s' ⟨rfl,p,hp,hu,har,hf⟩
   refine fin st' p.toList ?_ ?_ (kat_snds rfl har) hf
   ·have:=ZBC.mp hp.perm
    simpa using this
   ·rw[List.pairwise_map,ZBN]
    intro i j hi hj hij;have hsz:=hp.size;have q:=hu i j (ZzG hij) (by rw[Zyj]at hj; omega);unfold Ka at q;rw[show p.getD i 0=p.toList[i] by simp[ZzR,show i<p.size by simpa using hi],show p.getD j 0=p.toList[j] by simp[ZzR,show j<p.size by simpa using hj]]at q;exact q
end
def ZeJ(h:Heap)(d:Addr)(es:Array DictEntry)(ep:Nat):Prop:=∃o,h.get? d=some o/\o.ExactDict/\o.data=.dict es ep
theorem ZeJ.at'{h h':Heap}{d:Addr}{es:Array DictEntry}{ep:Nat}(x:ZeJ h d es ep)(e:∀o,h.get? d=some o->h'.get? d=some o):ZeJ h' d es ep:=let ⟨o,ho,r⟩:=x; ⟨o,e _ ho,r⟩
theorem ZeJ.typeIs{s:Shared}{d:Addr}{es:Array DictEntry}{ep:Nat}(x:ZeJ s.heap d es ep):s.TypeIs (.ref d) "dict":=let ⟨o,ho,hc,_⟩:=x; ⟨o,ho,hc.1⟩
theorem ZeJ.lt{h:Heap}{d:Addr}{es:Array DictEntry}{ep:Nat}(x:ZeJ h d es ep):d<h.objs.size:=let ⟨o,ho,_⟩:=x; Zx7 ho
section
variable{prog:Program}{w:World}{A:Around}{E:Value->Shared->Prop}{s:Shared}{it d:Addr}{es:Array DictEntry}{ep i:Nat}
theorem Zn4{Q:Value->Shared->Prop}(hd:(d==Zzl)=false)(hm:ZeJ s.heap d es ep)
  (hQ:Q (.ref s.heap.objs.size) { s with heap:=s.heap.push { cls:=.type "dict_keyiterator",data:=.fields #[.ref d,.int 0 0,.int es.size 0,.int ep 0] } }) :
  wpAny (model prog w) A (pyIter (.ref d)) Q E s:=by
 obtain⟨o,ho,hc,hdat⟩:=id hm;have hT:=hm.typeIs;refine ZBI hT F.slot_dict_iter (Zzb F.slot_dict_iter hT F.entry_dict_iter ?_ (F.args_dict_iter_1 _));unfold Builtin.«dict.__iter__»;refine ZxQ ?_;unfold Builtin.Dict.dictSlotNone;refine ZxQ (wpAny_notOrdered_dict hT ?_);show wpAny _ _ (pure (ZyO d)) _ _ s;refine ZxV ?_;show wpAny _ _ (ZCj d >>= _) _ _ s;unfold ZCj;rw[if_neg (by rw[hd]; exact Zyy)];refine ZxQ (ZxV (ZxQ (ZAT ho hdat (ZxQ (ZB5 ho hdat ?_)))));refine ZxQ (ZyQ (ZxV ⟨_,rfl,"dict_keyiterator",_,⟨_,Zx9 _ rfl,rfl⟩,F.slot_dict_keyiterator_next.lookup,?_⟩));simpa [rawInt]using hQ
theorem Znk{e:DictEntry}{Q:Option Value->Shared->Prop}(hit:s.heap.IsKeyIter it d i es.size ep)(hm:ZeJ s.heap d es ep)(hx:es[i]?=some e)
  (hQ:∀h',h'.IsKeyIter it d (i+1) es.size ep->ZzH it s.heap h'->Q (some e.key) { s with heap:=h' }) :
  wpAny (model prog w) A (pyNext (.ref it)) Q E s:=by
 obtain⟨o,ho,hc,hd⟩:=id hit;obtain⟨od,hod,hcd,hdd⟩:=id hm;unfold pyNext;refine ZxQ (ZBB (wpAny_callSpecial?_slot (name:=ZAa "__next__") hit.typeIs F.slot_dict_keyiterator_next
  (Zzb F.slot_dict_keyiterator_next hit.typeIs F.entry_dict_keyiterator_next ?_ (F.args_dict_keyiterator_next_1 _))))
 refine ZxQ (ZxV (ZxQ (ZxQ ?_)))
 first | refine ZxQ (ZzN hit.typeIs (ZxV ?_)) | refine ZxQ (ZAb hit.typeIs (ZxV ?_))
 refine ZxQ (ZBo ho hd ?_);have hown:ZBq "dict_keyiterator" = false:=by decide
 simp only[hown,ZzF,if_false];show wpAny _ _ (if(ZyO d==ZyS)=true then _ else _) _ _ s;rw[if_neg (show ¬((ZyO d==ZyS)=true) from Zyy)];refine ZxQ (ZxV (ZxQ (ZAT hod hdd ?_)));rw[if_neg (by simp)];refine ZxQ (ZxV (ZxQ (ZB5 hod hdd ?_)));rw[if_neg (by simp)];refine ZxV ?_;obtain⟨hlt,he⟩:=Array.getElem?_eq_some_iff.mp hx;simp only[show ¬((i:Int)<0) from by omega,if_false,ZAW,Zz5 hlt];refine ZxQ ?_
 first | refine ZxQ (ZzN hit.typeIs (ZxV ?_)) | refine ZxQ (ZAb hit.typeIs (ZxV ?_))
 refine ZxQ (wpAny_isOneOf_keyiter hit.typeIs ?_);show wpAny _ _ (setField (.ref it) 1 (rawInt ((i:Int)+1)) >>= _) _ _ s;refine ZxQ (ZAP ho hd (by simp) ?_);have hit':(s.heap.update it (ZCs (·.setIfInBounds 1 (rawInt ((i:Int)+1))))).IsKeyIter it d (i+1) es.size ep :=
  ⟨_,ZyZ _ ho (ZBa (Zzs hd _)),(ZBJ ..).trans hc,by rw[Zzs hd]; simp[rawInt]⟩
 refine ZxQ (Zy0 ?_);refine ZxQ (wpAny_isOneOf_keyiter (s:={ s with heap:=s.heap.update it (ZCs (·.setIfInBounds 1 (rawInt ((i:Int)+1)))) }) hit'.typeIs ?_);show wpAny _ _ (pure es[i].key) _ _ _;refine ZxV (ZxV ⟨_,rfl,ZxV ?_⟩);rw[he];exact hQ _ hit' (ZyX ..)
theorem Zpn{Q:Option Value->Shared->Prop}(hh:A.handled=none)(hit:s.heap.IsKeyIter it d i es.size ep)(hm:ZeJ s.heap d es ep)(hx:es.size<=i)
  (hQ:∀h',Heap.ExtBut it s.heap h'->Q none { s with heap:=h' }):wpAny (model prog w) A (pyNext (.ref it)) Q E s:=by
 obtain⟨o,ho,hc,hd⟩:=id hit;obtain⟨od,hod,hcd,hdd⟩:=id hm;unfold pyNext;refine ZxQ (ZBB (wpAny_callSpecial?_slot (name:=ZAa "__next__") hit.typeIs F.slot_dict_keyiterator_next
  (Zzb F.slot_dict_keyiterator_next hit.typeIs F.entry_dict_keyiterator_next ?_ (F.args_dict_keyiterator_next_1 _))))
 refine ZxQ (ZxV (ZxQ (ZxQ ?_)))
 first | refine ZxQ (ZzN hit.typeIs (ZxV ?_)) | refine ZxQ (ZAb hit.typeIs (ZxV ?_))
 refine ZxQ (ZBo ho hd ?_);have hown:ZBq "dict_keyiterator" = false:=by decide
 simp only[hown,ZzF,if_false];show wpAny _ _ (if(ZyO d==ZyS)=true then _ else _) _ _ s;rw[if_neg (show ¬((ZyO d==ZyS)=true) from Zyy)];refine ZxQ (ZxV (ZxQ (ZAT hod hdd ?_)));rw[if_neg (by simp)];refine ZxQ (ZxV (ZxQ (ZB5 hod hdd ?_)));rw[if_neg (by simp)];refine ZxV ?_;simp only[show ¬((i:Int)<0) from by omega,if_false,ZAW,ZA0 hx];refine ZxQ ?_
 first | refine ZxQ (ZzN hit.typeIs (ZxV ?_)) | refine ZxQ (ZAb hit.typeIs (ZxV ?_))
 show wpAny _ _ (setField (.ref it) 0 .none >>= _) _ _ s;refine ZxQ (ZAP ho hd (by simp) ?_);show wpAny _ _ (newExc (.type "StopIteration") [] >>= _) _ _ _;refine ZxQ ?_;simp only[newExc,newTuple];refine ZxQ (ZyQ ?_ (by size_fits));refine ZxQ (m:=ZBp _ _) (ZCc (a:=ZyS) (by first | rfl | (simp only[ZBp]; rfl)) ?_)
 refine ZyQ ?_ (by size_fits);simp only[raiseNew];refine ZxQ (wpAny_handled ?_);rw[show A.in1.handled=none from hh];refine ZxQ (ZxV (wpAny_throw ?_));refine ZxQ (ZBW (T:="StopIteration") (b:=true) ⟨_,Zx9 _ rfl,rfl⟩ isSubtype_stop ?_);exact ZxV (hQ _ (((ZyX ..).extBut.push _).push _))
theorem ZrV(hh:A.handled=none)(I d:Addr)(hne:d≠I)(es:Array DictEntry)(ep:Nat) :
  Walks prog w A I [I,d] [I] es.size (λi v=>∃e,es[i]?=some e/\v=e.key) (λi h=>h.IsKeyIter I d i es.size ep/\ZeJ h d es ep) where
 sub:=λb hb=>by simp at hb; simp[hb]
 frame:=λ_ _ _ st hk=>⟨st.1.at λo e=>hk I (by simp) o e,st.2.at' λo e=>hk d (by simp) o e⟩
 item:=λi s Q E hi st hQ=>by have hx:es[i]?=some es[i]:=Zz5 hi;refine Znk st.1 st.2 hx λh' hit' hs'=>?_;exact hQ _ h' s.toks ⟨_,hx,rfl⟩ ⟨hit',st.2.at' λo e=>hs'.extBut d o hne e⟩ λb o hb e=>hs'.extBut b o (λh=>hb (by simp[h])) e
 done:=λs Q E st hQ=>Zpn hh st.1 st.2 (Zx2 _) λh' he'=>hQ h' s.toks λb o hb e=>he' b o (λh=>hb (by simp[h])) e
 self:=λ_ _ _ _ st hQ=>wpAny_pyIter_keyiter st.1 hQ
end
end HP
namespace HP
open PySem PySem.Spec PySem.W PySem.Calls PyProof.Rows L2
variable[FX]
section
variable{prog:Program}{w:World}{A:Around}{E:Value->Shared->Prop}{s:Shared}
theorem Zso{r:Addr}{Q:Bool->Shared->Prop}(hT:s.TypeIs (.ref r) "set")(h:Q false s):wpAny (model prog w) A (ZBw (.ref r)) Q E s:=by
 unfold ZBw;refine ZxQ (wpAny_specialOf hT PySem.F.slot_set_len.lookup ?_);generalize hid:("set.__len__":String)=id0
 wp_delta
 rw[show splitId id0=some ("set","__len__") from by subst hid; decide +kernel];subst hid;refine ZxQ (ZBW (T:="set") (b:=true) hT (by rw[isSubtype_type]; kernel_rfl) ?_);refine ZzX (λq=>absurd q (by decide)) λ_=>?_;refine ZzX (λ_=>?_) (λq=>absurd (by decide +kernel) q);exact ZxQ (wpAny_typeOf hT (ZxV h))
theorem ZuJ{d:Addr}{es:Array DictEntry}{ep:Nat}(lo:(d==Zzl)=false):KdlSrc prog w "dict" d d es.size (λi v=>∃e,es[i]?=some e/\v=e.key) (λh=>ZeJ h d es ep) where
 type:=λ_ hm=>hm.typeIs
 there:=λ_ hm=>⟨hm.lt,hm.lt⟩
 keep:=λ_ _ hm hk=>hm.at' λo e=>hk d (.inl rfl) o e
 notList:=by decide
 notTuple:=by decide
 hint:=λ_ _ _ _ hm hq=>kdl_hint_dict hm.typeIs hq
 iter:=λ_ _ hh hm=>⟨_,_,(λ_ _ hq=>Zn4 lo hm hq),ZrV hh _ d (Zyf hm.lt) es ep,⟨⟨_,Zx9 _ rfl,rfl,rfl⟩,hm.at' λo e=>ZxX _ e⟩⟩
theorem Zev.typeIs{a:Addr}{es:Array (Int × Value)}{ep:Nat}{t:SetTable}(x:Zev w s.heap a es ep t):s.TypeIs (.ref a) "set":=let ⟨o,ho,hc,_⟩:=x.obj; ⟨o,ho,hc.1⟩
theorem Zev.lt{h:Heap}{a:Addr}{es:Array (Int × Value)}{ep:Nat}{t:SetTable}(x:Zev w h a es ep t):a<h.objs.size:=let ⟨o,ho,_⟩:=x.obj; Zx7 ho
theorem Zug{a:Addr}{es:Array (Int × Value)}{ep:Nat}{t:SetTable}:KdlSrc prog w "set" a a es.size (λi v=>∃e,(ZdN w a es ep)[i]?=some e/\v=e.2) (λh=>Zev w h a es ep t) where
 type:=λ_ hm=>hm.typeIs
 there:=λ_ hm=>⟨hm.lt,hm.lt⟩
 keep:=λ_ _ hm hk=>hm.at' λo e=>hk a (.inl rfl) o e
 notList:=by decide
 notTuple:=by decide
 hint:=λ_ _ _ _ hm hq=>Zso hm.typeIs hq
 iter:=λ_ _ hh hm=>⟨_,_,(λ_ _ hq=>Zsp hm hq),Zr3 hh _ a (Zyf hm.lt) es ep t,⟨0,⟨_,Zx9 _ rfl,rfl,rfl⟩,hm.at' λo e=>ZxX _ e,λ_=>ZqL hm.tab.rise⟩⟩
theorem ZgH{T:String}{r d:Addr}{n:Nat}{P:Nat->Value->Prop}{OK:Heap->Prop}{R:List Value->Shared->Prop}(K:KdlSrc prog w T r d n P OK)(hh:A.handled=none)(hok:OK s.heap)(hn:n<=sizeLine)
  (h:∀(h':Heap) (tk:Nat) (acc:Array Value),(∀b o,s.heap.get? b=some o->h'.get? b=some o)->s.heap.objs.size<h'.objs.size->ItemsOf P acc n->R acc.toList { s with heap:=h',toks:=tk }) :
  wpAny (model prog w) A (collect (.ref r)) R E s:=by
 have hlt:=K.there _ hok;unfold collect;refine ZxQ (wpAny_runValue (Zy9 entry_proto_collect' ?_));rw[ZyV ZBx _];show wpAny _ A.in1 (newList [] >>= λl=>again (.builtin "list.__iadd__" ⟨[l,.ref r],[]⟩)) _ _ s;refine ZxQ (ZyQ (ZxV ⟨Zz0 ZAi _,Zy9 entry_list_iadd' ?_⟩));rw[ZyV ZAi _];have hS₁:(s.heap.push { cls:=.type "list",data:=.seq ([]:List Value).toArray }).get? s.heap.objs.size=some { cls:=.type "list",data:=.seq #[] }:=Zx9 _ rfl;show wpAny _ A.in1 (ZBy (.ref s.heap.objs.size) (.ref r) (.ref s.heap.objs.size)) _ _ _;refine Zy3 (kdl_extend (A:=A) (s:={ s with heap:=s.heap.push { cls:=.type "list",data:=.seq ([]:List Value).toArray } })
  (R:=λ(q:Result) (s':Shared)=>∃(h':Heap) (tk:Nat) (acc':Array Value) (c':Nat),q=.ok (.ret (.ref s.heap.objs.size))/\s'={ s with heap:=h',toks:=tk } /\
   (∀b o,s.heap.get? b=some o->h'.get? b=some o)/\h'.get? s.heap.objs.size=some { cls:=.type "list",dict:=none,data:=.seq acc' c',slots:=#[] }/\ItemsOf P acc' n)
  K hh (K.keep _ _ hok λb _ o e=>ZxX _ e) s.heap.objs.size (ZAH hlt.1) (ZAH hlt.2) (.ref s.heap.objs.size) 0 hS₁
  (λh' tk acc' c' hk hS' hacc=>⟨h',tk,acc',c',rfl,rfl,λb o e=>hk b o (Zyf (Zx7 e)) (ZxX _ e),hS',hacc⟩) hn) (λfin s' x=>?_) λe s' x=>?_
 ·have go:∀(h':Heap) (tk:Nat) (acc':Array Value) (c':Nat),(∀b o,s.heap.get? b=some o->h'.get? b=some o)->h'.get? s.heap.objs.size=some { cls:=.type "list",dict:=none,data:=.seq acc' c',slots:=#[] }->ItemsOf P acc' n ->
    wpAny (model prog w) A (load s.heap.objs.size >>= λo=>match o.data with | .seq xs _=>pure xs.toList | _=>unsupported "internal:collect") R E { s with heap:=h',toks:=tk }:=λh' tk acc' c' hk hS' hacc =>
   ZxQ (wpAny_load hS' (ZxV (h h' tk acc' hk (Zx7 hS') hacc)))
  cases fin with
  | done f=>obtain⟨h',tk,acc',c',e,rfl,hk,hS',hacc⟩:=x;cases e;exact go h' tk acc' c' hk hS' hacc
  | again c₁=>refine⟨x.1,ZzS x.2 λq s₂ y=>?_⟩;obtain⟨h',tk,acc',c',rfl,rfl,hk,hS',hacc⟩:=y;exact go h' tk acc' c' hk hS' hacc
 ·obtain⟨_,_,_,_,e',_⟩:=x
  cases e'
end
inductive ZiB(K:ZxR)(F H:Hp)(p:Addr):List PyData->Prop where
 | lst {ds:List PyData} {vs:List V} (h:SqL K H p vs) (r:Zu K F ds vs):ZiB K F H p ds
 | tup {ds:List PyData} {vs:List V} (h:SqT K H p vs) (r:Zu K F ds vs):ZiB K F H p ds
 | dk {kvs:List (Key × V)} (h:H p=some (.dK kvs)):ZiB K F H p (kvs.map λq=>HM.ZaL q.1)
 | dt {kvs:List (List Key × V)} (h:H p=some (.dT kvs)):ZiB K F H p (kvs.map λq=>.tuple (q.1.map HM.ZaL))
theorem ZuN{K:ZxR}{F:Hp}(k:Key):Rep K F (HM.ZaL k) (kV k):=by
 cases k with
 | inl i=>exact .int i
 | inr x=>exact .str x
theorem Zgm{K:ZxR}{F:Hp}:∀(ks:List Key),Zu K F (ks.map HM.ZaL) (ks.map kV)
 | []=>.nil
 | k::ks=>.cons (ZuN k) (Zgm ks)
theorem Zuf{P:Program}{w:World}{k:Key}{u:Value}(h:(ZaN P w).is k u=true):RelV (kV k) u:=by
 rw[ZqM]at h;rcases Zbh h with⟨i,t,rfl,rfl⟩ | ⟨x,t,rfl,rfl⟩
 ·exact⟨t,rfl⟩
 ·exact⟨t,rfl⟩
section
variable{X:Cx}{pins:List (Addr × Obj)}{σ:L2.St}{H F:Hp}{s:Shared}{p:Addr}{ds:List PyData}
theorem Zg4:∀{vs:List V} {us:List Value},vs.length=us.length->(∀(i:Nat) v u,vs[i]?=some v->us[i]?=some u->RelV v u)->Vals vs us
 | [],[],_,_=>.nil
 | [],_::_,h,_=>by simp at h
 | _::_,[],h,_=>by simp at h
 | v::vs,u::us,h,k=>.cons (k 0 v u rfl rfl) (Zg4 (by simpa using h) λi a b e1 e2=>k (i+1) a b (by simpa using e1) (by simpa using e2))
theorem ZiB.gath(I:Inv X pins σ H s)(sub:Zp F H)(h:ZiB X.K F H p ds):∃vs,Zu X.K (ZcD F H) ds vs/\∀(A:Around) (E:Value->Shared->Prop) (R:List Value->Shared->Prop),A.handled=none ->
  (∀us h' tk,Vals vs us->(∀b o,s.heap.get? b=some o->h'.get? b=some o)->R us { s with heap:=h',toks:=tk })->wpAny (model X.prog X.w) A (collect (.ref p)) R E s:=by
 cases h with
 | @lst _ vs h r=>obtain⟨its,rv,pl,hz⟩:=I.list h;obtain⟨o,ho,hcl,n,hd⟩:=pl.isList;refine⟨vs,r.mono (Zc1 sub),λA E R _ k=>wpAny_collect_seq p (.inl rfl) ho hcl hd (λh' kp=>?_) (by rw[Zya,<-rv.length]; exact hz)⟩;exact k its h' s.toks rv kp
 | @tup _ vs h r=>obtain⟨its,rv,pl,hz⟩:=I.tuple h;obtain⟨o,ho,hcl,n,hd⟩:=pl;refine⟨vs,r.mono (Zc1 sub),λA E R _ k=>wpAny_collect_seq p (.inr rfl) ho hcl hd (λh' kp=>?_) (by rw[Zya,<-rv.length]; exact hz)⟩;exact k its h' s.toks rv kp
 | @dk kvs h =>
  obtain⟨z,lo,vs,rel,dd⟩:=Zqu I.hok h;obtain⟨ep,hat⟩:=dd.dictAt;have hl:kvs.length=vs.length:=ZAj rel;refine⟨kvs.map λq=>kV q.1,?_,λA E R hh k=>ZgH (kdl_dict (knd:=ZaN X.prog X.w) (kvs:=vs) (ep:=ep) lo) hh hat (by omega) λh' tk acc kp hsz hacc=>k _ h' tk ?_ kp⟩
  ·have:=Zgm (K:=X.K) (F:=ZcD F H) (kvs.map (·.1))
   rw[Zyg,Zyg]at this;exact this
  ·refine Zg4 (by have q:acc.toList.length=acc.size:=Zyj; rw[ZxS,q,hacc.1,hl]) λi v u e1 e2=>?_
   obtain⟨kk,x,q1,q2⟩:=hacc.2 i u (by rw[<-ZyJ]; exact e2);rw[Zyk]at e1;obtain⟨q,e3,e4⟩:=ZxT.mp e1;subst e4;have key:∀{l:List (Key × V)} {m:List (Key × Value)},KV l m->∀(i:Nat) a b,l[i]?=some a->m[i]?=some b->a.1=b.1:=by
    intro l m r
    induction r with
    | nil=>intro i a b e; simp at e
    | cons hq _ ih =>
     intro i a b e1 e2;cases i with
     | zero=>simp at e1 e2; subst e1; subst e2; exact hq.1
     | succ i=>exact ih i a b (by simpa using e1) (by simpa using e2)
   have ek:=key rel i q (kk,x) e3 q1;rw[ek];exact Zuf q2
 | @dt kvs h =>
  obtain⟨z,lo,xs,rel,o,es,ep,h1,h2,h3,h4,h5⟩:=(show Zab X.prog X.w H s.heap p (.dT kvs) from I.hok p _ h);have hl:kvs.length=xs.length:=ZAj rel;have hes:es.size=xs.length:=by rw[<-Zyj,h4,ZxS]
  have hm:ZeJ s.heap p es ep:=⟨o,h1,h2,h3⟩;refine⟨xs.map λq=>V.ref q.2.1,?_,λA E R hh k=>ZgH (ZuJ (es:=es) (ep:=ep) lo) hh hm (by omega) λh' tk acc kp hsz hacc=>k _ h' tk ?_ kp⟩
  ·clear h4 hes hl z h h5
   induction rel with
   | nil=>exact .nil
   | @cons p0 _ _ _ hq _ ih=>obtain⟨q1,q2,_⟩:=hq;rw[ZxY,ZxY];refine .cons ?_ ih;have rk:=Zgm (K:=X.K) (F:=ZcD F H) p0.1;exact .tup (Zni q2) rk.1 rk.2
  ·refine Zg4 (by have q:acc.toList.length=acc.size:=Zyj; rw[ZxS,q,hacc.1,hes]) λi v u e1 e2=>?_
   obtain⟨e,q1,q2⟩:=hacc.2 i u (by rw[<-ZyJ]; exact e2);subst q2;rw[Zyk]at e1;obtain⟨q,e3,e4⟩:=ZxT.mp e1;subst e4;rw[<-ZyJ,h4,Zyk,e3]at q1;cases q1;rfl
theorem ZcF{K:ZxR}{F:Hp}:∀{ds:List PyData} {vs:List V} {ns:List Int},HM.ZaO ds=some ns->Zu K F ds vs->vs=ns.map V.int
 | [],vs,ns,h,r=>by cases h;exact r.nil_inv
 | d::ds,vs,ns,h,r=>by
  obtain⟨v,us,rfl,r1,r2⟩:=r.cons_inv;cases d with
  | int b=>obtain⟨bs',h1,h2⟩:=ZxT.mp h;subst h2;rw[r1.int_inv,ZcF h1 r2];rfl
  | none=>cases h
  | bool _=>cases h
  | str _=>cases h
  | list _=>cases h
  | tuple _=>cases h
  | dict _=>cases h
theorem Zpo:∀(t:List Int),HM.ZaO (HM.ofInts t)=some t
 | []=>rfl
 | x::t=>by show(HM.ZaO (HM.ofInts t)).map (x::·)=_;rw[Zpo t];rfl
theorem Znj:∀{ds:List PyData} {ns:List Int},HM.ZaO ds=some ns->ds=HM.ofInts ns
 | [],ns,h=>by cases h; rfl
 | d::ds,ns,h=>by
  cases d with
  | int b=>obtain⟨bs',h1,h2⟩:=ZxT.mp h;subst h2;rw[Znj h1];rfl
  | none=>cases h
  | bool _=>cases h
  | str _=>cases h
  | list _=>cases h
  | tuple _=>cases h
  | dict _=>cases h
theorem Ze1{K:ZxR}{F:Hp}:∀(ns:List Int),Zu K F (HM.ofInts ns) (ns.map V.int)
 | []=>.nil
 | n::ns=>.cons (.int n) (Ze1 ns)
theorem ZdZ:∀{ns:List Int} {us:List Value},Vals (ns.map V.int) us->IntsAre us ns
 | [],_,r=>by rw[ZzI]at r; cases r; exact .nil
 | n::ns,_,r=>by
  rw[ZxY]at r;cases r with
  | cons h t=>obtain⟨u,rfl⟩:=h; exact .cons n u (ZdZ t)
theorem Zhw:∀{us:List Value} {ns:List Int},IntsAre us ns->Vals (ns.map V.int) us
 | _,_,.nil=>.nil
 | _,_,.cons n t h=>.cons ⟨t,rfl⟩ (Zhw h)
theorem ZnI:∀{ds:List PyData} {ts:List (List Int)},HM.Zi5 ds=some ts->ds=HM.Ze4 ts
 | [],ts,h=>by cases h; rfl
 | d::ds,ts,h=>by
  cases d with
  | tuple es =>
   unfold HM.Zi5 at h;split at h
   ·rename_i ns hn
    obtain⟨r',h1,h2⟩:=ZxT.mp h;subst h2;rw[Znj hn,ZnI h1];rfl
   ·cases h
  | none=>cases h
  | bool _=>cases h
  | int _=>cases h
  | str _=>cases h
  | list _=>cases h
  | dict _=>cases h
theorem Zn8{ns ms:List Int}(h:ms.Perm ns)(hs:ms.Pairwise (·<=·)):ms=HM.sortI ns:=by refine ZhJ (R:=(·<=·)) (λa b h1 h2=>by omega) (h.trans (ZAB ns _).symm) hs ?_;have:=ZAS (le:=λa b:Int=>decide (a<=b)) (λa b c h1 h2=>by simp at *; omega) (λa b=>by simp; omega) ns;exact this.imp λh=>by simpa using h
theorem Zs6{ts us:List (List Int)}(h:us.Perm ts)(hs:us.Pairwise (λx y=>HM.lexLt y x=false)):us=HM.Zex ts:=by
 refine ZhJ (R:=λx y=>HM.lexLt y x=false) (λa b h1 h2=>Ziv a b h2 h1) (h.trans (ZAB ts _).symm) hs ?_;have:=ZAS (le:=λa b:List Int=>!HM.lexLt b a) (λa b c h1 h2=>by
  simp only[Bool.not_eq_true']at *;cases q:HM.lexLt c a with
  | false=>rfl
  | true =>
   rcases ZkW c b a q with z | z
   ·rw[h2]at z; cases z
   ·rw[h1]at z; cases z) (λa b=>by
  cases q:HM.lexLt b a with
  | false=>simp
  | true =>
   cases q2:HM.lexLt a b with
   | false=>simp
   | true=>have:=lex_trans _ _ _ q q2; rw[lex_irrefl]at this; cases this) ts
 exact this.imp λh=>by simpa using h
theorem Zjx{h:Heap}{a:Addr}{vs:List Value}{out:Array Value}{b:Addr}{o:Obj}(hb:b≠a)(e:h.get? b=some o):(sortedHeap h a vs out).get? b=some o:=by rw[sortedHeap_old hb (Zx7 e)]; exact e
theorem Zne(hc:X.calm=true):Za7 X (.builtin "sorted") (λxs H Q=>∃p F ds ds',xs=[.ref p]/\Zp F H/\ZiB X.K F H p ds/\HM.ZdC ds=some ds'/\∀l ws,H l=none->Zu X.K (ZcD F H) ds' ws->Q (.ref l) (upd H l (.lst ws))):=by
 intro pins s σ H xs us Q I r h;obtain⟨p,F,ds,ds',rfl,sub,hsrc,hsort,q⟩:=h;obtain⟨u,rfl,rx⟩:=vals1 r;cases rx;obtain⟨vs,rv,go⟩:=hsrc.gath I sub;unfold HM.ZdC at hsort;split at hsort
 ·rename_i h64
  have hvl:=rv.1;refine ZBP kind_sorted plain_sorted entry_sorted (args_sorted1 _) ?_;unfold Builtin.«sorted»;refine ZxQ (m:=checkCount "sorted" 1 1 _) (ZxV ?_);refine ZxQ (go _ _ _ (I.ok.hd hc) λus h' tk ru kp=>?_);have hul:=ru.length;refine ZxQ (wpAny_newList ?_ (by rw[Zzc]; omega));have hoL:(h'.push (seqObj "list" us.toArray 0)).get? h'.objs.size=some (seqObj "list" us.toArray 0):=Zx9 _ rfl;have fin:∀(out:Array Value) (ws:List V),Vals ws out.toList->Zu X.K (ZcD F H) ds' ws->ws.length<64->EP X pins σ Q (.ref h'.objs.size) { s with heap:=sortedHeap (h'.push (seqObj "list" us.toArray 0)) h'.objs.size us out,toks:=tk }:=λout ws rw' rd hw=>by obtain⟨e,he⟩:=sortedHeap_at (out:=out) hoL;have I1:Inv X pins σ H { s with heap:=h',toks:=tk }:=I.kept kp;refine⟨.ref h'.objs.size,_,I1.laid (a:=h'.objs.size) (o:=.lst ws) (t':=tk) (λb o e1=>?_) (Zx2 _) ⟨by rw[Zzc]; omega,out.toList,e,rw',by simpa using he⟩,rfl,q _ ws (I1.hok.fresh (Zx2 _)) rd⟩;exact Zjx (Zyf (Zx7 e1)) (ZxX _ e1)
  show wpAny _ _ _ _ _ { s with heap:=h'.push (seqObj "list" us.toArray 0),toks:=tk };split at hsort
  ·rename_i ns hns
   cases hsort;have evs:=ZcF hns rv;rw[evs]at ru;have hI:=ZdZ ru;refine ZxQ (Zy0 (Zzb slot_list_sort ⟨_,hoL,rfl⟩ ZB6 (list_sort_tree hoL hI (by omega) λout ns' a1 a2 a3=>⟨_,rfl,?_⟩) (args_list_sort _)));refine ZxV ⟨_,rfl,?_⟩;have e:=Zn8 a2 a3;have hl:ns'.length<64:=by rw[a2.length_eq,<-hI.length,<-hul]; omega
   refine fin out (ns'.map V.int) (Zhw a1) ?_ (by rw[ZxS]; exact hl);rw[<-e];exact Ze1 ns'
  ·split at hsort
   ·rename_i ts hts
    split at hsort
    ·rename_i hne
     cases hsort;have eds:=ZnI hts;have hT:∀(i:Nat) t,ts[i]?=some t->∃b,us[i]?=some (.ref b)/\TI (h'.push (seqObj "list" us.toArray 0)) b t:=λi t e=>by
      have ed:ds[i]?=some (.tuple (HM.ofInts t)):=by rw[eds]; unfold HM.Ze4; rw[Zyk,e]; rfl
      obtain⟨v,hv,rp⟩:=rv.get ed;generalize hq:HM.ofInts t=q at rp;cases rp with
      | @tupk b x h1 =>
       exfalso;cases t with
       | nil=>cases hq
       | cons a t =>
        injection hq with e1 _
        cases e1
      | @tup b _ xs hb hl hr=>subst hq;obtain⟨u,hu,ru'⟩:=ru.get hv;cases ru';have ev:=ZcF (F:=ZcD F H) (Zpo t) ⟨hl,hr⟩;subst ev;have hH:H b=some (.tup (t.map V.int)):=(Ext.refl sub).tups.sub _ _ hb;obtain⟨z,its,rt,o,h1,h2,n,h3⟩:=(show Zab X.prog X.w H s.heap b (.tup (t.map V.int)) from I.hok b _ hH);exact⟨b,hu,o,its.toArray,n,ZxX _ (kp b o h1),h2,h3,by simpa using ZdZ rt⟩
     have hlt:ts.length=us.length:=by have:=congrArg ZyB eds;unfold HM.Ze4 at this;rw[ZxS]at this;omega
     refine ZxQ (Zy0 (Zzb slot_list_sort ⟨_,hoL,rfl⟩ ZB6 (ZsD hoL hlt hT ?_ (by omega) λpm hp hs=>⟨_,rfl,?_⟩) (args_list_sort _)))
     ·rw[Zzm]at hne
      rcases hne with z | z
      ·left
       have:=of_decide_eq_true z;omega
      ·right
       intro t ht e;have:=Zx0.mp z t ht;rw[e]at this;cases this
     ·refine ZxV ⟨_,rfl,?_⟩
      have hpl:pm.length=us.length:=by rw[hp.length_eq,Zz2]
      have hmem:∀i∈pm,i<us.length:=λi hi=>Zyh.mp (hp.mem_iff.mp hi);have e:(pm.map λi=>ts.getD i [])=HM.Zex ts:=by
       refine Zs6 ?_ hs;refine(hp.map _).trans ?_;have:(ZxZ us.length).map (λi=>ts.getD i [])=ts:=by refine List.ext_getElem (by simp[hlt]) λi h1 h2=>?_;simp at h1;simp[Zzj,show i<ts.length by omega]
       rw[this]
      refine fin _ (pm.map λi=>vs.getD i V.non) ?_ ?_ (by rw[ZxS]; omega)
      ·refine Zg4 (by simp) λk v u e1 e2=>?_
       rw[Zyk]at e1;rw[List.toList_toArray,Zyk]at e2;obtain⟨i,hi,rfl⟩:=ZxT.mp e1;rw[hi]at e2;cases e2;have hlt':=hmem i (Zym hi);have hv:vs[i]?=some (vs.getD i V.non):=by simp[Zzj,show i<vs.length by omega]
       obtain⟨u,hu,ru'⟩:=ru.get hv;have:us.getD i ZyS=u:=by simp[Zzj,hu]
       show RelV _ (us.getD i ZyS);rw[this];exact ru'
      ·rw[<-e]
       refine⟨by unfold HM.Ze4; simp,λk d v e1 e2=>?_⟩;unfold HM.Ze4 at e1;rw[Zyk,Zyk]at e1;rw[Zyk]at e2;obtain⟨i,hi,rfl⟩:=ZxT.mp e2;rw[hi]at e1;have hlt':=hmem i (Zym hi);have hd:ds[i]?=some d:=by
        rw[eds]; unfold HM.Ze4;rw[Zyk];have:ts[i]?=some (ts.getD i []):=by simp[Zzj,show i<ts.length by omega]
        rw[this];exact e1
       have hv:vs[i]?=some (vs.getD i V.non):=by simp[Zzj,show i<vs.length by omega]
       exact rv.2 i d _ hd hv
    ·cases hsort
   ·cases hsort
 ·cases hsort
end
end HP
namespace HP
open PySem PySem.Spec PySem.W PySem.Calls PyProof.Rows L2
variable[FX]
section
variable{prog:Program}{w:World}{A:Around}{E:Value->Shared->Prop}{s:Shared}
theorem Zmk{r:Addr}{a b c:Int}{t u v:Tok}{n:Nat}{R:List Value->Shared->Prop}(hh:A.handled=none)(hr:IsRange s.heap r a b c t u v)(hsmall:ZCv a b c=true)(hn:ZAe a b c=n)(hlen:n<=2 ^ 24)
  (h:∀(h':Heap) (tk:Nat) (acc:Array Value),(∀b o,s.heap.get? b=some o->h'.get? b=some o)->ItemsOf (λi v=>∃t,v=.int (a+i*c) t) acc n->R acc.toList { s with heap:=h',toks:=tk }) :
  wpAny (model prog w) A (collect (.ref r)) R E s:=by
 unfold collect;refine ZxQ (wpAny_runValue (Zy9 entry_proto_collect' ?_));rw[ZyV ZBx _];show wpAny _ A.in1 (newList [] >>= λl=>again (.builtin "list.__iadd__" ⟨[l,.ref r],[]⟩)) _ _ s;refine ZxQ (ZyQ (ZxV ⟨Zz0 ZAi _,Zy9 entry_list_iadd' ?_⟩));rw[ZyV ZAi _];have hS₁:(s.heap.push { cls:=.type "list",data:=.seq ([]:List Value).toArray }).get? s.heap.objs.size=some { cls:=.type "list",data:=.seq #[] }:=Zx9 _ rfl;show wpAny _ A.in1 (ZBy (.ref s.heap.objs.size) (.ref r) (.ref s.heap.objs.size)) _ _ _;have hr1:IsRange (s.heap.push { cls:=.type "list",data:=.seq ([]:List Value).toArray }) r a b c t u v:=ZxX _ hr;refine Zy3 (wpAny_extend_range (A:=A) (s:={ s with heap:=s.heap.push { cls:=.type "list",data:=.seq ([]:List Value).toArray } })
  (R:=λ(q:Result) (s':Shared)=>∃(h':Heap) (tk:Nat) (acc':Array Value) (c':Nat),q=.ok (.ret (.ref s.heap.objs.size))/\s'={ s with heap:=h',toks:=tk } /\
   (∀b o,s.heap.get? b=some o->h'.get? b=some o)/\h'.get? s.heap.objs.size=some { cls:=.type "list",dict:=none,data:=.seq acc' c',slots:=#[] }/\ItemsOf (λi v=>∃t,v=.int (a+i*c) t) acc' n)
  hh hr1 hsmall hn hlen s.heap.objs.size (.ref s.heap.objs.size) 0 hS₁
  (λh' tk acc' c' hk hS' hacc=>⟨h',tk,acc',c',rfl,rfl,λb o e=>hk b o (Zyf (Zx7 e)) (ZxX _ e),hS',hacc⟩)) (λfin s' x=>?_) λe s' x=>?_
 ·have go:∀(h':Heap) (tk:Nat) (acc':Array Value) (c':Nat),(∀b o,s.heap.get? b=some o->h'.get? b=some o)->h'.get? s.heap.objs.size=some { cls:=.type "list",dict:=none,data:=.seq acc' c',slots:=#[] }->ItemsOf (λi v=>∃t,v=.int (a+i*c) t) acc' n ->
    wpAny (model prog w) A (load s.heap.objs.size >>= λo=>match o.data with | .seq xs _=>pure xs.toList | _=>unsupported "internal:collect") R E { s with heap:=h',toks:=tk }:=λh' tk acc' c' hk hS' hacc =>
   ZxQ (wpAny_load hS' (ZxV (h h' tk acc' hk hacc)))
  cases fin with
  | done f=>obtain⟨h',tk,acc',c',e,rfl,hk,hS',hacc⟩:=x;cases e;exact go h' tk acc' c' hk hS' hacc
  | again c₁=>refine⟨x.1,ZzS x.2 λq s₂ y=>?_⟩;obtain⟨h',tk,acc',c',rfl,rfl,hk,hS',hacc⟩:=y;exact go h' tk acc' c' hk hS' hacc
 ·obtain⟨_,_,_,_,e',_⟩:=x
  cases e'
end
theorem Zjh(r:Addr)(a b c:Int)(t u v:Tok)(n:Nat)(hsmall:ZCv a b c=true)(hn:ZAe a b c=n)(hlen:n<=2 ^ 24) :
  Meets (Builtin.«tuple.__new__» ⟨[.type "tuple",.ref r],[]⟩)
   (λA R s=>A.handled=none/\IsRange s.heap r a b c t u v/\∀(h':Heap) (tk:Nat) (acc:Array Value),(∀b o',s.heap.get? b=some o'->h'.get? b=some o')->ItemsOf (λi v=>∃t,v=.int (a+i*c) t) acc n ->
    R (.ok (.ret (.ref h'.objs.size))) { s with heap:=h'.push { cls:=.type "tuple",data:=.seq acc },toks:=tk }) :=
 .of_wp λprog w A R s h=>by
  obtain⟨hp,g,d,tk,os⟩:=s; obtain⟨hh,ht,h⟩:=h;have hsub:=PySem.sub_tuple_self;have hinit:=PySem.init_tuple_lookup;have hmh:=PySem.madeHere_tuple;have hT:Shared.TypeIs ⟨hp,g,d,tk,os⟩ (.ref r) "range":=⟨_,ht,rfl⟩;have hh1:A.in1.handled=none:=hh
  wp_walk using wpAny_typeOf hT,Zmk hh1 ht hsmall hn hlen
  intro h' tk' acc hk hacc;show wpAny _ _ (ZBX acc.toList.toArray >>= λv=>ret v) _ _ _;unfold ZBX;have e:acc.toList.toArray=acc:=by simp
  rw[e];refine ZxQ (ZyQ ?_ (by show acc.size<=sizeLine; rw[hacc.1,Zzc]; omega));exact ZxV ⟨_,rfl,h h' tk' acc hk hacc⟩
section
variable{X:Cx}{a b c e:Expr}{fa fb fc:HM.EF}{pos p:Pos}{f:HM.BF}
theorem Znm:Za7 X (.type "range") (λxs H Q=>∃j,xs=[.int j]/\∀l,H l=none->Q (.ref l) (upd H l (.rng 0 j))):=by intro pins s σ H xs us Q I r h;obtain⟨j,rfl,q⟩:=h;obtain⟨u,rfl,rx⟩:=vals1 r;obtain⟨t,rfl⟩:=rx;refine call_range_1 ⟨.ref s.heap.objs.size,_,I.laid (a:=s.heap.objs.size) (o:=.rng 0 j) (λb o e=>ZxX _ e) (Zx2 _) ?_,rfl,q _ (I.hok.fresh (Zx2 _))⟩;exact⟨_,_,_,Zx9 _ rfl⟩
theorem ZoW(hc:X.calm=true):Za7 X (.type "tuple") (λxs H Q=>∃p lo hi,xs=[.ref p]/\H p=some (.rng lo hi)/\-1000000<lo/\lo<1000000/\-1000000<hi/\hi<1000000 /\
  ∀l,H l=none->Q (.ref l) (upd H l (.tup ((ZxZ (hi-lo).toNat).map λ(k:Nat)=>V.int (lo+k))))):=by
 intro pins s σ H xs us Q I r h;obtain⟨p,lo,hi,rfl,hp,h1,h2,h3,h4,q⟩:=h;obtain⟨u,rfl,rx⟩:=vals1 r;cases rx;obtain⟨t,u,v,ho⟩:=(show Zab X.prog X.w H s.heap p (.rng lo hi) from I.hok p _ hp);have hn:ZAe lo hi 1=((hi-lo).toNat:Nat):=by rw[rangeSize_one]; split<;>omega
 refine callType_new PySem.F.called_tuple (by decide) (PySem.F.typeCall_tuple_1 _) (PySem.F.newCall_tuple_1 _) (λobj=>PySem.F.args_object_init_2 obj _) PySem.F.entry_tuple_new
  (Zjh p lo hi 1 t u v (hi-lo).toNat (small_one (by omega) (by omega) (by omega) (by omega)) hn (by omega)) ⟨I.ok.hd hc,ho,λh' tk' acc kp hacc=>⟨⟨_,Zx9 _ rfl,rfl⟩,?_⟩⟩
 have I1:Inv X pins σ H { s with heap:=h',toks:=tk' }:=I.kept kp;have rv:Vals ((ZxZ (hi-lo).toNat).map λ(k:Nat)=>V.int (lo+k)) acc.toList:=by
  refine Zg4 (by have z:acc.toList.length=acc.size:=Zyj; rw[ZxS,Zz2,z,hacc.1]) λi v u e1 e2=>?_;rw[Zyk]at e1;obtain⟨k,hk,rfl⟩:=ZxT.mp e1;obtain⟨t,rfl⟩:=hacc.2 i u (by rw[<-ZyJ]; exact e2);have:k=i:=by have:=Zx4.mp hk;obtain⟨_,e⟩:=this;simpa using e.symm
  subst this;exact⟨t,by simp⟩
 have I2:=I1.laid (a:=h'.objs.size) (o:=.tup ((ZxZ (hi-lo).toNat).map λ(k:Nat)=>V.int (lo+k))) (h':=h'.push { cls:=.type "tuple",data:=.seq acc }) (t':=tk') (λb o e=>ZxX _ e) (Zx2 _)
  ⟨by rw[ZxS,Zz2,Zzc]; omega,acc.toList,rv,by simpa using IsTup.new _ _⟩
 exact⟨.ref h'.objs.size,_,I2,rfl,q _ (I1.hok.fresh (Zx2 _))⟩
theorem Zo2{K:ZxR}{F:Hp}(lo:Int)(n:Nat):Zu K F (HM.ZcR lo n) ((ZxZ n).map λ(k:Nat)=>V.int (lo+k)):=by unfold HM.ZcR;refine⟨by simp,λi d v e1 e2=>?_⟩;rw[Zyk]at e1 e2;obtain⟨k,hk,rfl⟩:=ZxT.mp e1;rw[hk]at e2;cases e2;exact .int _
theorem Zov(hmt:X.mg "tuple" = none)(hm:X.mg "range" = none)(hc:X.calm=true)(ha:XE X a fa){p' pos':Pos}(hgt:Gl X "tuple":=by rfl)(hg:Gl X "range":=by rfl)(hs:Zx6 [a] X.env=[(false,eval a X.env)]:=by rfl)
  (hs2:Zx6 [ZCA (.Name "range" p') [a] [] pos'] X.env=[(false,eval (ZCA (.Name "range" p') [a] [] pos') X.env)]:=by rfl) :
  XE X (.Call (.Name "tuple" p) [.Call (.Name "range" p') [a] [] pos'] [] pos) (HM.ZjT (HM.Zb6 fa)):=by
 intro r d hd;unfold HM.ZjT at hd;split at hd
 ·rename_i ds hds
  split at hd
  ·cases hd
   unfold HM.Zb6 at hds;split at hds
   ·rename_i j hj
    split at hds
    ·rename_i hok
     cases hds;obtain⟨k1,k2⟩:=ZpF hok;refine PE.imp (Zdf (ZoW hc) hgt hmt ZjR (ZaI (Zdf Znm hg hm boot_range (ZaI (ha r _ hj) Zb3 hs) (he:=hs)) Zb3 hs2) (he:=hs2)) λσ H Q ⟨F0,H0,F,at_,k⟩=>?_;refine⟨F0,H0,F,at_,λv F1 H1 x1 r1=>⟨j,by rw[r1.int_inv],λl hl=>?_⟩⟩;refine⟨l,0,j,rfl,ZF,by omega,by omega,by omega,by omega,λl2 hl2=>?_⟩;have x2:=x1.lay' (o:=.rng 0 j) hl;have x3:=x2.lay (o:=.tup ((ZxZ (j-0).toNat).map λ(k:Nat)=>V.int (0+k))) hl2;have rp:=Zo2 (K:=X.K) (F:=upd F1 l2 (.tup ((ZxZ (j-0).toNat).map λ(k:Nat)=>V.int (0+k)))) 0 j.toNat;have ej:(j-0).toNat=j.toNat:=by omega
     refine k _ _ _ x3 (.tup ZF ?_ ?_)
     ·rw[ej]; exact rp.1
     ·rw[ej]at rp ⊢; exact rp.2
    ·cases hds
   ·cases hds
  ·cases hd
 ·cases hd
theorem Zrq{K:ZxR}{F H:Hp}{q:HM.B}{v:V}{fp:List Addr}{ds:List PyData}(sub:Zp F H)(r:Zak K F H q v fp)(h:HM.ZtP q=some ds):∃a,v=.ref a/\ZiB K F H a ds:=by
 cases r with
 | pl r =>
  cases r with
  | tup h1 h2 h3=>cases h; exact⟨_,rfl,.tup (.of (sub _ _ h1)) ⟨h2,h3⟩⟩
  | @tupk a x h1=>cases h; exact⟨_,rfl,.tup (.inr h1) (.one (.str x))⟩
  | lst h1 h2 h3=>cases h; exact⟨_,rfl,.lst (sub.seq h1) ⟨h2,h3⟩⟩
  | dct _ _ _ _=>cases h
  | fn _=>cases h
  | non=>cases h
  | bl _=>cases h
  | int _=>cases h
  | str _=>cases h
 | ol h1 r=>cases h; exact⟨_,rfl,.lst (.of h1) r⟩
 | hd _ _ _ _=>cases h
 | hf _=>cases h
 | @ok a kvs vvs h1 h2 h3 =>
  cases h;refine⟨_,rfl,?_⟩;have e:(kvs.map λp=>HM.ZaL p.1)=vvs.map λp=>HM.ZaL p.1:=by
   have:=congrArg (ZBm HM.ZaL) h2
   rwa [Zyg,Zyg]at this
  rw[e];exact .dk h1
 | @ot a kvs vvs h1 h2 h3 =>
  cases h;refine⟨_,rfl,?_⟩;have e:(kvs.map λp=>Zyv (p.1.map HM.ZaL))=vvs.map λp=>Zyv (p.1.map HM.ZaL):=by
   have:=congrArg (ZBm λk:List Key=>Zyv (k.map HM.ZaL)) h2
   rwa [Zyg,Zyg]at this
  rw[e];exact .dt h1
 | @otl a kvs vvs ls h1 h2 h3 h4 =>
  cases h;refine⟨_,rfl,?_⟩;have e:(kvs.map λp=>Zyv (p.1.map HM.ZaL))=vvs.map λp=>Zyv (p.1.map HM.ZaL):=by
   have:=congrArg (ZBm λk:List Key=>Zyv (k.map HM.ZaL)) h2
   rwa [Zyg,Zyg]at this
  rw[e];exact .dt h1
theorem ZdT(hm:X.mg "sorted" = none)(hc:X.calm=true)(ha:XB X a f)(hg:Gl X "sorted":=by rfl)(hs:Zx6 [a] X.env=[(false,eval a X.env)]:=by rfl):XF X (.Call (.Name "sorted" p) [a] [] pos) (HM.Zc2 f):=by
 intro r d h;unfold HM.Zc2 at h;split at h
 ·rename_i x hx
  split at h
  ·rename_i ds hds
   obtain⟨ds',h1,h2⟩:=ZxT.mp h;subst h2;refine PE.imp (Zdh (Zne hc) hg hm ZlA (Ze3 ha hx hs) (he:=hs)) λσ H Q ⟨F0,H0,F,at_,k⟩=>?_;refine⟨F0,H0,F,at_,λv fp F1 H1 x1 r1=>?_⟩;obtain⟨l,e1,src⟩:=Zrq x1.sub r1 hds;subst e1;exact⟨l,F1,ds,ds',rfl,x1.sub,src,h1,λl' ws hl' rs=>ZeK (P:=λv _ H'=>Q v H') x1.tups rs hl' k⟩
  ·cases h
 ·cases h
theorem Zq6(hc:X.calm=true):Za7 X (.type "set") (λxs H Q=>∃p ns,xs=[.ref p]/\SqL X.K H p (ns.map V.int)/\(∀n∈ns,0<=n/\n<8)/\∀l,H l=none->Q (.ref l) (upd H l (.ext λh=>Zds X.prog X.w h l (HM.dedup [] ns)))):=by intro pins s σ H xs us Q I r h;obtain⟨p,ns,rfl,hq,hb,q⟩:=h;obtain⟨u,rfl,rx⟩:=vals1 r;cases rx;obtain⟨its,rv,pl,hz⟩:=I.list hq;refine Zr6 (I.ok.hd hc) pl.isList (by simpa using ZdZ rv) hb λh' tk hS kp=>?_;have hS':=hS;obtain⟨o,es,ep,t,ho,_⟩:=hS';refine⟨.ref s.heap.objs.size,_,I.laid (a:=s.heap.objs.size) (o:=.ext λh=>Zds X.prog X.w h s.heap.objs.size (HM.dedup [] ns)) (λb o e=>kp b o (Zx7 e) e) (Zx2 _) ?_,rfl,q _ (I.hok.fresh (Zx2 _))⟩;exact⟨hS,⟨o,ho⟩,λh1 h2 x kk=>x.at' kk⟩
theorem Znr(hc:X.calm=true):Za7 X (.builtin "sorted") (λxs H Q=>∃p L,xs=[.ref p]/\H p=some (.ext λh=>Zds X.prog X.w h p L)/\∀l,H l=none->Q (.ref l) (upd H l (.lst ((HM.sortI L).map V.int)))):=by
 intro pins s σ H xs us Q I r h;obtain⟨p,L,rfl,hp,q⟩:=h;obtain⟨u,rfl,rx⟩:=vals1 r;cases rx;obtain⟨hX,_,_⟩:=(show Zab X.prog X.w H s.heap p (.ext λh=>Zds X.prog X.w h p L) from I.hok p _ hp);obtain⟨o,es,ep,t,ho,hex,hd,hen,hpm,hpl,ht⟩:=hX;have hsz:=size_of hpl;have hfew:=ht.few;have raw:Zev X.w s.heap p es ep t:=⟨⟨o,ho,hex,hd⟩,by rw[hsz]; exact ht.fits,hsz,ht⟩;refine ZBP kind_sorted plain_sorted entry_sorted (args_sorted1 _) ?_;unfold Builtin.«sorted»;refine ZxQ (m:=checkCount "sorted" 1 1 _) (ZxV ?_);refine ZxQ (ZgH (Zug (es:=es) (ep:=ep) (t:=t)) (I.ok.hd hc) raw (by rw[Zzc]; omega) λh' tk acc kp _ hacc=>?_);have hal:acc.toList.length=es.size:=by rw[Zyj]; exact hacc.1
 have hI:IntsAre acc.toList ((ZdN X.w p es ep).toList.map Zer):=by
  have key:∀(us:List Value) (xs:List (Int × Value)),us.length=xs.length->(∀(i:Nat) u,us[i]?=some u->∃e,xs[i]?=some e/\u=e.2)->(∀e∈xs,∃n t,e=((intKind X.prog X.w).hash n,ZzD n t))->IntsAre us (xs.map Zer):=by
   intro us
   induction us with
   | nil=>intro xs hl _ _; cases xs with | nil=>exact .nil | cons _ _=>simp at hl
   | cons u us ih =>
    intro xs hl hk he;cases xs with
    | nil=>simp at hl
    | cons x xs=>obtain⟨e,e1,e2⟩:=hk 0 u rfl;simp at e1;subst e1;obtain⟨n,t,e3⟩:=he x (ZxU ..);rw[e2,e3];exact .cons n t (ih xs (by simpa using hl) (λi u e=>hk (i+1) u (by simpa using e)) λe h=>he e (ZxW _ h))
  refine key acc.toList (ZdN X.w p es ep).toList (by rw[hal,Zyj,ZiC]) (λi u e=>?_) λe h=>hen e ((Zit X.w p es ep).mem_iff.mp h);obtain⟨e',e1,e2⟩:=hacc.2 i u (by rw[<-ZyJ]; exact e);exact⟨e',by rw[ZyJ]; exact e1,e2⟩
 refine ZxQ (wpAny_newList ?_ (by rw[hal,Zzc]; omega));have hoL:(h'.push (seqObj "list" acc.toList.toArray 0)).get? h'.objs.size=some (seqObj "list" acc.toList.toArray 0):=Zx9 _ rfl;show wpAny _ _ _ _ _ { s with heap:=h'.push (seqObj "list" acc.toList.toArray 0),toks:=tk };refine ZxQ (Zy0 (Zzb slot_list_sort ⟨_,hoL,rfl⟩ ZB6 (list_sort_tree hoL hI (by omega) λout ns' a1 a2 a3=>⟨_,rfl,?_⟩) (args_list_sort _)));refine ZxV ⟨_,rfl,?_⟩;have e:ns'=HM.sortI L:=Zn8 (a2.trans (((Zit X.w p es ep).map Zer).trans hpm)) a3;have hl:ns'.length<64:=by rw[a2.length_eq,<-hI.length,hal]; omega
 obtain⟨ee,he⟩:=sortedHeap_at (out:=out) hoL;have I1:Inv X pins σ H { s with heap:=h',toks:=tk }:=I.kept kp;refine⟨.ref h'.objs.size,_,I1.laid (a:=h'.objs.size) (o:=.lst (ns'.map V.int)) (t':=tk) (λb o e1=>?_) (Zx2 _) ⟨by rw[ZxS,Zzc]; omega,out.toList,ee,Zhw a1,by simpa using he⟩,rfl,?_⟩
 ·exact Zjx (Zyf (Zx7 e1)) (ZxX _ e1)
 ·rw[e]; exact q _ (I1.hok.fresh (Zx2 _))
theorem Zmx(hm:X.mg "sorted" = none)(hm2:X.mg "set" = none)(hc:X.calm=true){p' pos':Pos}(ha:XB X a f)(hg:Gl X "sorted":=by rfl)(hg2:Gl X "set":=by rfl)(hs:Zx6 [a] X.env=[(false,eval a X.env)]:=by rfl)
  (hs2:Zx6 [ZCA (.Name "set" p') [a] [] pos'] X.env=[(false,eval (ZCA (.Name "set" p') [a] [] pos') X.env)]:=by rfl) :
  XF X (.Call (.Name "sorted" p) [.Call (.Name "set" p') [a] [] pos'] [] pos) (HM.Zhs f):=by
 intro r d h;unfold HM.Zhs at h;split at h
 ·rename_i x hx
  split at h
  ·rename_i ds hds
   split at h
   ·rename_i ns hns
    split at h
    ·rename_i hlow
     cases h;refine PE.imp (Zdh (Znr hc) hg hm ZlA (ZaI (Zdf (Zq6 hc) hg2 hm2 ZvD (Ze3 ha hx hs) (he:=hs)) Zb3 hs2) (he:=hs2)) λσ H Q ⟨F0,H0,F,at_,k⟩=>?_;refine⟨F0,H0,F,at_,λv fp F1 H1 x1 r1=>?_⟩;obtain⟨l,vs,e1,hq,rs⟩:=Zga x1.sub r1 hds;subst e1;rw[ZcF hns rs]at hq;refine⟨l,ns,rfl,hq,λn hn=>?_,λl2 hl2=>⟨l2,_,rfl,ZF,λl3 hl3=>?_⟩⟩
     ·have:=Zx0.mp hlow n hn
      rw[Zyd,decide_eq_true_eq,decide_eq_true_eq]at this;exact this
     ·have x2:=x1.lay' (o:=.ext λh=>Zds X.prog X.w h l2 (HM.dedup [] ns)) hl2
      exact ZeK (P:=λv _ H'=>Q v H') x2 (Ze1 _) hl3 k
    ·cases h
   ·cases h
  ·cases h
 ·cases h
end
end HP
namespace HP
open PySem PySem.Spec PyProof.Rows L2
variable[FX]
section
variable{X:Cx}{a b:Expr}{fa:HM.EF}{f:HM.BF}{pos:Pos}
theorem Zj0(i:Int):∀ns:List Int,inV (.int i) (ns.map V.int)=ns.contains i
 | []=>rfl
 | n::ns=>by have ih:=Zj0 i ns;unfold inV at ih ⊢;rw[ZxY,ZzA,ih,List.contains_cons];show(n==i||_)=(i==n||_);rw[show(n==i)=(i==n) from ZAF.mpr ⟨λh=>beq_iff_eq.mpr (beq_iff_eq.mp h).symm,λh=>beq_iff_eq.mpr (beq_iff_eq.mp h).symm⟩]
theorem ZiK:∀ns:List Int,(ns.map V.int).all ZbJ=true
 | []=>rfl
 | n::ns=>by rw[ZxY,Zy5,ZiK ns]; rfl
theorem Zsy{r:HM.Env}{d:PyData}(h:HM.Zm9 fa f r=some d):∃i q ds ns,fa r=some (.int i)/\f r=some q/\HM.Zcm q=some ds/\HM.ZaO ds=some ns/\d=.bool (ns.contains i):=by
 unfold HM.Zm9 at h;split at h
 ·split at h
  ·split at h
   ·obtain⟨c,h1,h2⟩:=ZxT.mp h
    obtain⟨ns,h3,h4⟩:=ZxT.mp h1;exact⟨_,_,_,ns,by assumption,by assumption,by assumption,h3,by rw[<-h2,<-h4]⟩
   ·cases h
  ·cases h
 ·cases h
theorem Zo6{r:HM.Env}{d:PyData}(h:HM.Zhd fa f r=some d):∃i q ds ns,fa r=some (.int i)/\f r=some q/\HM.Zcm q=some ds/\HM.ZaO ds=some ns/\d=.bool (!ns.contains i):=by
 unfold HM.Zhd at h;split at h
 ·split at h
  ·split at h
   ·obtain⟨c,h1,h2⟩:=ZxT.mp h
    obtain⟨ns,h3,h4⟩:=ZxT.mp h1;exact⟨_,_,_,ns,by assumption,by assumption,by assumption,h3,by rw[<-h2,<-h4]⟩
   ·cases h
  ·cases h
 ·cases h
theorem ZtD{neg:Bool}{r:HM.Env}{i:Int}{q:HM.B}{ds:List PyData}{ns:List Int}(ha:XE X a fa)(hb:XB X b f)(h1:fa r=some (.int i))(h2:f r=some q)(h3:HM.Zcm q=some ds)(h4:HM.ZaO ds=some ns){op:CmpOp}(ho:OpR X (ZyY op) (rIn X.K neg))(hm:Zy4 op b=false) :
  PE X (.Compare a [op] [b] pos) (tAt X.K r λ_ F' _ v=>v=.bl (if neg then !ns.contains i else ns.contains i)):=by
 refine PE.imp (Zpe ho (ha r _ h1) (hb r q h2) hm) λσ H Q ⟨F0,H0,F,at_,k⟩=>?_;refine⟨F0,H0,F,at_,λv F1 H1 x1 r1=>⟨F0,H0,F1,at_.grow x1,λw F2 H2 x2 ⟨fp,r2⟩=>?_⟩⟩;obtain⟨p,vs,e1,hq,rs⟩:=Zf7 x2.sub r2 h3;cases r1;rw[ZcF h4 rs]at hq;refine⟨p,_,e1,hq,rfl,ZiK ns,k _ F2 H2 (x1.trans x2) ?_⟩;rw[Zj0]
theorem Zss{neg:Bool}{r:HM.Env}{i:Int}{q:HM.B}{ds:List PyData}{ns:List Int}(ha:XE X a fa)(hb:XB X b f)(h1:fa r=some (.int i))(h2:f r=some q)(h3:HM.Zcm q=some ds)(h4:HM.ZaO ds=some ns){op:CmpOp}(ho:OpR X (ZyY op) (rIn X.K neg))(hm:Zy4 op b=false) :
  PT X (.Compare a [op] [b] pos) λσ H Q=>Now X.K r σ H λF0 H0 F=>∀F' H',Ext F H F' H'->Q (if neg then !ns.contains i else ns.contains i) H':=by
 refine PT.imp (Zk9 ho (ha r _ h1) (hb r q h2) hm) λσ H Q ⟨F0,H0,F,at_,k⟩=>?_;refine⟨F0,H0,F,at_,λv F1 H1 x1 r1=>⟨F0,H0,F1,at_.grow x1,λw F2 H2 x2 ⟨fp,r2⟩=>?_⟩⟩;obtain⟨p,vs,e1,hq,rs⟩:=Zf7 x2.sub r2 h3;cases r1;rw[ZcF h4 rs]at hq;refine⟨p,_,e1,hq,rfl,ZiK ns,_,rfl,?_⟩;rw[Zj0];exact k F2 H2 (x1.trans x2)
theorem ZuZ(ha:XE X a fa)(hb:XB X b f)(hm:Zy4 .In b=false:=by rfl):XE X (.Compare a [.In] [b] pos) (HM.Zm9 fa f):=by intro r d h;obtain⟨i,q,ds,ns,h1,h2,h3,h4,rfl⟩:=Zsy h;refine PE.imp (ZtD ha hb h1 h2 h3 h4 Zq4 hm) λσ H Q ⟨F0,H0,F,at_,k⟩=>⟨F0,H0,F,at_,λv F' H' x e=>k v F' H' x ?_⟩;subst e;exact .bl _
theorem ZqR(ha:XE X a fa)(hb:XB X b f)(hm:Zy4 .NotIn b=false:=by rfl):XT X (.Compare a [.NotIn] [b] pos) (HM.tV (HM.Zhd fa f)):=by intro r d h;obtain⟨i,q,ds,ns,h1,h2,h3,h4,e⟩:=Zo6 (Zha h);cases e;exact Zss ha hb h1 h2 h3 h4 ZnX hm
end
end HP
namespace HP
open PySem PySem.Spec PyProof.Rows L2
variable[FX]
section
variable{X:Cx}{c e:Expr}{fa:HM.EF}{t:HM.TF}{g:HM.SF}{pos:Pos}{body:List Stmt}
theorem Zmy(n:Nat)(hxe:X.xe=λ_ _=>False)(hc:XT X c t)(hb:XSs X body g):XS X (.While c body [] pos) (HM.Zn3 n t g):=by
 intro r o ho;have ho:HM.ZbI t g n r=some o:=ho;have pb:PSs X body (λE σ H=>∃r o,g r=some o/\tSt X.K r o E σ H):=λpins s σ H E I ⟨r,o,h1,h2⟩=>hb r o h1 pins s σ H E I h2;have pc:PT X c (λσ H Q=>∃r b,t r=some b/\Now X.K r σ H λF0 H0 F=>∀F' H',Ext F H F' H'->Q b H'):=λpins s σ H Q I ⟨r,b,h1,h2⟩=>hc r b h1 pins s σ H Q I h2;refine PS.imp (Ztf (Zix hxe) pc pb) λE σ H ⟨F0,H0,F,at_,k⟩=>?_;refine⟨λm σ H=>∃F r,At X.K F0 H0 F H r σ/\HM.ZbI t g m r=some o,⟨n,F,r,at_,ho⟩,?_⟩
 rintro m σ H ⟨F2,r2,at2,go⟩
 cases m with
 | zero=>cases go
 | succ m =>
  unfold HM.ZbI at go;split at go
  ·rename_i ht
   refine⟨r2,true,ht,F0,H0,F2,at2,λF' H' x=>?_⟩;dsimp only;rw[if_pos rfl];have at3:=at2.grow x;have a4:=at3.rebase;refine⟨λσ' H'=>∃F r,At X.K F0 H0 F H' r σ'/\HM.ZbI t g m r=some o,λσ' H' q=>⟨m,Zz8 m,q⟩,?_⟩;split at go
   ·rename_i r' hr
    exact⟨_,_,hr,F',H0,F',a4,λσ' F' H' a'=>⟨F',r',a'.unbase at3.ext at3.nt0,go⟩⟩
   ·rename_i r' hr
    exact⟨_,_,hr,F',H0,F',a4,λσ' F' H' a'=>⟨F',r',a'.unbase at3.ext at3.nt0,go⟩⟩
   ·rename_i r' hr
    cases go;exact⟨_,_,hr,F',H0,F',a4,λσ' F' H' a'=>k σ' F' H' (a'.unbase at3.ext at3.nt0)⟩
   ·rename_i d hr
    cases go;exact⟨_,_,hr,F',H0,F',a4,λv F' H' x q=>k v F' H' (at3.ext.unbase x) q⟩
   ·cases go
  ·rename_i ht
   cases go;refine⟨r2,false,ht,F0,H0,F2,at2,λF' H' x=>?_⟩;dsimp only;rw[if_neg (by simp)];exact k σ F' H' (at2.grow x)
  ·cases go
theorem Zt5{i j:Nat}{x y:Str}{px py pt:Pos}{kt:Nat}(hc:X.calm=true)(hN:X.N.Nodup)(hi:X.N[i]?=some x)(hj:X.N[j]?=some y)(hx:Loc X.env.scope x)(hy:Loc X.env.scope y)(hf:X.fn x=true\/X.env.scope.names.lookup x=some .local)(hg:X.fn y=true\/X.env.scope.names.lookup y=some .local)
  (h1:(ZzQ [.Name x px,.Name y py] X.env).length=2:=by rfl) (h2:(ZzQ [.Name x px,.Name y py] X.env).findIdx? (·.1)=none:=by rfl) :
  PG X (.Tuple [.Name x px,.Name y py] kt pt) (Zv4 X.K 2 (ZqE (Zmp i) (ZqE (Zmp j) Zwq))) :=
 Zq7 hc (ZhN (Zfx hN hi hx hf) (ZhN (Zfx hN hj hy hg) Zpp)) h1 h2
theorem Zo9(i j:Nat){x y:Str}{px py pt:Pos}{kt:Nat}{iter:Expr}{fi:HM.IF}(hN:X.N.Nodup)(hxe:X.xe=λ_ _=>False)(hc:X.calm=true)(hi:XI X (.Tuple [.Name x px,.Name y py] kt pt) iter fi)(hb:XSs X body g)(hix:X.N[i]?=some x:=by rfl)(hjy:X.N[j]?=some y:=by rfl)
  (hx:Loc X.env.scope x:=by first | exact ZyP rfl | exact Zyx rfl) (hy:Loc X.env.scope y:=by first | exact ZyP rfl | exact Zyx rfl) (hf:X.fn x=true\/X.env.scope.names.lookup x=some .local:=by first | exact .inl rfl | exact .inr rfl) (hf2:X.fn y=true\/X.env.scope.names.lookup y=some .local:=by first | exact .inl rfl | exact .inr rfl)
  (h1:(ZzQ [.Name x px,.Name y py] X.env).length=2:=by rfl) (h2:(ZzQ [.Name x px,.Name y py] X.env).findIdx? (·.1)=none:=by rfl)
  (hs:∀x,Zzh iter X.env x=pure x:=by intro _; rfl):XS X (.For (.Tuple [.Name x px,.Name y py] kt pt) iter body [] pos) (HM.Zi0 i j fi g):=by
 intro r o ho;unfold HM.Zi0 at ho;split at ho
 ·rename_i ds hds
  split at ho
  ·rename_i hbig
   have pb:PSs X body (λE σ H=>∃r o,g r=some o/\tSt X.K r o E σ H):=λpins s σ H E I ⟨r,o,h1,h2⟩=>hb r o h1 pins s σ H E I h2;refine PS.imp (Zsc (Zix hxe) hc (hi r ds hds) (Zt5 hc hN hix hjy hx hy hf hf2 h1 h2) pb hs) λE σ H ⟨F0,H0,F,at_,k⟩=>?_;refine⟨F0,H0,F,at_,λJ F1 H1 x1 it=>?_⟩;refine⟨λn m σ H=>∃F r,At X.K F0 H0 F H r σ/\Zp F1 F/\n+m=ds.length/\HM.ZeB i j g (ds.drop n) r=some o,⟨ds.length,F1,r,at_.grow x1,Zp.refl _,by omega,ho⟩,?_⟩
   rintro n m σ H ⟨F2,r2,at2,s2,hn,go⟩
   obtain⟨it1,it2⟩:=it F2 H s2 at2.sub;cases m with
   | zero =>
    have e:n=ds.length:=by omega
    subst e;rw[ZBT]at go;cases go;exact .inl ⟨it2,k σ F2 H at2⟩
   | succ m =>
    have hlt:n<ds.length:=by omega
    rw[ZAE hlt]at go;obtain⟨j1,j2⟩:=it1 n ds[n] (Zx5 hlt);refine .inr ⟨j1,λσ' H'=>∃F r,At X.K F0 H0 F H' r σ'/\Zp F1 F/\HM.ZeB i j g (ds.drop (n+1)) r=some o,λσ' H' ⟨F,r,a1,a2,a3⟩=>⟨m,by omega,F,r,a1,a2,by omega,a3⟩,λy H' hy=>?_⟩;obtain⟨e1,ry⟩:=j2 y H' hy;subst e1;obtain⟨F3,at3,s3,ry⟩:∃F3,At X.K F0 H0 F3 H' r2 σ/\Zp F1 F3/\Rep X.K F3 ds[n] y:=⟨_,at2.grow at2.refl.tups,s2.trans (Zc1 at2.sub),ry⟩;have hsh:∃d1 d2,ds[n]=.tuple [d1,d2]:=by
     unfold HM.ZeB at go;split at go
     ·cases ‹_=[]›
     ·rename_i d1 d2 q hq
      injection hq with hq _
      exact⟨d1,d2,hq⟩
     ·cases go
    obtain⟨d1,d2,hsh⟩:=hsh;rw[hsh]at ry go;obtain⟨pa,v1,v2,e7,hpa,rx1,rx2⟩:=Znq ry;subst e7;have a3:=(at3.set (i:=i) rx1).set (i:=j) rx2;have a4:=a3.rebase;refine⟨pa,[v1,v2],rfl,.of (at3.sub _ _ hpa),rfl,v1,[v2],rfl,v2,[],rfl,rfl,?_⟩;dsimp only[HM.ZeB]at go;split at go
    ·rename_i r' hr
     exact⟨_,_,hr,F3,H0,F3,a4,λσ' F' H' a'=>⟨F',r',a'.unbase at3.ext at3.nt0,s3.trans a'.ext.ff,go⟩⟩
    ·rename_i r' hr
     exact⟨_,_,hr,F3,H0,F3,a4,λσ' F' H' a'=>⟨F',r',a'.unbase at3.ext at3.nt0,s3.trans a'.ext.ff,go⟩⟩
    ·rename_i r' hr
     cases go;exact⟨_,_,hr,F3,H0,F3,a4,λσ' F' H' a'=>k σ' F' H' (a'.unbase at3.ext at3.nt0)⟩
    ·rename_i d hr
     cases go;exact⟨_,_,hr,F3,H0,F3,a4,λv F' H' x q=>k v F' H' (at3.ext.unbase x) q⟩
    ·cases go
  ·cases ho
 ·cases ho
end
end HP
namespace HP
open PySem PySem.Spec PyProof.Rows L2
variable[FX]
section
variable{X:Cx}{a b:Expr}{fa:HM.EF}{f:HM.BF}{pos:Pos}
theorem ZrS{e:Value->Bool}{f:PyData->Bool}:∀{ds:List PyData} {us:List Value},ds.length=us.length->(∀(i:Nat) d u,ds[i]?=some d->us[i]?=some u->e u=f d)->us.any e=ds.any f
 | [],[],_,_=>rfl
 | [],_::_,hl,_=>by simp at hl
 | _::_,[],hl,_=>by simp at hl
 | d::ds,u::us,hl,k=>by rw[ZzA,ZzA,k 0 d u rfl rfl,ZrS (ds:=ds) (us:=us) (by simpa using hl) λi d u e1 e2=>k (i+1) d u (by simpa using e1) (by simpa using e2)]
def Zvx(K:ZxR)(neg:Bool):R2:=λvx vy H Q=>∃F p xs x ds,Zp F H/\vy=.ref p/\(SqL K H p xs\/SqT K H p xs)/\Rep K F x vx/\Zu K F ds xs/\HM.Zan x=true/\ds.all HM.Zan=true /\
 Q (.bl (if neg then !ds.any λd=>ZyW d x else ds.any λd=>ZyW d x)) H
open Classical in
noncomputable def ZgM (h:Heap) (x:PyData) (u:Value):Bool:=decide (∃d as,Reads h u d as/\d.canLay0=true/\ZyW d x=true)
theorem ZrE{h:Heap}{x d:PyData}{u:Value}{as:List Addr}(r:Reads h u d as)(hl:d.canLay0=true):ZgM h x u=ZyW d x:=by
 classical
 unfold ZgM;cases q:ZyW d x with
 | true=>exact decide_eq_true ⟨d,as,r,hl,q⟩
 | false=>refine decide_eq_false λ⟨d',as',r',hl',q'⟩=>?_;rw[SeqAt.Reads.unique d d' u as as' hl r r']at q;rw[q]at q';cases q'
theorem Zny{k:Nat}(hr:Zaq k X.A){pins:List (Addr × Obj)}{s:Shared}{σ:L2.St}{H F:Hp}{x:PyData}{vx:V}{u:Value}{ds:List PyData}{xs:List V}{its:List Value}(I:Inv X pins σ H s)(sub:Zp F H)(rx:Rep X.K F x vx)(ru:RelV vx u)(rs:Zu X.K F ds xs)(rv:Vals xs its)(px:HM.Zan x=true)(pd:ds.all HM.Zan=true) :
  (∀y∈its,SeqAt.EqAt X.A.in1 s y u (ZgM s.heap x y))/\its.any (ZgM s.heap x)=ds.any λd=>ZyW d x:=by
 obtain⟨x1,x2⟩:=Zdq px;obtain⟨as,hx⟩:=rx.reads I sub x1 u ru;have hun:=hr.un;have each:∀(i:Nat) d y,ds[i]?=some d->its[i]?=some y->(∃bs,Reads s.heap y d bs)/\d.canLay0=true/\d.depth<=60:=λi d y e1 e2=>by
  have hi:i<xs.length:=by rw[<-rs.1]; exact(Zx4.mp e1).1
  obtain⟨y',q1,q2⟩:=rv.get (Zx5 hi);rw[e2]at q1;cases q1;have hp:=Zdq (Zx0.mp pd d (Zym e1));exact⟨(rs.2 i d _ e1 (Zx5 hi)).reads I sub hp.1 y q2,hp⟩
 have hl:ds.length=its.length:=rs.1.trans rv.length;refine⟨λy hy=>?_,ZrS hl λi d y e1 e2=>?_⟩
 ·obtain⟨i,hi,e⟩:=ZAA hy
  have hi':i<ds.length:=by omega
  obtain⟨⟨bs,q⟩,h1,h2⟩:=each i ds[i] y (Zx5 hi') (by rw[Zx5 hi,e]);rw[ZrE q h1];refine SeqAt.eqAt_reads _ _ _ _ _ _ _ _ q hx h1 x1 ?_;have:min (ds[i]).depth x.depth<=60:=ZyG (ZB3 _ _) h2;show X.A.units+1+_<_;omega
 ·obtain⟨⟨bs,q⟩,h1,_⟩:=each i d y e1 e2
  exact ZrE q h1
theorem Zwd{k:Nat}(hr:Zaq k X.A):OpR X (ZyY .In) (Zvx X.K false):=by
 intro pins s σ H vx vy v u Q I r1 r2 ⟨F,p,xs,x,ds,sub,e,hq,rx,rs,px,pd,q⟩;subst e;cases r2;rcases hq with hq | hq
 ·obtain⟨its,r,pl,hz⟩:=I.list hq
  obtain⟨h1,h2⟩:=Zny hr I sub rx r1 rs r px pd;refine SeqAt.in_listAt (ZgM s.heap x) pl.isList (λw hw=>h1 w (by simpa using hw)) ⟨.bl _,H,I,rfl,?_⟩;rw[show its.toArray.any (ZgM s.heap x)=its.any (ZgM s.heap x) by simp,h2];exact q
 ·obtain⟨its,r,pl,hz⟩:=I.tuple hq
  obtain⟨h1,h2⟩:=Zny hr I sub rx r1 rs r px pd;refine SeqAt.in_tupleAt (ZgM s.heap x) pl (λw hw=>h1 w (by simpa using hw)) ⟨.bl _,H,I,rfl,?_⟩;rw[show its.toArray.any (ZgM s.heap x)=its.any (ZgM s.heap x) by simp,h2];exact q
theorem ZtC{ds:List PyData}{x:PyData}{c:Bool}(h:HM.ZnW ds x=some c):HM.Zan x=true/\ds.all HM.Zan=true/\c=ds.any λd=>ZyW d x:=by
 unfold HM.ZnW at h;split at h
 ·rename_i hp
  rw[Zyd]at hp;cases h;exact⟨hp.1,hp.2,rfl⟩
 ·cases h
theorem Ztm{r:HM.Env}{d:PyData}(h:HM.Zoi fa f r=some d):∃x q ds,fa r=some x/\f r=some q/\HM.Zcm q=some ds/\HM.Zan x=true/\ds.all HM.Zan=true/\d=.bool (ds.any λd=>ZyW d x):=by
 unfold HM.Zoi at h;split at h
 ·split at h
  ·split at h
   ·obtain⟨c,h1,h2⟩:=ZxT.mp h
    obtain⟨h3,h4,h5⟩:=ZtC h1;exact⟨_,_,_,by assumption,by assumption,by assumption,h3,h4,by rw[<-h2,<-h5]⟩
   ·cases h
  ·cases h
 ·cases h
theorem Zs8{neg:Bool}{r:HM.Env}{x:PyData}{q:HM.B}{ds:List PyData}(ha:XE X a fa)(hb:XB X b f)(h1:fa r=some x)(h2:f r=some q)(h3:HM.Zcm q=some ds)(p1:HM.Zan x=true)(p2:ds.all HM.Zan=true){op:CmpOp}(ho:OpR X (ZyY op) (Zvx X.K neg))(hm:Zy4 op b=false) :
  PT X (.Compare a [op] [b] pos) λσ H Q=>Now X.K r σ H λF0 H0 F=>∀F' H',Ext F H F' H'->Q (if neg then !ds.any λd=>ZyW d x else ds.any λd=>ZyW d x) H':=by
 refine PT.imp (Zk9 ho (ha r _ h1) (hb r q h2) hm) λσ H Q ⟨F0,H0,F,at_,k⟩=>?_;refine⟨F0,H0,F,at_,λv F1 H1 x1 r1=>⟨F0,H0,F1,at_.grow x1,λw F2 H2 x2 ⟨fp,r2⟩=>?_⟩⟩;obtain⟨p,vs,e1,hq,rs⟩:=Zf7 x2.sub r2 h3;exact⟨F2,p,vs,x,ds,x2.sub,e1,hq,r1.mono x2.ff,rs,p1,p2,_,rfl,k F2 H2 (x1.trans x2)⟩
theorem Zu0{k:Nat}(hr:Zaq k X.A)(ha:XE X a fa)(hb:XB X b f)(hm:Zy4 .In b=false:=by rfl):XT X (.Compare a [.In] [b] pos) (HM.tV (HM.Zoi fa f)):=by intro r d h;obtain⟨x,q,ds,h1,h2,h3,h4,h5,e⟩:=Ztm (Zha h);cases e;exact Zs8 ha hb h1 h2 h3 h4 h5 (Zwd hr) hm
end
end HP
namespace HP
open PySem PySem.Spec PyProof.Rows L2
variable[FX]
section
variable{X:Cx}{a b c e:Expr}{fa fb fc:HM.EF}{f:HM.BF}{pos p:Pos}{es:List Expr}
theorem rdT{F F':Hp}{a:Addr}{vvs:List (List Key × V)}(r:Rd F a (.dT vvs))(s:ZaF F F'):Rd F' a (.dT vvs):=r.imp (λh=>s _ _ h) λ⟨o,h⟩=>⟨o,s _ _ h⟩
theorem Zqp{H:Hp}{a b:Addr}{kvs:List (List Key × V)}{k:List Key}(e:Rd H a (.dT kvs))(eb:H b=some (.tup (k.map kV))):ZdM H a (.ref b) (ZaT kvs k):=.inr ⟨kvs,k,b,e,rfl,eb,rfl⟩
theorem Zka{K:ZxR}{F H:Hp}{q:HM.B}{v:V}{fp:List Addr}{kvs:List (List Key × PyData)}(sub:Zp F H)(r:Zak K F H q v fp)(h:HM.Zk0 q=some kvs):∃l vvs,v=.ref l/\Rd H l (.dT vvs)/\Za5 K F kvs vvs:=by
 cases r with
 | pl r =>
  cases r with
  | @dct l es kvs' vvs h1 h2 h3 h4=>subst h2;have h:HM.ZeI (HM.Zi kvs')=some kvs:=h;rw[HM.dec_enc]at h;cases h;refine⟨l,vvs,rfl,Zi6 h1 sub,h3,?_,h4⟩;have:=congrArg ZyB h3;rw[ZxS,ZxS]at this;rw[ZxS,ZxS,this]
  | fn _=>cases h
  | tupk _=>cases h
  | tup _ _ _=>cases h
  | lst _ _ _=>cases h
  | non=>cases h
  | bl _=>cases h
  | int _=>cases h
  | str _=>cases h
 | ol _ _=>cases h
 | ok _ _ _=>cases h
 | @ot l kvs vvs h1 h2 h3=>cases h; exact⟨l,vvs,rfl,.inl h1,h2,h3⟩
 | @hd l o es kvs' vvs h1 h2 h3 h4=>subst h2;have h:HM.ZeI (HM.Zi kvs')=some kvs:=h;rw[HM.dec_enc]at h;cases h;exact⟨l,vvs,rfl,.inr ⟨o,sub _ _ h1⟩,h3,h4⟩
 | hf _=>cases h
 | otl _ _ _ _=>cases h
theorem ZtG{r:HM.Env}{d:PyData}(h:HM.Zm8 fa f r=some d):∃x q kvs y,fa r=some x/\f r=some q/\HM.Zk0 q=some kvs/\HM.Zbx x=some y/\d=.bool (HM.Zn kvs y).isSome:=by
 unfold HM.Zm8 at h;split at h
 ·split at h
  ·split at h
   ·obtain⟨y,h1,h2⟩:=ZxT.mp h
    exact⟨_,_,_,y,by assumption,by assumption,by assumption,h1,h2.symm⟩
   ·cases h
  ·cases h
 ·cases h
theorem Zo8{r:HM.Env}{d:PyData}(h:HM.Zcb fa f r=some d):∃x q kvs y,fa r=some x/\f r=some q/\HM.Zk0 q=some kvs/\HM.Zbx x=some y/\d=.bool (!(HM.Zn kvs y).isSome):=by
 unfold HM.Zcb at h;split at h
 ·split at h
  ·split at h
   ·obtain⟨y,h1,h2⟩:=ZxT.mp h
    exact⟨_,_,_,y,by assumption,by assumption,by assumption,h1,h2.symm⟩
   ·cases h
  ·cases h
 ·cases h
theorem Zu1(hu:X.A.units+1<cLine)(ha:XE X a fa)(hb:XB X b f)(hm:Zy4 .In b=false:=by rfl):XT X (.Compare a [.In] [b] pos) (HM.tV (HM.Zm8 fa f)):=by intro r d h;obtain⟨x,q,kvs,y,h1,h2,h3,h4,e⟩:=ZtG (Zha h);cases e;refine PT.imp (Zrh (Zv1 hu (ha r x h1) (hb r q h2)) hm) λσ H Q ⟨F0,H0,F,at_,k⟩=>?_;refine⟨F0,H0,F,at_,λv F1 H1 x1 r1=>⟨F0,H0,F1,at_.grow x1,λw F2 H2 x2 ⟨fp,r2⟩=>?_⟩⟩;obtain⟨l,vvs,e1,e2,T⟩:=Zka x2.sub r2 h3;obtain⟨bb,rfl,hbb⟩:=ZdQ h4 (r1.mono x2.ff);exact⟨l,_,e1,Zqp e2 (x2.sub _ _ hbb),_,rfl,by rw[T.some_iff]; exact k F2 H2 (x1.trans x2)⟩
theorem Zge(hu:X.A.units+1<cLine)(ha:XE X a fa)(hb:XB X b f)(hm:Zy4 .NotIn b=false:=by rfl):XT X (.Compare a [.NotIn] [b] pos) (HM.tV (HM.Zcb fa f)):=by intro r d h;obtain⟨x,q,kvs,y,h1,h2,h3,h4,e⟩:=Zo8 (Zha h);cases e;refine PT.imp (Zrh (ZrP hu (ha r x h1) (hb r q h2)) hm) λσ H Q ⟨F0,H0,F,at_,k⟩=>?_;refine⟨F0,H0,F,at_,λv F1 H1 x1 r1=>⟨F0,H0,F1,at_.grow x1,λw F2 H2 x2 ⟨fp,r2⟩=>?_⟩⟩;obtain⟨l,vvs,e1,e2,T⟩:=Zka x2.sub r2 h3;obtain⟨bb,rfl,hbb⟩:=ZdQ h4 (r1.mono x2.ff);exact⟨l,_,e1,Zqp e2 (x2.sub _ _ hbb),_,rfl,by rw[T.some_iff]; exact k F2 H2 (x1.trans x2)⟩
theorem ZeE(hu:X.A.units+1<cLine)(ha:XB X a f)(hk:XE X b fb)(hs:ZqD b:=by intro _ _; rfl):XE X (.Subscript a b pos) (HM.Zav f fb):=by
 intro r d h;unfold HM.Zav at h;split at h
 ·rename_i q hq
  split at h
  ·rename_i kvs hd
   split at h
   ·rename_i x hx
    split at h
    ·rename_i y hy
     refine PE.imp (Zpx hu (ha r q hq) (hk r x hx) hs) λσ H Q ⟨F0,H0,F,at_,kk⟩=>?_;refine⟨F0,H0,F,at_,λv F1 H1 x1 ⟨fp,r1⟩=>⟨F0,H0,F1,at_.grow x1,λw F2 H2 x2 r2=>?_⟩⟩;obtain⟨l,vvs,e1,e2,T⟩:=Zka x1.sub r1 hd;have e2':=rdT e2 x2.hh;have T':Za5 X.K F2 kvs vvs:=⟨T.1,T.2.mono x2.ff⟩;obtain⟨bb,rfl,hbb⟩:=ZdQ hy r2;obtain⟨u,q1,q2⟩:=T'.look.1 d h;exact⟨l,u,e1,by rw[<-q1]; exact Zqp e2' (x2.sub _ _ hbb),kk u F2 H2 (x1.trans x2) q2⟩
    ·cases h
   ·cases h
  ·cases h
 ·cases h
structure XAL(X:Cx)(es:List Expr)(f:HM.AF):Prop where
 len:∀r ds,f r=some ds->ds.length=es.length
 pa:∀r ds,f r=some ds->PA X es λσ H Q=>Now X.K r σ H λF0 H0 F=>∀vs F' H',Ext F H F' H'->Zu X.K H' ds vs->Q vs H'
theorem Zak.lent{K:ZxR}{F H:Hp}{q:HM.B}{v:V}{fp:List Addr}{d:PyData}(sub:Zp F H)(r:Zak K F H q v fp)(h:HM.frz q=some d):Rep K H d v:=by
 cases r with
 | pl r=>cases h; exact r.mono sub
 | ol h1 r=>cases h; exact .lst (.of h1) r.1 (r.mono sub).2
 | ok _ _ _=>cases h
 | hd h1 he hk r=>cases h; exact(Rep.dct (.inr ⟨_,h1⟩) he hk r.2).mono sub
 | hf h1=>cases h; exact(Rep.fn h1).mono sub
 | ot h1 hk r=>cases h; exact .dct (.inl h1) rfl hk (r.mono sub).2
 | otl _ _ _ _=>cases h
end
end HP
namespace HP
open PySem PySem.Spec PyProof.Rows L2
variable[FX]
section
variable{X:Cx}{a b c e:Expr}{fa fb fc:HM.EF}{f:HM.BF}{pos p:Pos}{es:List Expr}
theorem Zu2{g:HM.AF}(h:XA X es g):XAL X es g :=
 ⟨h.len,λr ds hd=>PA.imp (h.pa r ds hd) λσ H Q ⟨F0,H0,F,at_,k⟩=>⟨F0,H0,F,at_,λvs F' H' x q=>k vs F' H' x (q.mono x.sub)⟩⟩
theorem Zmz{g:HM.AF}(ha:XE X e fa)(hr:XAL X es g)(hs:Zx6 (e::es) X.env=(false,eval e X.env)::Zx6 es X.env:=by rfl):XAL X (e::es) (HM.Zb fa g):=by
 refine⟨λr ds h=>?_,λr ds h=>?_⟩
 ·unfold HM.Zb at h
  split at h
  ·obtain⟨xs,h1,h2⟩:=ZxT.mp h
   subst h2;rw[Zx8,Zx8,hr.len r xs h1]
  ·cases h
 unfold HM.Zb at h;split at h
 ·rename_i x hx
  obtain⟨xs,h1,h2⟩:=ZxT.mp h;subst h2;refine PA.imp (ZaI (ha r x hx) (hr.pa r xs h1) hs) λσ H Q ⟨F0,H0,F,at_,k⟩=>?_;exact⟨F0,H0,F,at_,λv F1 H1 x1 r1=>⟨F0,H0,F1,at_.grow x1,λvs F2 H2 x2 r2=>k (v::vs) F2 H2 (x1.trans x2) (.cons ((r1.mono x2.ff).mono x2.sub) r2)⟩⟩
 ·cases h
theorem Zsh{g:HM.AF}(ha:XB X e f)(hr:XAL X es g)(hs:Zx6 (e::es) X.env=(false,eval e X.env)::Zx6 es X.env:=by rfl):XAL X (e::es) (HM.Zb (HM.Zqb f) g):=by
 refine⟨λr ds h=>?_,λr ds h=>?_⟩
 ·unfold HM.Zb at h
  split at h
  ·obtain⟨xs,h1,h2⟩:=ZxT.mp h
   subst h2;rw[Zx8,Zx8,hr.len r xs h1]
  ·cases h
 unfold HM.Zb at h;split at h
 ·rename_i x hx
  obtain⟨xs,h1,h2⟩:=ZxT.mp h;subst h2;obtain⟨q,hq,hf⟩:=ZAR.mp hx;refine PA.imp (ZaI (ha r q hq) (hr.pa r xs h1) hs) λσ H Q ⟨F0,H0,F,at_,k⟩=>?_;exact⟨F0,H0,F,at_,λv F1 H1 x1 ⟨fp,r1⟩=>⟨F0,H0,F1,at_.grow x1,λvs F2 H2 x2 r2=>k (v::vs) F2 H2 (x1.trans x2) (.cons ((r1.lent x1.sub hf).monoT x2.hh) r2)⟩⟩
 ·cases h
theorem Rep.flat{K:ZxR}{F F':Hp}{d:PyData}{v:V}(r:Rep K F d v)(h:HM.ZkB d=true):Rep K F' d v:=by
 cases r with
 | non=>exact .non
 | bl b=>exact .bl b
 | int i=>exact .int i
 | str x=>exact .str x
 | tupk _=>cases h
 | tup _ _ _=>cases h
 | lst _ _ _=>cases h
 | dct _ _ _ _=>cases h
 | fn _=>cases h
theorem Ext.forget{F H F'' H'':Hp}(s:Zp F H)(n:NoT F)(x:Ext (ZcL H) H F'' H''):Ext F H F H'' :=
 ⟨Zp.refl F,x.hh,(n.sub s).trans (x.ff.trans x.sub),λ_ _ z=>.inl z,x.tab,id⟩
theorem Zre(hc:X.calm=true):Za7 X (.builtin "max") (λxs H Q=>∃(p:Addr) (ns:List Int),xs=[.ref p]/\SqL X.K H p (ns.map V.int)/\0<ns.length/\∀M,M∈ns->(∀a,a∈ns->a<=M)->Q (.int M) H):=by
 intro pins s σ H xs us Q I r h;obtain⟨p,ns,rfl,hq,hne,q⟩:=h;obtain⟨u,rfl,rx⟩:=vals1 r;cases rx;obtain⟨its,rv,pl,hz⟩:=I.list hq;have hi:=ZdZ rv;obtain⟨xs,e⟩:=hi.allInts.items;have hns:ns=xs.toList.map (·.1):=by rw[<-hi.numsOf,<-nums_intItems,<-e]
 have hsz:0<xs.size:=by have h3:=hne; rw[hns,ZxS,Zyj]at h3; exact h3
 have hl:=pl.isList;rw[e]at hl;refine max_intList (I.ok.hd hc) hl hsz λv h' tk hv hk=>?_;obtain⟨t,rfl⟩:=intItems_at hv;obtain⟨h1,h2⟩:=argBest_gt (numAt xs) (xs.size-1);refine⟨.int _,H,I.kept (t':=tk) hk,⟨t,rfl⟩,q _ ?_ λa ha=>?_⟩
 ·rw[hns,numAt_eq]; exact getD_mem (by rw[ZxS,Zyj]; omega)
 ·rw[hns]at ha
  obtain⟨j,hj,rfl⟩:=mem_getD ha;rw[ZxS,Zyj]at hj;rw[<-numAt_eq]; exact h2 j (by omega)
theorem ZtS(hm:X.mg "max" = none)(hc:X.calm=true)(ha:XB X a f)(hg:Gl X "max":=by rfl)(hs:Zx6 [a] X.env=[(false,eval a X.env)]:=by rfl):XE X (.Call (.Name "max" p) [a] [] pos) (HM.ZkJ f):=by
 intro r d h;unfold HM.ZkJ at h;split at h
 ·rename_i x hx
  split at h
  ·rename_i ds hds
   split at h
   ·rename_i ns hns
    obtain⟨m,h1,h2⟩:=ZxT.mp h;subst h2;refine PE.imp (Zdh (Zre hc) hg hm Zrt (Ze3 ha hx hs) (he:=hs)) λσ H Q ⟨F0,H0,F,at_,k⟩=>?_;refine⟨F0,H0,F,at_,λv fp F1 H1 x1 r1=>?_⟩;obtain⟨l,vs,e1,hq,rs⟩:=Zga x1.sub r1 hds;rw[ZcF hns rs]at hq;obtain⟨m1,m2⟩:=ZCk.mp h1;refine⟨l,ns,by rw[e1],hq,List.length_pos_of_mem m1,λM k1 k2=>?_⟩;have:M=m:=Int.le_antisymm (m2 M k1) (k2 m m1);subst this;exact k _ F1 H1 x1 (.int _)
   ·cases h
  ·cases h
 ·cases h
end
end HP
namespace HP
open PySem PySem.Spec PyProof.Rows L2
variable[FX]
end HP
namespace HP
open PySem PySem.Spec PyProof.Rows L2
variable[FX]
section
variable{X:Cx}{a b c e:Expr}{fa fb fc:HM.EF}{f:HM.BF}{pos p:Pos}{es:List Expr}
theorem ZqS(i:Nat){x:Str}{p1 p2 p3:Pos}(ha:XB X a f)(hN:X.N[i]?=some x:=by rfl)(hv:Vis X.env.scope x:=by first | exact ZyP rfl | exact Zyx (ZyP rfl) | exact Zyx (Zyx rfl))(hd:(x==("__debug__":Str))=false:=by decide)(hcd:(x==("__classdict__":Str))=false:=by decide)
  (hbase:ZAk (.Name x p1) "extend" X.env (eval (.Name x p1) X.env)=eval (.Name x p1) X.env:=by rfl)
  (hfew:((backTo p3 (Zx6 [a] X.env)).all (λx=>!x.1)&&(backToKw p3 (ZBr [] X.env)).all (λx=>x.1.isSome)&&decide (([a]:List Expr).length+([]:List Keyword).length+(if([]:List Keyword).isEmpty then 0 else 1)<30))=true:=by rfl)
  (hline:(p2.endLine==p3.line)=true:=by rfl) (hs:Zx6 [a] X.env=[(false,eval a X.env)]:=by rfl):XS X (.Expr (.Call (.Attribute (.Name x p1) "extend" p2) [a] [] p3) pos) (HM.Zi9 i f):=by
 intro r o h;unfold HM.Zi9 at h;split at h
 ·rename_i ds hds
  split at h
  ·rename_i es hes
   split at h
   ·rename_i hz
    cases h;refine PS.imp (Zi1 (Zp9 ZAh PySem.F.slot_list_extend PySem.F.type_list_extend Zr5 (ZcC hN hv hd hcd) (ZaI (ha r _ hes) Zb3 hs) hbase hfew hline hs rfl)) λE σ H ⟨F0,H0,F,at_,k⟩=>?_;obtain⟨l,vs,e1,e2,e3,_⟩:=at_.chgList (es:=ds) hds;refine⟨.ref l,e1,.inl ⟨rfl,_,SqL.of e2⟩,F0,H0,F,at_,λv F1 H1 x1 ⟨fp,r1⟩=>?_⟩;have at1:=at_.grow x1;obtain⟨l',vs',f1,f2,f3,f4⟩:=at1.chgList (es:=ds++es) hds;rw[e1]at f1;cases f1;cases r1 with
    | @ol b _ us hb rs =>
     refine⟨_,b,vs',us,rfl,rfl,f2,hb,?_,k _ F1 _ (f4 _ (f3.append rs))⟩;have e4:=f3.1;have e6:=rs.1;have e5:(1000000:Nat)<=sizeLine:=by decide
     unfold HM.big at hz;omega
   ·cases h
  ·cases h
 ·cases h
theorem Zu3(i j:Nat){x y:Str}{p1 p2 p3 p4:Pos}(hN:X.N.Nodup)(hNi:X.N[i]?=some x:=by rfl)(hNj:X.N[j]?=some y:=by rfl)(hx:Loc X.env.scope x:=by first | exact ZyP rfl | exact Zyx rfl)(hv:Vis X.env.scope y:=by first | exact ZyP rfl | exact Zyx (ZyP rfl) | exact Zyx (Zyx rfl))(hd:(y==("__debug__":Str))=false:=by decide)(hcd:(y==("__classdict__":Str))=false:=by decide)
  (hbase:ZAk (.Name y p1) "pop" X.env (eval (.Name y p1) X.env)=eval (.Name y p1) X.env:=by rfl) (hline:(p2.endLine==p3.line)=true:=by rfl)
  (hs:Zz6 (.Call (.Attribute (.Name y p1) "pop" p2) [] [] p3) (some (.Name x p4)) pos.line X.env=pure false:=by rfl) (hf:X.fn x=true\/X.env.scope.names.lookup x=some .local:=by first | exact .inl rfl | exact .inr rfl) :
  XS X (.Assign [.Name x p4] (.Call (.Attribute (.Name y p1) "pop" p2) [] [] p3) pos) (HM.Zth i j):=by
 intro r o h;unfold HM.Zth at h;split at h
 ·rename_i ds hds
  split at h
  ·rename_i d hd'
   cases h;refine PS.imp (Znu hN hNi hx (Zwi ZAh PySem.F.slot_list_pop PySem.F.type_list_pop Zvg (ZcC hNj hv hd hcd) hbase hline) hs hf) λE σ H ⟨F0,H0,F,at_,k⟩=>?_;obtain⟨l,vs,e1,e2,e3,e4⟩:=at_.chgList (es:=ds.dropLast) hds;obtain⟨v,q1,q2⟩:=e3.get hd';refine⟨.ref l,e1,.inl ⟨rfl,_,SqL.of e2⟩,l,vs,v,rfl,rfl,e2,by rw[<-e3.1]; exact q1,k _ F _ ((e4 _ ?_).set q2)⟩;rw[ZCl,ZCl,<-e3.1];exact e3.take _
  ·cases h
 ·cases h
def spF(K:ZxR)(n:Nat)(M:List PyData->Option PyData):Sp:=λvs H Q _=>∃F ds ys,vs.length=n/\Zp F H/\Tb H/\NoT F/\Zu K F ds vs/\M ds=some (.list ys)/\∀l us F' H',Ext F H F' H'->H' l=some (.lst us)->Zu K F' ys us->F' l=none->H l=none->Q (.ref l) H'
structure ZdX(P:Program)(w:World)(K:ZxR)(mg:Str->Option Value)(base:Heap)(k:Nat)(x:Str)(M:List PyData->Option PyData):Prop where
 ex:∃f fd ps,(∀ds d,M ds=some d->ds.length=ps.length)/\Zde P w K mg base CX0 k f fd ps (spF K ps.length M)/\mg x=some (.ref f)/\Zzd K (.ref f)=true/\Binds K fd ps []
theorem ZdX.mono{P:Program}{w:World}{K:ZxR}{mg:Str->Option Value}{base:Heap}{j k:Nat}{x:Str}{M:List PyData->Option PyData}(C:ZdX P w K mg base j x M)(h:j<=k):ZdX P w K mg base k x M:=by obtain⟨f,fd,ps,l,F,r⟩:=C.ex;exact⟨f,fd,ps,l,F.mono h,r⟩
theorem Zsi{k:Nat}{x:Str}{g:HM.AF}{M:List PyData->Option PyData}(C:ZdX X.prog X.w X.K X.mg X.base k x M)(hr:Zaq k X.A)(ha:XA X (e::es) g)(hg:Gl X x:=by rfl)(hdb:(x==("__debug__":Str))=false:=by decide)
  (he:Zx6 (e::es) X.env=(false,eval e X.env)::Zx6 es X.env:=by rfl) (hpl:(backTo pos (Zx6 es X.env)).any (·.1)=false:=by rfl):XF X (.Call (.Name x p) (e::es) [] pos) (HM.ZiQ M g):=by
 intro r d hd;unfold HM.ZiQ at hd;split at hd
 ·rename_i ds hds
  split at hd
  ·rename_i ys hM
   cases hd;obtain⟨fa,fd,ps,hl,F,hm,hk,hb⟩:=C.ex;refine PE.imp (Zk4 (E:=E0) F hr hg hm hk hb .nil Zqd (ha.pa r ds hds) hdb he hpl) λσ H Q ⟨F0,H0,F1,at_,k⟩=>?_;refine⟨F0,H0,F1,at_,λvs F' H' x q=>?_⟩;show spF X.K ps.length M (vs++[]) H' Q E0;rw[Zyu];refine⟨F',ds,ys,by rw[<-q.1]; exact hl ds _ hM,x.sub,at_.tbx x,at_.ntx x,q,hM,λl us F2 H2 x2 h1 h2 h3 h4=>k _ F2 H2 (x.trans x2) ⟨[l],.ol h1 h2,by simp,λa ha=>?_⟩⟩;obtain rfl:a=l:=by simpa using ha
   exact⟨h3,x.hh.free h4⟩
  ·cases hd
 ·cases hd
theorem Zqh{P:Program}{w:World}{K:ZxR}{mg:Str->Option Value}{base:Heap}{k:Nat}{x qual:Str}{st:Stmt}{f:Addr}{fd:FuncData}{N ps:List Str}{e:Expr}{g:HM.BF}{p1:Pos}(Fn:Fun K x qual st f fd)(S:Zs N ps (Zf st))(hm:mg x=some (.ref f))(hb:Binds K fd ps [])
  (hst:Za2 st=[.Return (some e) p1]) (hol:∀r b,g r=some b->∃ys,b=.ol ys)
  (body:∀(cdv:Value) (A:Around) (outer:List Env) (s:Shared) (H:Hp) (E:XK),Zaq k (A.deeper (envOfC qual (Zf st) s.heap.objs.size f cdv))->XF (Zf4 CX0 P w K mg base N qual (Zf st) f cdv A outer s H E).nox e g) :
  ZdX P w K mg base (k+1) x (HM.fnOf ps.length N.length (HM.ZC (HM.eOf g))):=by
 have hpl:ps.length<=N.length:=by have:=congrArg ZyB S.pre; rw[Zzp]at this; omega
 refine⟨f,fd,ps,λds d h=>?_,Fn.ok S (λvs H Q E h=>?_) (λcdv A outer s H vs Q E hr h=>?_),hm,Fn.kp,hb⟩
 ·unfold HM.fnOf at h
  split at h
  ·assumption
  ·cases h
 ·obtain⟨_,_,_,h,_⟩:=h
  exact h
 ·obtain⟨F,ds,ys,hl,sub,tb,nt,q,hM,kk⟩:=h
  unfold HM.fnOf at hM;split at hM
  ·rename_i hds
   have a0:=ZfY (N:=N) sub tb nt q (by omega);have hg:g (HM.ZeD N.length ds)=some (.ol ys):=by
    split at hM
    ·rename_i r hr'
     cases hq:HM.eOf g (HM.ZeD N.length ds)with
     | none=>unfold HM.ZC at hr'; rw[hq]at hr'; cases hr'
     | some d=>unfold HM.ZC at hr'; rw[hq]at hr'; cases hr'
    ·rename_i d' hr'
     cases hM;obtain⟨d,h1,h2⟩:=ZxT.mp hr';cases h2;obtain⟨b,h3,h4⟩:=ZAR.mp h1;obtain⟨zs,rfl⟩:=hol _ _ h3;cases h4;exact h3
    ·cases hM
   rw[hst];refine⟨_,ZpB (Zom (body cdv A outer s H E hr _ _ hg)),F,H,F,a0,λv F' H' x ⟨fp,r1,nd,hn⟩=>?_⟩;cases r1 with
   | @ol l _ us h1 h2=>exact kk l us F' H' x h1 h2 (hn l (by simp)).1 (hn l (by simp)).2
  ·cases hM
theorem Zs1(i:HM.IF)(c:HM.TF)(e:HM.EF)(r:HM.Env)(b:HM.B)(h:HM.ZR i c e r=some b):∃ys,b=.ol ys:=by
 unfold HM.ZR at h;split at h
 ·split at h
  ·obtain⟨ys,_,h2⟩:=ZxT.mp h
   exact⟨ys,h2.symm⟩
  ·cases h
 ·cases h
end
end HP
namespace HP
open PySem PySem.Spec PyProof.Rows L2
variable[FX]
section
variable{K:ZxR}{F H F0 H0 G:Hp}{a b:Addr}{ob u:HO}{vvs:List (List Key × V)}{d:PyData}{v:V}{ds:List PyData}{vs:List V}{r:HM.Env}{σ:L2.St}{i:Nat}{es:List (PyData × PyData)}
theorem Zbf(h:b≠a):sw a ob G b=G b:=by unfold sw; rw[if_neg h]
theorem Zfr:sw a ob G a=(G a).map λ_=>ob:=by unfold sw; rw[if_pos rfl]
theorem Zpg(s:Zp F H):Zp (sw a ob F) (sw a ob H):=λb o z=>by
 by_cases hb:b=a
 ·subst hb
  rw[Zfr]at z ⊢;obtain⟨x,h1,h2⟩:=ZxT.mp z;rw[s _ _ h1,<-h2]; rfl
 ·rw[Zbf hb]at z ⊢; exact s b o z
theorem ZtM(hG:∀u,G a=some u->u=.dT vvs):sw a (.dT vvs) (sw a ob G)=G:=by
 funext b
 by_cases hb:b=a
 ·subst hb
  rw[Zfr,Zfr];cases h:G b with
  | none=>rfl
  | some u=>rw[hG u h]; rfl
 ·rw[Zbf hb,Zbf hb]
theorem Dk.nt(h:Dk vvs u):(∀xs,u≠.tup xs)/\(∀xs,u≠.lst xs)/\(∀o xs,u≠.frz o (.lst xs))/\(∀ps,u≠.tbl ps)/\(∀x,u≠.own x):=by rcases h with h | ⟨o,h⟩<;>subst h<;>exact⟨λ_ z=>(by cases z),λ_ z=>(by cases z),λ_ _ z=>(by cases z),λ_ z=>(by cases z),λ_ z=>(by cases z)⟩
theorem Rep.sw(hF:∀u,F a=some u->Dk vvs u)(hob:Dk vvs ob)(r:Rep K F d v):Rep K (HP.sw a ob F) d v:=by
 induction r with
 | non=>exact .non
 | bl b=>exact .bl b
 | int i=>exact .int i
 | str x=>exact .str x
 | fn h=>exact .fn (FX.sw hF hob h)
 | tupk h=>exact .tupk h
 | @tup b ds vs h hl _ ih=>exact .tup (by rw[Zbf (λz=>(hF _ (z▸h)).nt.1 _ rfl)]; exact h) hl ih
 | @lst b ds vs h hl _ ih =>
  refine .lst ?_ hl ih;rcases h with h | h
  ·refine .inl ?_
   have hb:b≠a:=λz=>by
    rcases h with h | ⟨o,h⟩
    ·exact(hF _ (z▸h)).nt.2.1 _ rfl
    ·exact(hF _ (z▸h)).nt.2.2.1 _ _ rfl
   unfold Rd;rw[Zbf hb];exact h
  ·exact .inr h
 | @dct b es kvs vvs' h he hk _ ih =>
  refine .dct ?_ he hk ih
  by_cases hb:b=a
  ·subst hb
   have:vvs'=vvs/\∃u,F b=some u:=by
    rcases h with h | ⟨o,h⟩
    ·rcases hF _ h with z | ⟨o',z⟩
     ·cases z; exact⟨rfl,_,h⟩
     ·cases z
    ·rcases hF _ h with z | ⟨o',z⟩
     ·cases z
     ·cases z; exact⟨rfl,_,h⟩
   obtain⟨rfl,u,hu⟩:=this;unfold Rd;rw[Zfr,hu];rcases hob with z | ⟨o,z⟩
   ·subst z; exact .inl rfl
   ·subst z; exact .inr ⟨o,rfl⟩
  ·unfold Rd
   rw[Zbf hb];exact h
theorem Zu.sw(hF:∀u,F a=some u->Dk vvs u)(hob:Dk vvs ob)(r:Zu K F ds vs):Zu K (HP.sw a ob F) ds vs:=⟨r.1,λi d v h1 h2=>(r.2 i d v h1 h2).sw hF hob⟩
theorem Ext.sw(x:Ext F0 H0 F H)(hH:∀u,H a=some u->Dk vvs u)(hob:Dk vvs ob):Ext (HP.sw a ob F0) (HP.sw a ob H0) (HP.sw a ob F) (HP.sw a ob H) :=
 ⟨Zpg x.ff,x.hh.sw,Zpg x.sub,λb o z=>by
  by_cases hb:b=a
  ·subst hb
   rw[Zfr]at z;obtain⟨u,h1,h2⟩:=ZxT.mp z;rcases x.new b u h1 with q | q | ⟨xs,e,q⟩
   ·exact .inl (by rw[Zfr,q,<-h2]; rfl)
   ·exact .inr (.inl (by rw[Zfr,q]; rfl))
   ·exact absurd e ((hH _ (x.sub _ _ h1)).nt.1 xs)
  ·rw[Zbf hb]at z
   rcases x.new b o z with q | q
   ·exact .inl (by rw[Zbf hb]; exact q)
   ·refine .inr ?_
    unfold Fre;rw[Zbf hb];exact q,λt=>(x.tab (t.unsw hob)).sw hH,λt b o z=>by
  unfold HP.sw at z;split at z
  ·obtain⟨u,_,e⟩:=ZxT.mp z
   subst e; exact hob.ntt
  ·rename_i hb
   refine x.nts (λc u y=>?_) b o z
   by_cases hc:c=a
   ·subst hc; exact(hH _ (x.sub _ _ (x.ff _ _ y))).ntt
   ·exact t c u (by rw[Zbf hc]; exact y)⟩
theorem At.sw(e:At K F0 H0 F H r σ)(hFa:F a=some u)(hu:Dk vvs u)(hob:Dk vvs ob)(nh:∀(i:Nat) (es:List (PyData × PyData)),r[i]?≠some (some (HM.B.hd es))):At K (HP.sw a ob F0) (HP.sw a ob H0) (HP.sw a ob F) (HP.sw a ob H) r σ:=by
 obtain⟨fp,e⟩:=e;have hF:∀u,F a=some u->Dk vvs u:=λu' h=>by rw[hFa]at h; cases h; exact hu
 have hH:∀u,H a=some u->Dk vvs u:=λu' h=>by rw[e.sub _ _ hFa]at h; cases h; exact hu
 have own:∀i,∀c∈fp i,c≠a:=λi c hc z=>by rw[<-z,(e.own i c hc).1]at hFa; cases hFa
 refine⟨fp,e.ext.sw hH hob,e.len,λi b h=>?_,e.emp,λi b h=>?_,e.nd,e.dis,e.tb.sw (vvs:=vvs) (λu' z=>by have q:=e.ext.hh.back z (e.sub _ _ hFa) hu.nt.2.2.2.1;rw[q]; exact hu),λb o z=>?_⟩
 rotate_left 2
 ·unfold HP.sw at z
  split at z
  ·obtain⟨u,_,e⟩:=ZxT.mp z
   subst e; exact hob.ntt
  ·exact e.nt b o z
 ·obtain⟨v,h1,h2⟩:=e.at_ i b h
  refine⟨v,h1,?_⟩;have own:=own i;generalize fp i=f at h2 own;cases h2 with
  | pl q=>exact .pl (q.sw hF hob)
  | ol k q=>exact .ol (by rw[Zbf (own _ (by simp))]; exact k) (q.sw hF hob)
  | ok k hk q=>exact .ok (by rw[Zbf (own _ (by simp))]; exact k) hk (q.sw hF hob)
  | ot k hk q=>exact .ot (by rw[Zbf (own _ (by simp))]; exact k) hk (q.sw hF hob)
  | otl k hk hv q=>refine .otl (by rw[Zbf (own _ (by simp))]; exact k) hk hv λi ds l h1 h2=>?_;obtain⟨vs,q1,q2⟩:=q i ds l h1 h2;exact⟨vs,by rw[Zbf (own l (ZxW _ (Zym h2)))]; exact q1,q2.sw hF hob⟩
  | hd _ _ _ _=>exact absurd h (nh _ _)
  | hf _=>exact absurd h (nh _ _)
 ·rw[Zbf (own i b h),Zbf (own i b h)]
  exact e.own i b h
theorem set_same{x:Option V}(h:σ[i]?=some x):σ.set i x=σ:=by obtain⟨h1,h2⟩:=Zx4.mp h;rw[<-h2];exact ZAr h1
theorem At.say{b':HM.B}(e:At K F0 H0 F H r σ)(h1:σ[i]?=some (some v))(q:Zak K F H b' v []):At K F0 H0 F H (r.set i (some b')) σ:=by
 have:=e.store (i:=i) q ZzE (λa h=>by simp at h) λ_ _ _ _ _ _ h=>by simp at h
 rwa [set_same h1]at this
theorem At.loosen(e:At K F0 H0 F H r σ)(h:r[i]?=some (some (.hd es))):At K F0 H0 F H (r.set i (some (.pl (.dict es)))) σ:=by
 obtain⟨v,fp,h1,h2⟩:=e.any h;cases h2 with
 | hd k1 k2 k3 k4=>exact e.say h1 (.pl (.dct (.inr ⟨_,k1⟩) k2 k3 k4.2))
 | hf k1=>exact e.say h1 (.pl (.fn k1))
theorem ZtN(h:r.all (λq=>!HM.Zbr q)=true)(i:Nat)(es:List (PyData × PyData)):r[i]?≠some (some (.hd es)):=λz=>by have:=Zx0.mp h _ (Zym z);cases this
theorem Zrb{b':HM.B}(h:(r.set i none).all (λq=>!HM.Zbr q)=true)(hb:∀es,b'≠.hd es)(j:Nat)(es:List (PyData × PyData)):(r.set i (some b'))[j]?≠some (some (.hd es)):=λz=>by
 by_cases hj:i=j
 ·subst hj
  by_cases hi:i<r.length
  ·rw[ZyF hi]at z
   injection z with z
   injection z with z
   exact hb _ z
  ·rw[ZCf (by rw[Zy1]; omega)]at z
   cases z
 ·rw[Zyo hj]at z
  exact ZtN h j es (by rw[Zyo hj]; exact z)
end
section
variable{X:Cx}{pins:List (Addr × Obj)}{σ:L2.St}{H:Hp}{s:Shared}{a:Addr}{u ob:HO}{vvs:List (List Key × V)}
theorem Zmr{h:Heap}{o:HO}{b:Addr}(ha:H a=some u)(hu:Dk vvs u)(x:Zab X.prog X.w H h b o):Zab X.prog X.w (sw a ob H) h b o :=
 x.stay (λ_ _ _ q=>q) (λc q=>by rw[Zbf (λz=>by rw[z,ha]at q; cases q; exact hu.nt.2.2.2.2 _ rfl)]; exact q) λc xs q=>by rw[Zbf (λz=>by rw[z,ha]at q; cases q; exact hu.nt.1 _ rfl)]; exact q
theorem Zop(I:Inv X pins σ H s)(ha:H a=some u)(hu:Dk vvs u)(ok:Zab X.prog X.w (sw a ob H) s.heap a ob)(hn:∀o w,X.H₀ a≠some (.frz o w)):Inv X pins σ (HP.sw a ob H) s:=by
 have none':∀b,H b=none->HP.sw a ob H b=none:=λb h=>by rw[Zbf (λz=>by rw[z,ha]at h; cases h)]; exact h
 refine⟨I.ok,I.os,I.bare,⟨I.base.keep,I.base.slot,λb o h1 h2 h3=>none' b (I.base.free b o h1 h2 h3),I.base.there,λb xs h=>?_,λb o w h=>?_,λb ps h=>?_⟩,I.loc,I.cell,none' _ I.free,λx c h=>none' _ (I.freeC x c h),λp hp=>?_,λb o h=>?_,I.len⟩
 ·have q:=I.base.tups b xs h
  rw[Zbf (λz=>by rw[z,ha]at q; cases q; exact hu.nt.1 _ rfl)];exact q
 ·have q:=I.base.frzs b o w h
  rw[Zbf (λz=>hn o w (by rw[<-z]; exact h))];exact q
 ·obtain⟨m,q⟩:=I.base.tbls b ps h
  exact⟨m,by rw[Zbf (λz=>by rw[z,ha]at q; cases q; exact hu.nt.2.2.2.1 _ rfl)]; exact q⟩
 ·have q:=I.pin p hp
  exact⟨q.1,none' _ q.2.1,q.2.2⟩
 ·by_cases hb:b=a
  ·subst hb
   rw[Zfr,ha]at h;cases h;exact ok
  ·rw[Zbf hb]at h
   exact Zmr ha hu (I.hok b o h)
theorem ZgT(i:Nat){st:Stmt}{g:HM.SF}(h:XS X st g):XS X st (HM.ZeA i g):=by
 intro r o ho;unfold HM.ZeA at ho;split at ho
 case h_2=>exact h r o ho
 rename_i es hr;split at ho
 case isFalse=>cases ho
 rename_i hall;have nh:=ZtN hall;intro pins s σ H E I ⟨F0,H0,F,at_,k⟩;obtain⟨v,h1,h2⟩:=at_.plain hr;cases h2 with
 | @dct a _ kvs vvs hd he hk hrr =>
  have rs:∀{F':Hp},Zp F F'->Zu X.K F' (kvs.map (·.2)) (vvs.map (·.2)):=λs=>by refine Zu.mono ⟨?_,hrr⟩ s;have:=congrArg ZyB hk;rw[ZxS,ZxS]at this ⊢;exact this
  rcases hd with hd | ⟨q,hd⟩
  ·have hHa:=at_.sub _ _ hd
   obtain⟨z,y,xs,rl,q,es1,ep,e1,c1⟩:=(show Zab X.prog X.w H s.heap a (.dT vvs) from I.hok a _ hHa);have hn:∀o w,X.H₀ a≠some (.frz o w):=λo w z=>by have:=I.base.frzs _ _ _ z;rw[hHa]at this; cases this
   have I1:=Zop (ob:=.frz q (.dT vvs)) I hHa (.inl rfl) ⟨e1,Zmr hHa (.inl rfl) ⟨z,y,xs,rl,q,es1,ep,e1,c1⟩⟩ hn;have at1:=at_.sw (ob:=.frz q (.dT vvs)) hd (.inl rfl) (.inr ⟨q,rfl⟩) nh;have Ra:HP.sw a (.frz q (.dT vvs)) F a=some (.frz q (.dT vvs)):=by rw[Zfr,hd]; rfl
   have hFd:∀u,F a=some u->Dk vvs u:=λu z=>by rw[hd]at z; cases z; exact .inl rfl
   have at2:=(at1.say (i:=i) h1 (.hd Ra he hk (Zu.sw hFd (.inr ⟨q,rfl⟩) (rs (Zp.refl F))))).rebase;have e0:HP.sw a (.dT vvs) (HP.sw a (.frz q (.dT vvs)) F0)=F0:=ZtM λu z=>by have:=at_.ext.ff _ _ z;rw[hd]at this; cases this; rfl
   have e1:HP.sw a (.dT vvs) (HP.sw a (.frz q (.dT vvs)) H0)=H0:=ZtM λu z=>by exact at_.ext.hh.back z hHa λ_ w=>by cases w
   split at ho
   ·rename_i r' hg
    split at ho
    case h_2=>cases ho
    rename_i es' hr';split at ho
    case isFalse=>cases ho
    rename_i hall';cases ho;refine thn (h _ _ hg pins s σ _ { nx:=λσ' H'=>∃F',At X.K (HP.sw a (.frz q (.dT vvs)) F) (HP.sw a (.frz q (.dT vvs)) H0) F' H' r' σ',rt:=λ_ _=>False,bk:=λ_ _=>False,ct:=λ_ _=>False } I1 ⟨_,_,_,at2,λσ' F' H' a'=>⟨F',a'⟩⟩) λfl s' z=>?_;cases fl with
    | next=>obtain⟨σ',H',I',F',a'⟩:=z;have Fa:=a'.ext.ff _ _ Ra;have Ha:=a'.sub _ _ Fa;have a3:=((At.unbase at1.ext (at1.nt0) a').loosen hr').sw (ob:=.dT vvs) Fa (.inr ⟨q,rfl⟩) (.inl rfl) (Zrb hall' λ_ z=>by cases z);rw[e0,e1]at a3;exact⟨σ',_,Zop I' Ha (.inr ⟨q,rfl⟩) (Zmr Ha (.inr ⟨q,rfl⟩) (Zkt I'.hok (.inr ⟨q,Ha⟩))) hn,k σ' _ _ a3⟩
    | brk=>obtain⟨_,_,_,z⟩:=z; exact z.elim
    | cont=>obtain⟨_,_,_,z⟩:=z; exact z.elim
    | ret u=>obtain⟨_,_,_,_,_,z⟩:=z; exact z.elim
   ·rename_i d hg
    cases ho;refine thn (h _ _ hg pins s σ _ { nx:=λ_ _=>False,bk:=λ_ _=>False,ct:=λ_ _=>False,rt:=λv' H'=>∃F',Ext (HP.sw a (.frz q (.dT vvs)) F) (HP.sw a (.frz q (.dT vvs)) H0) F' H'/\Rep X.K F' d v' } I1 ⟨_,_,_,at2,λv' F' H' x q=>⟨F',x,q⟩⟩) λfl s' z=>?_;cases fl with
    | ret u=>obtain⟨v',σ',H',I',rv,F',x',r'⟩:=z;have Fa:=x'.ff _ _ Ra;have Ha:=x'.sub _ _ Fa;have x3:=(Ext.unbase at1.ext x').sw (a:=a) (vvs:=vvs) (ob:=.dT vvs) (λu z=>by rw[Ha]at z; cases z; exact .inr ⟨q,rfl⟩) (.inl rfl);rw[e0,e1]at x3;exact⟨v',σ',_,Zop I' Ha (.inr ⟨q,rfl⟩) (Zmr Ha (.inr ⟨q,rfl⟩) (Zkt I'.hok (.inr ⟨q,Ha⟩))) hn,rv,k v' _ _ x3 (r'.sw (λu z=>by rw[Fa]at z; cases z; exact .inr ⟨q,rfl⟩) (.inl rfl))⟩
    | next=>obtain⟨_,_,_,z⟩:=z; exact z.elim
    | brk=>obtain⟨_,_,_,z⟩:=z; exact z.elim
    | cont=>obtain⟨_,_,_,z⟩:=z; exact z.elim
   ·cases ho
  ·have at2:=at_.say (i:=i) h1 (.hd hd he hk (rs (Zp.refl F)))
   split at ho
   ·rename_i r' hg
    split at ho
    case h_2=>cases ho
    rename_i es' hr';split at ho
    case isFalse=>cases ho
    cases ho;exact h _ _ hg pins s σ H E I ⟨F0,H0,F,at2,λσ' F' H' a'=>k σ' F' H' (a'.loosen hr')⟩
   ·rename_i d hg
    cases ho;exact h _ _ hg pins s σ H E I ⟨F0,H0,F,at2,k⟩
   ·cases ho
 | fn hv =>
  have at2:=at_.say (i:=i) h1 (.hf hv);split at ho
  ·rename_i r' hg
   split at ho
   case h_2=>cases ho
   rename_i es' hr';split at ho
   case isFalse=>cases ho
   cases ho;exact h _ _ hg pins s σ H E I ⟨F0,H0,F,at2,λσ' F' H' a'=>k σ' F' H' (a'.loosen hr')⟩
  ·rename_i d hg
   cases ho;exact h _ _ hg pins s σ H E I ⟨F0,H0,F,at2,k⟩
  ·cases ho
def Itd(a:Addr)(o:Obj):It :=
 ⟨λi H=>∃vvs q,H a=some (.frz o (.dT vvs))/\vvs[i]?=some q,λi H x H'=>H'=H/\∀vvs,H a=some (.frz o (.dT vvs))->∃q b,vvs[i]?=some q/\x=.ref b/\H b=some (.tup (q.1.map kV)),λi H=>∃vvs,H a=some (.frz o (.dT vvs))/\vvs.length<=i⟩
theorem Zp7{α β:Type}{R:α->β->Prop}{l:List α}{m:List β}(r:Paired R l m):∀{i:Nat} {x:α},l[i]?=some x->∃y,m[i]?=some y/\R x y:=by
 induction r with
 | nil=>intro i x e; simp at e
 | @cons p q _ _ hq _ ih =>
  intro i x e;cases i with
  | zero=>rw[ZAg]at e; cases e; exact⟨q,rfl,hq⟩
  | succ i=>rw[Zyw]at e ⊢; exact ih e
theorem Zry{P:Program}{w:World}{K:ZxR}{tg:Expr}(a it:Addr)(o:Obj)(es:Array DictEntry)(ep:Nat)(hd:o.data=.dict es ep):Turn P w K tg (Itd a o) [it] it (λi h=>h.IsKeyIter it a i es.size ep) where
 mem:=by simp
 obj:=λi h st b hb=>by
  have e:b=it:=by simpa using hb
  subst e;obtain⟨o,e,c,d⟩:=st;exact⟨o,e,λv z=>by rw[d]at z; cases z⟩
 keep:=λi h h' st k=>st.at λo e=>k it (by simp) o e
 item:=by
  intro X hP hw hK hc i pins s σ H E I hf st hg;subst hP hw hK;obtain⟨vvs,q,hH,hq⟩:=hg;obtain⟨h1,z,lo,xs,rel,o2,es2,ep2,h2,h3,h4,h5,h6⟩:=(show Zab X.prog X.w H s.heap a (.frz o (.dT vvs)) from I.hok a _ hH);rw[h1]at h2;cases h2;rw[hd]at h4;cases h4;obtain⟨f0,f1,f2,f3,f4,f5⟩:=hf it (by simp);obtain⟨p,hp,hr1,hr2,_⟩:=Zp7 rel hq;have he:es[i]?=some (entryOfKey (ZA9 (ZaN X.prog X.w)) p):=by rw[<-ZyJ,h5,Zyk,hp]; rfl
  refine Znk st ⟨o,h1,h3,hd⟩ he λh' st' sb=>?_;have I1:Inv X pins σ H { s with heap:=h' }:=I.turned (t':=s.toks) (λb o hb e=>(sb.2 b hb).trans e) f0 f1 f3 f4 f5;obtain⟨oi,e,c,d⟩:=id st';refine⟨_,rfl,Zmq (s:={ s with heap:=h' }) e c d (by decide) ⟨.ref p.2.1,H,I1,rfl,⟨rfl,λvv hv=>?_⟩,st',λb hb=>(hf b hb).1⟩⟩;rw[hH]at hv;cases hv;exact⟨q,p.2.1,hq,rfl,hr2⟩
 done:=by
  intro X hP hw hK hc i pins s σ H E I hf st hg;subst hP hw hK;obtain⟨vvs,hH,hq⟩:=hg;obtain⟨h1,z,lo,xs,rel,o2,es2,ep2,h2,h3,h4,h5,h6⟩:=(show Zab X.prog X.w H s.heap a (.frz o (.dT vvs)) from I.hok a _ hH);rw[h1]at h2;cases h2;rw[hd]at h4;cases h4;obtain⟨f0,f1,f2,f3,f4,f5⟩:=hf it (by simp);have hl:vvs.length=xs.length:=ZAj rel;have hes:es.size=xs.length:=by rw[<-Zyj,h5,ZxS]
  exact Zpn (I.ok.hd hc) st ⟨o,h1,h3,hd⟩ (by omega) λh' eb=>⟨rfl,I.turned (t':=s.toks) (λb o hb e=>eb b o hb e) f0 f1 f3 f4 f5⟩
 self:=λ_ _ _ _ _ st h=>wpAny_pyIter_keyiter st h
theorem Zuc{tg l:Expr}{tl:TE}(hl:PE X l tl):PI X tg l (λσ H R=>tl σ H λx H1=>∃a o vvs,x=.ref a/\H1 a=some (.frz o (.dT vvs))/\R (Itd a o) H1):=by
 intro pins s σ H R I h;refine thn (hl pins s σ H _ I h) λv s1 ⟨x,H1,I1,r1,a,o,vvs,e,hH,q⟩=>?_;subst e;cases r1;obtain⟨h1,z,lo,xs,rel,o2,es,ep,h2,h3,h4,h5,h6⟩:=(show Zab X.prog X.w H1 s1.heap a (.frz o (.dT vvs)) from I1.hok a _ hH);rw[h1]at h2;cases h2;refine Zn4 lo ⟨o,h1,h3,h4⟩ ⟨s1.heap.objs.size,[s1.heap.objs.size],_,_,H1,rfl,I1.kept (t':=s1.toks) λb o e=>ZxX _ e,Zry a _ o es ep h4,⟨_,Zx9 _ rfl,rfl,rfl⟩,λb hb=>?_,q⟩;obtain rfl:b=s1.heap.objs.size:=by simpa using hb
 exact I1.fpOk (Zx2 _) (I1.hok.fresh (Zx2 _))
theorem Ztx{K:ZxR}{F:Hp}{a:Addr}{o:Obj}{kvs:List (List Key × PyData)}{vvs:List (List Key × V)}(h:F a=some (.frz o (.dT vvs)))(hk:kvs.map (·.1)=vvs.map (·.1)):ItD K (Itd a o) (kvs.map λp=>.tuple (p.1.map HM.ZaL)) F:=by
 intro F' H s1 s2;have hH:=s2 _ _ (s1 _ _ h);have hl:kvs.length=vvs.length:=by
  have:=congrArg ZyB hk
  rwa [ZxS,ZxS]at this
 refine⟨λi d hd=>?_,vvs,hH,by rw[ZxS,hl]; exact Zx2 _⟩;rw[Zyk]at hd;obtain⟨q,hq,hd⟩:=ZxT.mp hd;subst hd;have hi:i<vvs.length:=by rw[<-hl]; exact(Zx4.mp hq).1
 have hw:vvs[i]?=some vvs[i]:=Zx5 hi;have hw1:vvs[i].1=q.1:=by
  have:(kvs.map (·.1))[i]?=(vvs.map (·.1))[i]?:=by rw[hk]
  rw[Zyk,Zyk,hq,hw]at this;exact(ZyK this).symm
 refine⟨⟨vvs,_,hH,hw⟩,λx H' hy=>?_⟩;obtain⟨e,y⟩:=hy;refine⟨e,?_⟩;obtain⟨q',b,e1,e2,e3⟩:=y vvs hH;rw[hw]at e1;cases e1;subst e2;rw[hw1]at e3;have rk:=Zgm (K:=K) (F:=ZcD F' H) q.1;exact .tup (Zni e3) rk.1 rk.2
theorem ZgU(i:Nat){tg:Expr}{x:Str}{pos:Pos}(hN:X.N[i]?=some x:=by rfl)(hv:Vis X.env.scope x:=by first | exact ZyP rfl | exact Zyx (ZyP rfl) | exact Zyx (Zyx rfl))(hd:(x==("__debug__":Str))=false:=by decide)
  (hcd:(x==("__classdict__":Str))=false:=by decide):XI X tg (.Name x pos) (HM.Za4 i):=by
 intro r ds h;have row:∀{d:PyData},r[i]?=some (some (.pl d))->HM.Zcm (.pl d)=some ds->HM.Zah (HM.bOf (HM.Zd i)) r=some ds:=λ{d} h1 h2=>by
  have e:HM.Zd i r=some d:=by unfold HM.Zd; rw[h1]
  unfold HM.Zah HM.bOf;rw[e];exact h2
 unfold HM.Za4 at h;split at h
 ·rename_i q; exact Zad (Zc i hN hv hd hcd) r ds (row q h)
 ·rename_i q; exact Zad (Zc i hN hv hd hcd) r ds (row q h)
 ·rename_i es q
  obtain⟨kvs,h1,h2⟩:=ZxT.mp h;subst h2;refine PI.imp (Zuc (ZcC hN hv hd hcd)) λσ H R ⟨F0,H0,F,at_,k⟩=>?_;obtain⟨v,fp,g1,g2⟩:=at_.any q;cases g2 with
  | @hd a o _ kvs' vvs k1 k2 k3 k4=>subst k2;rw[HM.dec_enc]at h1;cases h1;exact⟨.ref a,g1,a,o,vvs,rfl,at_.sub _ _ k1,k _ F H at_.refl (Ztx k1 k3)⟩
  | hf _=>cases h1
 ·cases h
end
end HP
namespace HP
open PySem PySem.Spec PyProof.Rows L2
variable[FX]
end HP
namespace HP
open PySem PySem.Spec PyProof.Rows L2
variable[FX]
end HP
namespace HP
open PySem
abbrev mdA(I S:Addr)(dv:Value):Args:=⟨[.ref I,.none,.ref S],[(ZAa "default",dv)]⟩
theorem ZiW:(toString "min" ++ toString ".loop":String) = "min.loop":=by decide
theorem Zut(a dv:Value):argsOk "min" ⟨[a],[(ZAa "default",dv)]⟩:=by unfold argsOk; kernel_rfl
section
variable{prog:Program}{w:World}{A:Around}{R:Result->Shared->Prop}{I:Addr}{fp wr:List Addr}{n:Nat}{P:Nat->Value->Prop}{St:Nat->Heap->Prop}
theorem ZuF(W:Walks prog w A.in1 I fp wr n P St)(bt:Nat->Nat->Bool)(hc:CmpOf prog w A.in1 .Lt P bt){S:Addr}(hf:S ∉ fp)(dv:Value):∀(k j:Nat) (s:Shared) (b:Value) (ep:Nat),n=j+1+k->St (j+1) s.heap->P (argBest bt j) b ->
  s.heap.get? S=some { cls:=.type "list",dict:=none,data:=.seq #[b,b] ep,slots:=#[] } ->
  (∀v h' tk,P (argBest bt (n-1)) v->(∀x o,x ∉ wr->x≠S->s.heap.get? x=some o->h'.get? x=some o)->R (.ok (.ret v)) { s with heap:=h',toks:=tk }) ->
  codeAny (model prog w) A (.builtin "min.loop" (mdA I S dv)) R s:=by
 have hw:S ∉ wr:=λh=>hf (W.sub _ h);intro k
 induction k with
 | zero =>
  intro j s b ep hn st pb gS out;have hn:n=j+1:=by omega
  subst hn;refine Zy9 ZA1 ?_;rw[ZyV Zzf _];show wpAny _ A.in1 (seqItems? (.ref S) >>= _) _ _ s;refine ZxQ (wpAny_seqItems gS rfl ?_);show wpAny _ A.in1 (tryCatch (pyNext (.ref I)) _ >>= _) _ _ s;refine ZxQ (ZAQ (W.done s _ _ st λh1 tk keep=>?_));have gS1:=keep S _ hw gS;show wpAny _ A.in1 (updateSeq S (λ_=>#[]) >>= _) _ _ _;exact ZxQ (ZB7 gS1 rfl (ZxQ (ZCd (ZxV (out b _ tk pb λx o hx hS e=>(Zze _ _ (ZyR hS)).trans (keep x o hx e))))))
 | succ k ih =>
  intro j s b ep hn st pb gS out;refine Zy9 ZA1 ?_;rw[ZyV Zzf _];show wpAny _ A.in1 (seqItems? (.ref S) >>= _) _ _ s;refine ZxQ (wpAny_seqItems gS rfl ?_);show wpAny _ A.in1 (tryCatch (pyNext (.ref I)) _ >>= _) _ _ s;refine ZxQ (ZAQ (W.item (j+1) s _ _ (by omega) st λv h1 tk pv st1 keep=>?_));have gS1:=keep S _ hw gS;show wpAny _ A.in1 (tryCatch (holding [v,v] (richCompare .Lt v b >>= _)) _ >>= _) _ _ _;refine ZxQ (ZAQ (Zy0 (ZxQ (hc (j+1) (argBest bt j) v b _ _ _ pv pb (ZxQ (Zy0 (ZzM (ZxQ (ZCd (ZxV ?_))))))))));have best:argBest bt (j+1)=if bt (j+1) (argBest bt j)then j+1 else argBest bt j:=rfl
  cases hb:bt (j+1) (argBest bt j)with
  | true =>
   rw[hb,if_pos rfl]at best;simp only[if_true];refine ZxQ (ZB7 gS1 rfl (ZxQ (ZCd ?_)));rw[ZiW];refine ZxV ⟨Zz0 Zzf _,ih (j+1) _ v _ (by omega) (W.frame _ _ _ st1 λx hx o e=>?_) (by rw[best]; exact pv) (ZyZ _ gS1 rfl) λv' h2 tk2 p' keep2=>?_⟩
   ·exact(Zze _ _ (λz:S=x=>hf (by rw[z]; exact hx))).trans e
   ·exact out v' h2 tk2 p' λx o hx hS e=>keep2 x o hx hS ((Zze _ _ (ZyR hS)).trans (keep x o hx e))
  | false=>rw[hb,if_neg (by simp)]at best;simp only[ZzF,if_false];refine ZxQ (ZCd ?_);rw[ZiW];exact ZxV ⟨Zz0 Zzf _,ih (j+1) _ b ep (by omega) st1 (by rw[best]; exact pb) gS1 λv' h2 tk2 p' keep2=>out v' h2 tk2 p' λx o hx hS e=>keep2 x o hx hS (keep x o hx e)⟩
theorem Zto(W:Walks prog w A.in1 I fp wr n P St)(bt:Nat->Nat->Bool)(hc:CmpOf prog w A.in1 .Lt P bt){S:Addr}(hf:S ∉ fp)(dv:Value){s:Shared}{ep:Nat}(st:St 0 s.heap)
  (gS:s.heap.get? S=some { cls:=.type "list",dict:=none,data:=.seq #[] ep,slots:=#[] })
  (o0:n=0->∀h' tk,(∀x o,x ∉ wr->x≠S->s.heap.get? x=some o->h'.get? x=some o)->R (.ok (.ret dv)) { s with heap:=h',toks:=tk })
  (o1:0<n->∀v h' tk,P (argBest bt (n-1)) v->(∀x o,x ∉ wr->x≠S->s.heap.get? x=some o->h'.get? x=some o)->R (.ok (.ret v)) { s with heap:=h',toks:=tk }) :
  codeAny (model prog w) A (.builtin "min.loop" (mdA I S dv)) R s:=by
 have hw:S ∉ wr:=λh=>hf (W.sub _ h);refine Zy9 ZA1 ?_;rw[ZyV Zzf _];show wpAny _ A.in1 (seqItems? (.ref S) >>= _) _ _ s;refine ZxQ (wpAny_seqItems gS rfl ?_);show wpAny _ A.in1 (tryCatch (pyNext (.ref I)) _ >>= _) _ _ s
 by_cases h0:n=0
 ·subst h0
  refine ZxQ (ZAQ (W.done s _ _ st λh1 tk keep=>?_));show wpAny _ A.in1 (rule _ >>= _) _ _ _;exact ZxQ (wpAny_rule (ZxV (o0 rfl h1 tk λx o hx _ e=>keep x o hx e)))
 ·refine ZxQ (ZAQ (W.item 0 s _ _ (by omega) st λv h1 tk pv st1 keep=>?_))
  have gS1:=keep S _ hw gS;show wpAny _ A.in1 (updateSeq S (λ_=>#[v,v]) >>= _) _ _ _;refine ZxQ (ZB7 gS1 rfl ?_);rw[ZiW];refine ZxV ⟨Zz0 Zzf _,ZuF W bt hc hf dv (n-1) 0 _ v _ (by omega) (W.frame _ _ _ st1 λx hx o e=>?_) pv (ZyZ _ gS1 rfl) λv' h2 tk2 p' keep2=>?_⟩
  ·exact(Zze _ _ (λz:S=x=>hf (by rw[z]; exact hx))).trans e
  ·exact o1 (by omega) v' h2 tk2 p' λx o hx hS e=>keep2 x o hx hS ((Zze _ _ (ZyR hS)).trans (keep x o hx e))
end
end HP
namespace HP
open PySem PySem.Spec PyProof.Rows L2
variable[FX]
theorem Rep.fn_inv{K:ZxR}{F:Hp}{t:Nat}{cs:List PyData}{v:V}(h:Rep K F (HM.fnD t cs) v):∃a,v=.ref a/\FX.fv t cs F a:=by
 cases h with
 | @dct a es kvs vvs h he hk hr =>
  cases kvs with
  | nil=>cases he
  | cons p r =>
   injection he with h1 _
   injection h1 with h2 _
   cases h2
 | fn h=>exact⟨_,rfl,h⟩
theorem Ztn{d:PyData}{t:Nat}{cs:List PyData}(h:HM.Zk8 d=some (t,cs)):d=HM.fnD t cs:=by
 unfold HM.Zk8 at h;split at h
 ·cases h; rfl
 ·cases h
structure GFn(mg:Str->Option Value)(x:Str)(t:Nat):Prop where
 ex:∃f,mg x=some (.ref f)/\∀F,FX.fv t [] F f
section
variable{X:Cx}{pos p:Pos}{e a b:Expr}{es:List Expr}{f:HM.AF}
theorem Zu4{x:Str}{t:Nat}(h:GFn X.mg x t)(hg:Gl X x:=by rfl)(hd:(x==("__debug__":Str))=false:=by decide):XE X (.Name x pos) (HM.eC (HM.fnD t [])):=by obtain⟨f,hm,hv⟩:=h.ex;exact Zfy (Zps hg hm (v:=.ref f) rfl hd) λF=>.fn (hv F)
structure Zd3(P:Program)(w:World)(K:ZxR)(mg:Str->Option Value)(base:Heap)(k:Nat)(ap:HM.AP):Prop where
 fn:∀{t:Nat} {cs:List PyData} {F:Hp} {a:Addr},FX.fv t cs F a->∀{A:Around} {outer:List Env} {s:Shared} {H:Hp},ZeH P w K mg base A outer s H->Zp F H->ZCB a s.heap
 run:∀{t:Nat} {cs:List PyData} {F:Hp} {a:Addr},FX.fv t cs F a->∀{A:Around} {outer:List Env} {s:Shared} {H:Hp},ZeH P w K mg base A outer s H->Zp F H ->
  ∀{us:List Value} {vs:List V} {ds:List PyData} {d:PyData} {Q:VK},Zaq k A->Tb H->NoT F->Vals vs us->Zu K F ds vs->ap t cs ds=some d->(∀v F' H',Ext F H F' H'->Rep K F' d v->Q v H') ->
   codeAny (model P w) A (.call (.ref a) ⟨us,[]⟩) (CR CX0 outer P w H s Q E0) s
theorem Zd3.mono{P:Program}{w:World}{K:ZxR}{mg:Str->Option Value}{base:Heap}{j k:Nat}{ap:HM.AP}(C:Zd3 P w K mg base j ap)(h:j<=k):Zd3 P w K mg base k ap :=
 ⟨C.fn,by intro t cs F a q A outer s H e z us vs ds d Q hr; exact C.run q e z (hr.mono h)⟩
theorem ZmA{k:Nat}{ap:HM.AP}(C:Zd3 X.prog X.w X.K X.mg X.base k ap)(hr:Zaq k X.A)(i:Nat){x:Str}(ha:XA X (e::es) f)(hN:X.N[i]?=some x:=by rfl)
  (hv:Vis X.env.scope x:=by first | exact ZyP rfl | exact Zyx (ZyP rfl) | exact Zyx (Zyx rfl)) (hd:(x==("__debug__":Str))=false:=by decide) (hcd:(x==("__classdict__":Str))=false:=by decide)
  (he:Zx6 (e::es) X.env=(false,eval e X.env)::Zx6 es X.env:=by rfl) (hpl:(backTo pos (Zx6 es X.env)).any (·.1)=false:=by rfl):XE X (.Call (.Name x p) (e::es) [] pos) (HM.ZfV ap i f):=by
 intro r d h;unfold HM.ZfV at h;split at h
 case h_2=>cases h
 rename_i d0 hs;split at h
 case h_2=>cases h
 rename_i t cs hu;split at h
 case h_2=>cases h
 rename_i ds hds;obtain rfl:=Ztn hu;intro pins s σ H Q I ⟨F0,H0,F1,at_,kk⟩;obtain⟨v,h1,h2⟩:=at_.plain hs;obtain⟨q,rfl,fv⟩:=h2.fn_inv;refine ZzT (thn (ZcC hN hv hd hcd pins s σ H (λv' H'=>v'=.ref q/\H'=H) I ⟨_,h1,rfl,rfl⟩) λu s1 ⟨v',H1,I1,r1,e1,e2⟩=>?_);subst e1 e2;obtain rfl:u=ZyO q:=r1;refine PySem.W.callWith_F (C.fn fv I1.env0 at_.sub) (thn (ha.pa r ds hds pos pins s1 σ H1 (λvs H2=>∃F2,Ext F1 H1 F2 H2/\Zu X.K F2 ds vs) I1 ⟨F0,H0,F1,at_,λvs F2 H2 x2 q2=>⟨F2,x2,q2⟩⟩) λus s2 ⟨vs,H2,I2,r2,F2,x2,q2⟩=>?_) he hpl;have fv2:=FX.mono fv x2.ff;refine⟨C.fn fv2 I2.env0 x2.sub,wpAny_call (ZzS (C.run fv2 I2.env0 x2.sub hr (at_.tbx x2) (at_.ntx x2) r2 q2 h λv F' H' x3 q3=>kk v F' H' (x2.trans x3) q3) λrs s' hq=>?_)⟩;cases rs with
 | error e=>exact ZyU hq
 | ok fl =>
  cases fl with
  | ret u=>exact I2.after hq
  | next=>exact ZyU hq
  | brk=>exact ZyU hq
  | cont=>exact ZyU hq
def spN(K:ZxR)(n:Nat)(M:List PyData->Option (List (List Key × PyData))):Sp:=λvs H Q _=>∃F ds kvs,vs.length=n/\Zp F H/\Tb H/\NoT F/\Zu K F ds vs/\M ds=some kvs /\
 ∀l vvs F' H',Ext F H F' H'->H' l=some (.dT vvs)->kvs.map (·.1)=vvs.map (·.1)->Zu K F' (kvs.map (·.2)) (vvs.map (·.2))->F' l=none->H l=none->Q (.ref l) H'
structure ZdY(P:Program)(w:World)(K:ZxR)(mg:Str->Option Value)(base:Heap)(k:Nat)(x:Str)(M:List PyData->Option (List (List Key × PyData))):Prop where
 ex:∃f fd ps,(∀ds d,M ds=some d->ds.length=ps.length)/\Zde P w K mg base CX0 k f fd ps (spN K ps.length M)/\mg x=some (.ref f)/\Zzd K (.ref f)=true/\Binds K fd ps []
theorem ZdY.mono{P:Program}{w:World}{K:ZxR}{mg:Str->Option Value}{base:Heap}{j k:Nat}{x:Str}{M:List PyData->Option (List (List Key × PyData))}(C:ZdY P w K mg base j x M)(h:j<=k):ZdY P w K mg base k x M:=by obtain⟨f,fd,ps,l,F,r⟩:=C.ex;exact⟨f,fd,ps,l,F.mono h,r⟩
theorem Zu.flat{K:ZxR}{F F':Hp}{ds:List PyData}{vs:List V}(r:Zu K F ds vs)(h:∀d∈ds,HM.ZkB d=true):Zu K F' ds vs :=
 ⟨r.1,λi d v h1 h2=>(r.2 i d v h1 h2).flat (h d (Zym h1))⟩
theorem Zsj{k:Nat}{x:Str}{g:HM.AF}{M:List PyData->Option (List (List Key × PyData))}(C:ZdY X.prog X.w X.K X.mg X.base k x M)(hr:Zaq k X.A)(ha:XAL X (e::es) g)(hg:Gl X x:=by rfl)(hdb:(x==("__debug__":Str))=false:=by decide)
  (he:Zx6 (e::es) X.env=(false,eval e X.env)::Zx6 es X.env:=by rfl) (hpl:(backTo pos (Zx6 es X.env)).any (·.1)=false:=by rfl):XF X (.Call (.Name x p) (e::es) [] pos) (HM.ZiF M g):=by
 intro r d hd;unfold HM.ZiF at hd;split at hd
 case h_2=>cases hd
 rename_i ds hds;split at hd
 case h_2=>cases hd
 rename_i kvs hM;split at hd
 case isFalse=>cases hd
 rename_i hfl;cases hd;obtain⟨fa,fd,ps,hl,F,hm,hk,hb⟩:=C.ex;refine PE.imp (Zk4 (E:=E0) F hr hg hm hk hb .nil Zqd (ha.pa r ds hds) hdb he hpl) λσ H Q ⟨F0,H0,F1,at_,kk⟩=>?_;refine⟨F0,H0,F1,at_,λvs F' H' x q=>?_⟩;show spN X.K ps.length M (vs++[]) H' Q E0;rw[Zyu];refine⟨ZcL H',ds,kvs,by rw[<-q.1]; exact hl ds _ hM,ZlJ,at_.tbx x,.drop,q.drop',hM,λl vvs F2 H2 x2 h1 h2 h3 h4 h5=>?_⟩;refine kk _ F' H2 (x.trans (Ext.forget x.sub (at_.ntx x) x2)) ⟨[l],.ot h1 h2 (h3.flat λd hd=>?_),by simp,λc hc=>?_⟩
 ·obtain⟨q,h6,rfl⟩:=Zx3.mp hd
  exact Zx0.mp hfl q h6
 ·obtain rfl:c=l:=by simpa using hc
  exact⟨x.sub.free h5,x.hh.free h5⟩
def tSn(K:ZxR)(r:HM.Env)(kvs:List (List Key × PyData)):TS:=λE σ H=>Now K r σ H λF0 H0 F=>∀l vvs F' H',Ext F0 H0 F' H'->H' l=some (.dT vvs)->kvs.map (·.1)=vvs.map (·.1)->Zu K F' (kvs.map (·.2)) (vvs.map (·.2))->F' l=none->H0 l=none->E.rt (.ref l) H'
def XSn(X:Cx)(sts:List Stmt)(m:HM.NF):Prop:=∀r kvs,m r=some kvs->PSs X sts (tSn X.K r kvs)
theorem ZnK{st:Stmt}{rest:List Stmt}{g:HM.SF}{m:HM.NF}(h1:XS X st g)(h2:XSn X rest m):XSn X (st::rest) (HM.ZjY g m):=by
 intro r kvs h;unfold HM.ZjY at h;split at h
 ·rename_i r' q
  refine PSs.imp (Zhq (h1 r _ q) (h2 r' kvs h)) λE σ H ⟨F0,H0,F,at_,k⟩=>?_;exact⟨F0,H0,F,at_,λσ' F' H' at'=>⟨F0,H0,F',at',k⟩⟩
 ·cases h
theorem ZtV(j:Nat){x:Str}{p1:Pos}(hN:X.N[j]?=some x:=by rfl)(hv:Vis X.env.scope x:=by first | exact ZyP rfl | exact Zyx (ZyP rfl) | exact Zyx (Zyx rfl))(hd:(x==("__debug__":Str))=false:=by decide)
  (hcd:(x==("__classdict__":Str))=false:=by decide):XSn X [.Return (some (.Name x p)) p1] (HM.Znx j):=by
 intro r kvs h;unfold HM.Znx at h;split at h
 ·rename_i kvs' hs
  cases h;refine PSs.imp (Zhq (Zom (ZcC hN hv hd hcd)) Zgj) λE σ H ⟨F0,H0,F,⟨fp,at_⟩,k⟩=>?_;obtain⟨v,h1,h2⟩:=at_.at_ j _ hs;generalize hfp:fp j=fj at h2;cases h2 with
  | @ot l _ vvs hl hk q=>have ho:=at_.own j l (by rw[hfp]; simp);exact⟨_,h1,k l vvs F H at_.ext hl hk q ho.1 ho.2⟩
 ·cases h
theorem ZqJ{P:Program}{w:World}{K:ZxR}{mg:Str->Option Value}{base:Heap}{k:Nat}{x qual:Str}{st:Stmt}{f:Addr}{fd:FuncData}{N ps:List Str}{m:HM.NF}(Fn:Fun K x qual st f fd)(S:Zs N ps (Zf st))(hm:mg x=some (.ref f))(hb:Binds K fd ps [])
  (body:∀(cdv:Value) (A:Around) (outer:List Env) (s:Shared) (H:Hp) (E:XK),Zaq k (A.deeper (envOfC qual (Zf st) s.heap.objs.size f cdv))->XSn (Zf4 CX0 P w K mg base N qual (Zf st) f cdv A outer s H E).nox (Za2 st) m) :
  ZdY P w K mg base (k+1) x (HM.newOf ps.length N.length m):=by
 have hpl:ps.length<=N.length:=by have:=congrArg ZyB S.pre; rw[Zzp]at this; omega
 refine⟨f,fd,ps,λds d h=>?_,Fn.ok S (λvs H Q E h=>?_) (λcdv A outer s H vs Q E hr h=>?_),hm,Fn.kp,hb⟩
 ·unfold HM.newOf at h
  split at h
  ·assumption
  ·cases h
 ·obtain⟨_,_,_,h,_⟩:=h
  exact h
 ·obtain⟨F,ds,kvs,hl,sub,tb,nt,q,hM,kk⟩:=h
  unfold HM.newOf at hM;split at hM
  ·rename_i hds
   exact⟨_,body cdv A outer s H E hr _ _ hM,F,H,F,ZfY (N:=N) sub tb nt q (by omega),λl vvs F' H' x h1 h2 h3 h4 h5=>kk l vvs F' H' x h1 h2 h3 h4 h5⟩
  ·cases hM
theorem Zro(hc:X.calm=true){pins:List (Addr × Obj)}{s:Shared}{σ:L2.St}{H:Hp}{l:Addr}{ns:List Int}{Q:VK}(I:Inv X pins σ H s)(hq:SqL X.K H l (ns.map V.int))(q:Q (match ns.min? with | some i=>.int i | none=>.non) H) :
  wpAny (model X.prog X.w) X.A (call (.builtin "min") [.ref l] [(ZAa "default",.none)]) (EP X pins σ Q) X.xe s:=by
 obtain⟨its,rv,pl,hz⟩:=I.list hq;have hi:=ZdZ rv;obtain⟨xs,e⟩:=hi.allInts.items;have hns:ns=xs.toList.map (·.1):=by rw[<-hi.numsOf,<-nums_intItems,<-e]
 have hl:=pl.isList;rw[e]at hl;refine PyProof.Rows.kmk_tree PySem.F.kind_min PySem.F.plain_min PySem.F.entry_min (Zut _ _) ?_;refine ZxQ (ZCc (show Builtin.Builtins.bindParams "min" ["key","default"] 0 ⟨[],[(ZAa "default",.none)]⟩=pure [none,some .none] from rfl) ?_);refine ZxQ (ZxV ?_);refine ZxQ (iter_intList hl λs2 e2 st hfp hlI=>?_);subst e2;refine ZxQ (ZyQ ?_);rw[ZiW];generalize hIT:s.heap.push { cls:=.type "list_iterator",data:=.fields #[.ref l,.int 0 0] }=h1 at st hfp;have z1:h1.objs.size=s.heap.objs.size+1:=by rw[<-hIT]; exact ZAs ..
 have k1:∀b o,s.heap.get? b=some o->h1.get? b=some o:=λb o e=>by rw[<-hIT]; exact ZxX _ e
 have W:=Walks.list (prog:=X.prog) (w:=X.w) (A:=X.A.in1) (I.ok.hd hc) s.heap.objs.size l hlI (intItems xs);have hSf:h1.objs.size ∉ [s.heap.objs.size,l]:=λz=>Zzz _ (hfp _ z);have old:∀{h':Heap} {oS:Obj},(∀x o,x ∉ [s.heap.objs.size]->x≠h1.objs.size->(h1.push oS).get? x=some o->h'.get? x=some o)->∀b o,s.heap.get? b=some o->h'.get? b=some o:=λhk b o e=>by have hb:=Zx7 e;exact hk b o (λz=>by rw[Zyb.mp z]at hb; exact Zzz _ hb) (Zyf (by rw[z1]; exact ZAq hb)) (ZxX _ (k1 b o e))
 refine ZxV ⟨Zz0 Zzf _,Zto W (λi j=>decide (numAt xs i<numAt xs j)) (CmpOf.ints_lt (numAt xs) λ_ _=>intItems_at) hSf .none (W.frame _ _ _ st λb _ o e=>ZxX _ e) (Zx9 _ rfl) (λh0 h' tk hk=>?_) λh0 v h' tk hP hk=>?_⟩
 ·have e0:ns=[]:=by
   rw[hns];have:xs.size=0:=by simpa [intItems]using h0
   rw[Array.eq_empty_of_size_eq_zero this]; rfl
  subst e0;exact⟨.non,H,I.kept (t':=tk) (old hk),rfl,q⟩
 ·have h0':0<xs.size:=by simpa [intItems]using h0
  have hP':(intItems xs)[argBest (λi j=>decide (numAt xs i<numAt xs j)) (xs.size-1)]?=some v:=by simpa [intItems]using hP
  obtain⟨t,rfl⟩:=intItems_at hP';obtain⟨g1,g2⟩:=argBest_lt (numAt xs) (xs.size-1);have hm:ns.min?=some (numAt xs (argBest (λi j=>decide (numAt xs i<numAt xs j)) (xs.size-1))):=by
   refine ZBb.mpr ⟨?_,λa ha=>?_⟩
   ·rw[hns,numAt_eq]; exact getD_mem (by rw[ZxS,Zyj]; omega)
   ·rw[hns]at ha
    obtain⟨j,hj,rfl⟩:=mem_getD ha;rw[ZxS,Zyj]at hj;rw[<-numAt_eq]; exact g2 j (by omega)
  rw[hm]at q;exact⟨.int _,H,I.kept (t':=tk) (old hk),⟨t,rfl⟩,q⟩
theorem Zpa{f:HM.BF}{kp p2:Pos}{j:Nat}(hm:X.mg "min" = none)(hc:X.calm=true)(ha:XB X a f)(hg:Gl X "min":=by rfl)(hs:Zx6 [a] X.env=[(false,eval a X.env)]:=by rfl)
  (he:backTo pos (Zx6 [a] X.env)=(false,eval a X.env)::backTo pos (Zx6 [] X.env):=by rfl) (hpl:(backTo pos (Zx6 [a] X.env)).any (·.1)=false:=by rfl) :
  XE X (.Call (.Name "min" p) [a] [⟨some "default",.Constant .none j p2,kp⟩] pos) (HM.Zfq f):=by
 intro r d h;unfold HM.Zfq at h;split at h
 case h_2=>cases h
 rename_i x hx;split at h
 case h_2=>cases h
 rename_i ds hds;split at h
 case h_2=>cases h
 rename_i ns hns;cases h;intro pins s σ H Q I ⟨F0,H0,F,at_,k⟩;refine ZzT (Ziw I hg hm ZrF ?_);refine callWith_kw (thn (Ze3 ha hx hs pos pins s σ H (λvs H1=>∃v fp F1,vs=[v]/\Ext F H F1 H1/\Zak X.K F1 H1 x v fp) I ⟨F0,H0,F,at_,λv fp F' H' x1 r1=>⟨v,fp,F',rfl,x1,r1⟩⟩) λus s1 ⟨vs,H1,I1,rv,v,fp,F1,e1,x1,r1⟩=>?_) he hpl;subst e1;obtain⟨u,rfl,ru⟩:=vals1 rv;obtain⟨l,ws,rfl,hq,rs⟩:=Zga x1.sub r1 hds;obtain rfl:u=ZyO l:=ru;rw[ZcF hns rs]at hq;refine kws_cons (thn (Zq3 pins s1 σ H1 (λv' H'=>v'=.non/\H'=H1) I1 ⟨rfl,rfl⟩) λu2 s2 ⟨v',H2,I2,r2,e2,e3⟩=>?_);subst e2 e3;obtain rfl:u2=ZyS:=r2;refine kws_nil ?_;refine Zro hc I2 hq ?_;refine k _ F1 H2 x1 ?_;cases ns.min? with
 | none=>exact .non
 | some i=>exact .int i
end
end HP
namespace HP
open PySem PySem.Spec PyProof.Rows L2
abbrev FX0:FX where
 tl:=[]
 fv:=λ_ _ _ _=>False
 sw:=λ_ _ h=>h
 drop:=λh=>h
 mono:=λh _=>h
structure Clo(K:ZxR)(F:Hp)(p:Addr)(params:Arguments)(body:Expr)(scope:Scope)(names:List Str)(cs:List PyData):Prop where
 ex:∃(qual:Str) (pm ctv:Value) (c:Addr) (oc:Obj) (clos:List (Str × Addr)),
  F p=some (Zbm p (ZBi "<lambda>" qual params body scope clos pm c ctv))/\F c=some (Zbm c oc)/\ZkZ oc qual /\
  (∀x y a,clos.lookup x=some a->clos.lookup y=some a->x=y)/\(∀y∈scope.names,y.2=.free->(clos.lookup y.1).isSome=true) /\
  (∀x a,clos.lookup x=some a->∃o v,F a=some (Zbm a o)/\o.data=.cell v) /\
  names.length=cs.length/\∀(i:Nat) (x:Str) (d:PyData),names[i]?=some x->cs[i]?=some d->∃a o u v,clos.lookup x=some a/\F a=some (Zbm a o)/\o.data=.cell (some u)/\RelV v u/\@Rep FX0 K F d v
section
variable{K:ZxR}{F F':Hp}{p:Addr}{params:Arguments}{body:Expr}{scope:Scope}{names:List Str}{cs:List PyData}
theorem Clo.mono(h:Clo K F p params body scope names cs)(s:Zp F F'):Clo K F' p params body scope names cs:=by
 obtain⟨qual,pm,ctv,c,oc,clos,h1,h2,h3,h4,h5,h6,h7,h8⟩:=h.ex;refine⟨qual,pm,ctv,c,oc,clos,s _ _ h1,s _ _ h2,h3,h4,h5,λx a e=>?_,h7,λi x d e1 e2=>?_⟩
 ·obtain⟨o,u,q1,q2⟩:=h6 x a e
  exact⟨o,u,s _ _ q1,q2⟩
 ·obtain⟨a,o,u,v,q1,q2,q3,q4,q5⟩:=h8 i x d e1 e2
  exact⟨a,o,u,v,q1,s _ _ q2,q3,q4,@Rep.mono FX0 _ _ _ _ _ q5 s⟩
theorem Clo.drop(h:Clo K F p params body scope names cs):Clo K (ZcL F) p params body scope names cs:=by
 obtain⟨qual,pm,ctv,c,oc,clos,h1,h2,h3,h4,h5,h6,h7,h8⟩:=h.ex;refine⟨qual,pm,ctv,c,oc,clos,Zcl h1 rfl,Zcl h2 rfl,h3,h4,h5,λx a e=>?_,h7,λi x d e1 e2=>?_⟩
 ·obtain⟨o,u,q1,q2⟩:=h6 x a e
  exact⟨o,u,Zcl q1 rfl,q2⟩
 ·obtain⟨a,o,u,v,q1,q2,q3,q4,q5⟩:=h8 i x d e1 e2
  exact⟨a,o,u,v,q1,Zcl q2 rfl,q3,q4,@Rep.drop FX0 _ _ _ _ q5⟩
theorem Clo.sw{a:Addr}{ob:HO}{vvs:List (List Key × V)}(hF:∀u,F a=some u->Dk vvs u)(hob:Dk vvs ob)(h:Clo K F p params body scope names cs):Clo K (HP.sw a ob F) p params body scope names cs:=by
 have key:∀{b:Addr} {o:Obj},F b=some (Zbm b o)->HP.sw a ob F b=some (Zbm b o):=λ{b o} e=>by
  have hb:b≠a:=λz=>by subst z;have:=@Dk.te FX0 _ _ (hF _ e);cases this
  unfold HP.sw; rw[if_neg hb]; exact e
 obtain⟨qual,pm,ctv,c,oc,clos,h1,h2,h3,h4,h5,h6,h7,h8⟩:=h.ex;refine⟨qual,pm,ctv,c,oc,clos,key h1,key h2,h3,h4,h5,λx a e=>?_,h7,λi x d e1 e2=>?_⟩
 ·obtain⟨o,u,q1,q2⟩:=h6 x a e
  exact⟨o,u,key q1,q2⟩
 ·obtain⟨a,o,u,v,q1,q2,q3,q4,q5⟩:=h8 i x d e1 e2
  exact⟨a,o,u,v,q1,key q2,q3,q4,@Rep.sw FX0 _ _ _ _ _ _ _ hF hob q5⟩
end
theorem Rep.up[FX]{K:ZxR}{F:Hp}{d:PyData}{v:V}(r:@Rep FX0 K F d v):Rep K F d v:=by
 induction r with
 | non=>exact .non
 | bl b=>exact .bl b
 | int i=>exact .int i
 | str x=>exact .str x
 | tup h hl _ ih=>exact .tup h hl ih
 | tupk h=>exact .tupk h
 | lst h hl _ ih=>exact .lst h hl ih
 | dct h he hk _ ih=>exact .dct h he hk ih
 | fn h=>exact h.elim
theorem Rep.cutF[FX]{K:ZxR}{F F':Hp}(hF:∀b o,F b=some o->te o=false->F' b=some o){d:PyData}{v:V}(r:Rep K F d v):∀n,HM.noF n d=true->@Rep FX0 K F' d v:=by
 induction r with
 | non=>intro _ _; exact @Rep.non FX0 _ _
 | bl b=>intro _ _; exact @Rep.bl FX0 _ _ b
 | int i=>intro _ _; exact @Rep.int FX0 _ _ i
 | str x=>intro _ _; exact @Rep.str FX0 _ _ x
 | tupk h=>intro _ _; exact @Rep.tupk FX0 _ _ _ _ h
 | tup h hl _ ih =>
  intro n hn;cases n with
  | zero=>cases hn
  | succ n=>exact @Rep.tup FX0 _ _ _ _ _ (hF _ _ h rfl) hl λi d v h1 h2=>ih i d v h1 h2 n (Zx0.mp hn d (Zym h1))
 | lst h hl _ ih =>
  intro n hn;cases n with
  | zero=>cases hn
  | succ n =>
   refine @Rep.lst FX0 _ _ _ _ _ ?_ hl λi d v h1 h2=>ih i d v h1 h2 n (Zx0.mp hn d (Zym h1));rcases h with(h | ⟨o,h⟩) | h
   ·exact .inl (.inl (hF _ _ h rfl))
   ·exact .inl (.inr ⟨o,hF _ _ h rfl⟩)
   ·exact .inr h
 | @dct a es kvs vvs h he hk _ ih =>
  intro n hn;cases n with
  | zero=>cases hn
  | succ n =>
   refine @Rep.dct FX0 _ _ _ _ kvs vvs ?_ he hk λi d v h1 h2=>ih i d v h1 h2 n ?_
   ·rcases h with h | ⟨o,h⟩
    ·exact .inl (hF _ _ h rfl)
    ·exact .inr ⟨o,hF _ _ h rfl⟩
   ·subst he
    rw[Zyk]at h1;obtain⟨q,h3,h4⟩:=ZxT.mp h1;subst h4;have hm:(Zyv (q.1.map HM.ZaL),q.2)∈HM.Zi kvs:=Zx3.mpr ⟨q,Zym h3,rfl⟩;have:=Zx0.mp hn _ hm;rw[Zyd]at this;exact this.2
 | fn h =>
  intro n hn;cases n with
  | zero=>cases hn
  | succ n=>have:=Zx0.mp hn _ (ZxU ..);cases this
end HP
namespace HP
open PySem PySem.Spec PyProof.Rows L2
theorem Rep0.cut{K:ZxR}{F F':Hp}(hF:∀b o,F b=some o->te o=false->F' b=some o){d:PyData}{v:V}(r:@Rep FX0 K F d v):@Rep FX0 K F' d v:=by
 induction r with
 | non=>exact @Rep.non FX0 _ _
 | bl b=>exact @Rep.bl FX0 _ _ b
 | int i=>exact @Rep.int FX0 _ _ i
 | str x=>exact @Rep.str FX0 _ _ x
 | tupk h=>exact @Rep.tupk FX0 _ _ _ _ h
 | tup h hl _ ih=>exact @Rep.tup FX0 _ _ _ _ _ (hF _ _ h rfl) hl ih
 | lst h hl _ ih =>
  refine @Rep.lst FX0 _ _ _ _ _ ?_ hl ih;rcases h with(h | ⟨o,h⟩) | h
  ·exact .inl (.inl (hF _ _ h rfl))
  ·exact .inl (.inr ⟨o,hF _ _ h rfl⟩)
  ·exact .inr h
 | @dct a es kvs vvs h he hk _ ih =>
  refine @Rep.dct FX0 _ _ _ _ kvs vvs ?_ he hk ih;rcases h with h | ⟨o,h⟩
  ·exact .inl (hF _ _ h rfl)
  ·exact .inr ⟨o,hF _ _ h rfl⟩
 | fn h=>exact h.elim
def Zbc(C:List Addr)(H:Hp):Hp:=λb=>if b∈C then none else H b
theorem Zg2{C:List Addr}{H:Hp}{b:Addr}(h:b∈C):Zbc C H b=none:=by unfold Zbc; rw[if_pos h]
theorem Zao{C:List Addr}{H:Hp}{b:Addr}(h:b ∉ C):Zbc C H b=H b:=by unfold Zbc; rw[if_neg h]
theorem Zhy{C:List Addr}{H:Hp}{b:Addr}{o:HO}(h:Zbc C H b=some o):b ∉ C/\H b=some o:=by
 unfold Zbc at h;split at h
 ·cases h
 ·exact⟨by assumption,h⟩
def ZgK(C:List Addr)(G H:Hp):Hp:=λb=>if b∈C then G b else H b
theorem ZeP{C:List Addr}{G H:Hp}{b:Addr}(h:b∈C):ZgK C G H b=G b:=by unfold ZgK; rw[if_pos h]
theorem Zbn{C:List Addr}{G H:Hp}{b:Addr}(h:b ∉ C):ZgK C G H b=H b:=by unfold ZgK; rw[if_neg h]
section
variable{P:Program}{w:World}{C:List Addr}{G H H':Hp}{h h':Heap}
theorem Zck{a:Addr}{o:Obj}(x:Zab P w H h a (Zbm a o)):h.get? a=some o:=x.1
theorem ZiV{a:Addr}{o:Obj}(e:h.get? a=some o):Zab P w H h a (Zbm a o):=⟨e,⟨o,e⟩,λh1 h2 q k=>k o q⟩
theorem HOk.cut(x:HOk P w H h)(hC:∀c∈C,∀o,H c=some o->te o=true):HOk P w (Zbc C H) h:=λa o e=>by
 obtain⟨_,e⟩:=Zhy e;have out:∀{b:Addr} {u:HO},H b=some u->te u=false->Zbc C H b=some u:=λ{b u} q t=>by rw[Zao λz=>by rw[hC b z u q]at t; cases t]; exact q
 exact(x a o e).stay (λ_ _ _ q=>q) (λb q=>out q rfl) λb xs q=>out q rfl
theorem HOk.put(x:HOk P w H h)(hn:∀c∈C,H c=none)(hC:∀c∈C,∀u,G c=some u->∃o,u=Zbm c o/\h.get? c=some o):HOk P w (ZgK C G H) h:=λa o e=>by
 have out:∀{b:Addr} {u:HO},H b=some u->ZgK C G H b=some u:=λ{b u} q=>by rw[Zbn λz=>by rw[hn b z]at q; cases q]; exact q
 by_cases ha:a∈C
 ·rw[ZeP ha]at e
  obtain⟨ob,rfl,hb⟩:=hC a ha o e;exact ZiV hb
 ·rw[Zbn ha]at e
  exact(x a o e).stay (λ_ _ _ q=>q) (λb q=>out q) λb xs q=>out q
end
structure Zj8(scope:Scope)(x:Str)(names:List Str):Prop where
 kind:scope.kind=.function
 co:scope.isCoroutine=false
 gen:scope.isGenerator=false
 nocell:∀y∈scope.names,y.2≠.cell
 par:scope.names.lookup x=some .local
 free:∀n∈names,scope.names.lookup n=some .free
 nd:(x::names).Nodup
def Zmo(P:Program)(w:World)(K:ZxR)(mg:Str->Option Value)(base:Heap)(N:List Str)(qual:Str)(scope:Scope)(f:Addr)(cd:Value)(clos:List (Str × Addr))(A:Around)(outer:List Env)(s:Shared)(H:Hp):Cx where
 prog:=P
 w:=w
 K:=K
 mg:=mg
 base:=base
 A:=A.deeper (ZAJ qual scope s.heap.objs.size f cd clos)
 N:=N
 s₀:=s
 H₀:=H
 env:=ZAJ qual scope s.heap.objs.size f cd clos
 outer:=outer
 stack:=ZAJ qual scope s.heap.objs.size f cd clos::outer
 ex:=[]
 calm:=true
 fn:=λ_=>false
 pn:=[]
 xe:=λ_ _=>False
section
variable{P:Program}{w:World}{K:ZxR}{mg:Str->Option Value}{base:Heap}{A:Around}{outer:List Env}{s:Shared}{H:Hp}{k:Nat}
theorem Zrn{qual x:Str}{scope:Scope}{names:List Str}{f:Addr}{cd:Value}{clos:List (Str × Addr)}(S:Zj8 scope x names)(hd:A.handled=none)(e0:ZeH P w K mg base A outer s H)
  (inj:∀y z a,clos.lookup y=some a->clos.lookup z=some a->y=z) (has:∀y∈scope.names,y.2=.free->(clos.lookup y.1).isSome=true)
  (hcell:∀y a,clos.lookup y=some a->H a=none/\∃o v,s.heap.get? a=some o/\o.data=.cell v)
  {v:V} {u:Value} (rv:RelV v u) {vs:List V} (hlen:names.length=vs.length) (hcap:∀(i:Nat) (y:Str) (v':V),names[i]?=some y->vs[i]?=some v'->∃a o u',clos.lookup y=some a/\s.heap.get? a=some o/\o.data=.cell (some u')/\RelV v' u')
  {h':Heap} {tk:Nat} (hns:h'.Ns s.heap.objs.size λy=>[(x,u)].reverse.lookup y) (hsb:ZzH s.heap.objs.size (s.heap.push { cls:=.type "frame",data:=.dict #[] }) h') :
  Inv (Zmo P w K mg base (x::names) qual scope f cd clos A outer s H) [] (some v::vs.map some) H { s with heap:=h',toks:=tk }:=by
 have hk:∀b o,s.heap.get? b=some o->h'.get? b=some o:=λb o e=>hsb.extBut b o (Zyf (Zx7 e)) (ZxX _ e);have noA:∀b:Addr,b ∉ (Zmo P w K mg base (x::names) qual scope f cd clos A outer s H).ex:=λb z=>absurd (show b∈([]:List Addr) from z) (by simp);refine⟨⟨e0.mod,S.kind,rfl,rfl,Zx2 _,inj,λy hy=>?_,λy c z=>absurd (show false=true from z) (by simp),λ_=>hd,ZCo e0.frames,.inr ⟨rfl,rfl⟩,λb z=>absurd z (noA b),e0.bs,e0.bsz,λb _ _=>noA b,λb z=>absurd z (noA b),e0.funs,e0.frf⟩,
  rfl,e0.bare,Un.kept hk,⟨_,hns,λi y v' h1 h2 h3=>?_⟩,λy c e=>?_,e0.hok.fresh (Zx2 _),λy c e=>(hcell y c e).1,λp hp=>absurd (show p∈([]:List (Addr × Obj)) from hp) (by simp),e0.hok.kept hk,?_⟩
 ·have hy:scope.names.lookup y=some .cell\/scope.names.lookup y=some .free:=hy
  rcases hy with hy | hy
  ·exact absurd rfl (S.nocell _ (Zzk hy))
  ·exact Zys.mp (has _ (Zzk hy) rfl)
 ·cases i with
  | zero=>have e1:x=y:=ZyK h1;have e2:v=v':=ZyK (ZyK h2);subst e1 e2;exact⟨u,rv,.inl ⟨S.par,by simp⟩⟩
  | succ i=>have h1:names[i]?=some y:=h1;have h2:(vs.map some)[i]?=some (some v'):=h2;rw[Zyk]at h2;obtain⟨v2,h4,h5⟩:=ZxT.mp h2;cases h5;obtain⟨a,o,u',q1,q2,q3,q4⟩:=hcap i y v' h1 h4;exact⟨u',q4,.inr ⟨.inr (S.free y (Zym h1)),a,q1,o,hk _ _ q2,q3⟩⟩
 ·obtain⟨_,o,v',q1,q2⟩:=hcell y c e
  exact⟨v',o,hk _ _ q1,q2⟩
 ·show(some v::vs.map some).length=(x::names).length
  rw[Zx8,Zx8,ZxS,hlen]
end
end HP
namespace HP
open PySem PySem.Spec PyProof.Rows L2
variable[FX]
def cellsOf(clos:List (Str × Addr)):List Addr:=clos.filterMap λq=>clos.lookup q.1
theorem ZlM{clos:List (Str × Addr)}{a:Addr}:a∈cellsOf clos↔∃y,clos.lookup y=some a:=by unfold cellsOf;rw[Zza];exact⟨λ⟨q,_,h⟩=>⟨q.1,h⟩,λ⟨y,h⟩=>⟨(y,a),Zzk h,h⟩⟩
theorem Tb.cut{P:Program}{w:World}{C:List Addr}{H:Hp}{h:Heap}(t:Tb H)(x:HOk P w H h)(hC:∀c∈C,∃o v,H c=some (Zbm c o)/\o.data=.cell v):Tb (Zbc C H):=λT q hT=>by
 obtain⟨ps,h1,h2,h3⟩:=t T q hT;refine⟨ps,?_,h2,λpos c hc=>?_⟩
 ·rw[Zao λz=>by
   obtain⟨o,v,e,_⟩:=hC T z;rw[h1]at e; cases e]
  exact h1
 ·obtain⟨a,o,e1,e2,e3⟩:=h3 pos c hc
  refine⟨a,o,e1,?_,e3⟩;rw[Zao λz=>by obtain⟨o',v,f1,f2⟩:=hC a z;have g1:=Zck (x a _ e2);have g2:=Zck (x a _ f1);rw[g1]at g2;cases g2;obtain⟨vs,tt,d1,_⟩:=e3;rw[d1]at f2; cases f2];exact e2
section
variable{P:Program}{w:World}{K:ZxR}{mg:Str->Option Value}{base:Heap}{k:Nat}
theorem Zt8{params:Arguments}{body:Expr}{scope:Scope}{x:Str}{names:List Str}{g:HM.EF}(S:Zj8 scope x names)
  (hbind:∀(qual:Str) (clos:List (Str × Addr)) (pm cd ctv u:Value),bindArgs (PySem.W.kla_fn "<lambda>" qual params body scope clos pm cd ctv) ⟨[u],[]⟩=pure [(x,u)])
  (hbody:∀(qual:Str) (f:Addr) (cd:Value) (clos:List (Str × Addr)) (A:Around) (outer:List Env) (s:Shared) (H:Hp),Zaq k (A.deeper (ZAJ qual scope s.heap.objs.size f cd clos))->XE (Zmo P w K mg base (x::names) qual scope f cd clos A outer s H) body g)
  {A:Around} {outer:List Env} {s:Shared} {F H:Hp} {p:Addr} {cs:List PyData} (C:Clo K F p params body scope names cs) (e0:ZeH P w K mg base A outer s H) (sub:Zp F H) (hr:Zaq (k+1) A) (tb:Tb H) (nt:NoT F)
  {us:List Value} {vs:List V} {ds:List PyData} {d:PyData} {Q:VK} (rv:Vals vs us) (rs:Zu K F ds vs) (hap:HM.ZkG 1 names.length g cs ds=some d) (kk:∀v F' H',Ext F H F' H'->Rep K F' d v->Q v H') :
  codeAny (model P w) A (.call (.ref p) ⟨us,[]⟩) (CR CX0 outer P w H s Q E0) s:=by
 unfold HM.ZkG at hap;split at hap
 case isFalse=>cases hap
 rename_i hc;obtain⟨hl1,hl2,hnf⟩:=hc;obtain⟨d0,rfl⟩:=List.length_eq_one_iff.mp hl1;obtain⟨v0,vs',rfl,r0,rs'⟩:=rs.cons_inv;obtain rfl:=rs'.nil_inv;obtain⟨u0,rfl,ru0⟩:=vals1 rv;have hnf0:HM.noF 20 d0=true:=by rw[Zy5,Zyd]at hnf; exact hnf.1
 obtain⟨qual,pm,ctv,c,oc,clos,h1,h2,h3,h4,h5,h6,h7,h8⟩:=C.ex;generalize hCs:cellsOf clos=Cs;have hCm:∀a,a∈Cs↔∃y,clos.lookup y=some a:=λa=>by rw[<-hCs]; exact ZlM
 have hCo:∀a∈Cs,∃o v,F a=some (Zbm a o)/\o.data=.cell v/\s.heap.get? a=some o:=λa ha=>by obtain⟨y,e⟩:=(hCm a).mp ha;obtain⟨o,v,q1,q2⟩:=h6 y a e;exact⟨o,v,q1,q2,Zck (e0.hok a _ (sub _ _ q1))⟩
 have hCt:∀a∈Cs,∀o,H a=some o->te o=true:=λa ha o e=>by obtain⟨ob,v,q1,_,_⟩:=hCo a ha;rw[sub _ _ q1]at e; cases e; rfl
 have hCn:∀a∈Cs,H a≠none:=λa ha z=>by obtain⟨ob,v,q1,_,_⟩:=hCo a ha;rw[sub _ _ q1]at z; cases z
 have none1:∀b,H b=none->Zbc Cs H b=none:=λb e=>by
  by_cases hb:b∈Cs
  ·exact Zg2 hb
  ·rw[Zao hb]; exact e
 have e1:ZeH P w K mg base A outer s (Zbc Cs H):=⟨e0.frames,e0.mod,λb o e=>⟨(e0.bs b o e).1,none1 b (e0.bs b o e).2⟩,e0.bsz,e0.funs,λb hb=>none1 b (e0.frf b hb),HOk.cut e0.hok hCt,e0.bare⟩;have KX:K.In s.heap:=e0.mod.kin.keeps λb o e=>(e0.bs b o e).1;have lim:s.heap.NoLimit:=e0.mod.nolimit.keeps λb o e=>(e0.bs b o e).1;have hcd:s.heap.CodeRec (.ref c) qual:=by obtain⟨vs,t,d1,d2⟩:=h3;exact⟨c,oc,vs,t,rfl,Zck (e0.hok c _ (sub _ _ h2)),d1,d2⟩
 refine PySem.W.kla_callFunE hr.depth (Zck (e0.hok p _ (sub _ _ h1))) rfl S.co S.gen rfl hcd ?_;rw[hbind];refine ZxV (ZBh S.nocell (λy hy=>by rw[Zyb.mp hy]; exact S.par) (λh' hns hsb=>⟨lim.fresh _ hsb,?_⟩) S.kind);show codeAny _ _ (.expr body (ZAJ qual scope s.heap.objs.size p (.ref c) clos)) _ _;have hvs:∃wv:List V,names.length=wv.length/\(∀(i:Nat) (y:Str) (v':V),names[i]?=some y->wv[i]?=some v'->∃a o u',clos.lookup y=some a/\s.heap.get? a=some o/\o.data=.cell (some u')/\RelV v' u')/\Zu K (Zbc Cs F) cs wv:=by
  have step:∀n,n<=cs.length->∃wv:List V,wv.length=n/\∀(i:Nat) (y:Str) (d:PyData) (v':V),names[i]?=some y->cs[i]?=some d->wv[i]?=some v'->(∃a o u',clos.lookup y=some a/\s.heap.get? a=some o/\o.data=.cell (some u')/\RelV v' u')/\Rep K (Zbc Cs F) d v':=by
   intro n
   induction n with
   | zero=>exact λ_=>⟨[],rfl,λi y d v' _ _ h=>by simp at h⟩
   | succ n ih =>
    intro hn;obtain⟨wv,l1,l2⟩:=ih (by omega);have hy:n<names.length:=by omega
    have hd:n<cs.length:=by omega
    obtain⟨a,o,u',v',q1,q2,q3,q4,q5⟩:=h8 n names[n] cs[n] (Zx5 hy) (Zx5 hd);refine⟨wv++[v'],by rw[Zyc,l1]; rfl,λi y d v2 g1 g2 g3=>?_⟩
    by_cases hi:i<n
    ·rw[ZyE (by omega)]at g3
     exact l2 i y d v2 g1 g2 g3
    ·have hin:i=n:=by
      have:=(Zx4.mp g3).1;rw[Zyc,l1]at this;have:i<n+1:=this;omega
     subst hin;rw[ZyA (by omega),l1,Nat.sub_self]at g3;rw[Zx5 hy]at g1;rw[Zx5 hd]at g2;cases g1; cases g2; cases g3;refine⟨⟨a,o,u',q1,Zck (e0.hok a _ (sub _ _ q2)),q3,q4⟩,?_⟩;refine(Rep0.cut (λb ob z t=>?_) q5).up;rw[Zao λhb=>by obtain⟨ob',v,w1,_,_⟩:=hCo b hb;rw[w1]at z; cases z; cases t];exact z
  obtain⟨wv,l1,l2⟩:=step cs.length (Zx2 _);refine⟨wv,by omega,λi y v' g1 g3=>?_,by omega,λi d v' g2 g3=>?_⟩
  ·have hi:=(Zx4.mp g3).1
   exact(l2 i y cs[i] v' g1 (Zx5 (by omega)) g3).1
  ·have hi:=(Zx4.mp g3).1
   exact(l2 i names[i] d v' (Zx5 (by omega)) g2 g3).2
 obtain⟨wv,wl,wc,wr⟩:=hvs;have cutF:∀b o,F b=some o->te o=false->Zbc Cs F b=some o:=λb ob z t=>by rw[Zao λhb=>by obtain⟨ob',v,w1,_,_⟩:=hCo b hb;rw[w1]at z; cases z; cases t];exact z
 have r0':Rep K (Zbc Cs F) d0 v0:=(Rep.cutF cutF r0 20 hnf0).up;have sub1:Zp (Zbc Cs F) (Zbc Cs H):=λb o e=>by obtain⟨hb,e⟩:=Zhy e;rw[Zao hb]; exact sub _ _ e
 have nt1:NoT (Zbc Cs F):=λb o e=>nt b o (Zhy e).2;have tb1:Tb (Zbc Cs H):=tb.cut e0.hok λa ha=>by obtain⟨o,v,q1,q2,_⟩:=hCo a ha;exact⟨o,v,sub _ _ q1,q2⟩
 have I:=Zrn (qual:=qual) (f:=p) (cd:=.ref c) (tk:=s.toks+1) S hr.hd e1 h4 h5 (λy a e=>by obtain⟨o,v,q1,q2,q3⟩:=hCo a ((hCm a).mpr ⟨y,e⟩);exact⟨Zg2 ((hCm a).mpr ⟨y,e⟩),o,v,q3,q2⟩) ru0 wl wc hns hsb;have a0:At K (Zbc Cs F) (Zbc Cs H) (Zbc Cs F) (Zbc Cs H) ((d0::cs).map λd=>some (HM.B.pl d)) (some v0::wv.map some):=by
  have:=ZfY (N:=x::names) sub1 tb1 nt1 (Zu.cons r0' wr) (by rw[Zx8,Zx8]; omega);have e3:HM.ZeD (x::names).length (d0::cs)=(d0::cs).map λd=>some (HM.B.pl d):=by unfold HM.ZeD;rw[Zx8,Zx8,show names.length+1-(cs.length+1)=0 by omega];exact Zyu _
  have e4:L2.start (x::names) (v0::wv)=some v0::wv.map some:=by unfold L2.start;rw[Zx8,Zx8,show names.length+1-(wv.length+1)=0 by omega];exact Zyu _
  rw[e3,e4]at this;exact this
 refine PySem.W.kla_codeExpr (Zy3 (hbody qual p (.ref c) clos A outer s (Zbc Cs H) (hr.deeper _) _ _ hap [] _ _ _ (λv' H'=>∃F',Ext (Zbc Cs F) (Zbc Cs H) F' H'/\Rep K F' d v') I ⟨_,_,_,a0,λv' F' H' x' q'=>⟨F',x',q'⟩⟩) (λu' s' hq=>?_) λe s' hq=>ZyU hq);obtain⟨v',H',I',ru',F',x',q'⟩:=hq;have un:Un (frs outer) [] (Zbc Cs H) H' s.heap s'.heap:=I'.base;have nfs:∀a∈Cs,a ∉ frs outer:=λa ha hb=>hCn a ha (e0.frf a hb);have kc:∀a∈Cs,∃o,H a=some (Zbm a o)/\F a=some (Zbm a o)/\s'.heap.get? a=some o/\H' a=none:=λa ha=>by obtain⟨o,v,q1,q2,q3⟩:=hCo a ha;exact⟨o,sub _ _ q1,q1,un.keep a o q3 (Zg2 ha) (nfs a ha) (by simp),un.free a o q3 (Zg2 ha) (by simp)⟩
 have out:∀{b:Addr} {o:HO},H b=some o->te o=false->b ∉ Cs:=λ{b o} e t hb=>by rw[hCt b hb o e]at t; cases t
 have outN:∀{b:Addr},H b=none->b ∉ Cs:=λ{b} e hb=>hCn b hb e;have outT:∀{b:Addr} {ps:Array Value},H b=some (.tbl ps)->b ∉ Cs:=λ{b ps} e hb=>by obtain⟨o,q,_⟩:=kc b hb;rw[e]at q; cases q
 refine⟨v',ZgK Cs H H',I'.os,I'.bare,⟨λb o e n hb hx=>?_,λb o e n hb hx=>?_,λb o e n hx=>?_,un.there,λb xs e=>?_,λb o u e=>?_,λb ps e=>?_⟩,HOk.put I'.hok (λa ha=>by obtain⟨_,_,_,_,q⟩:=kc a ha; exact q) (λa ha u e=>?_),ru',kk v' (ZgK Cs F F') (ZgK Cs H H') ⟨λb o e=>?_,λb o e=>?_,λb o e=>?_,λb o e=>?_,λt=>?_,λn b o e=>?_⟩ (q'.mono λb o e=>?_)⟩
 ·exact un.keep b o e (none1 b n) hb hx
 ·exact un.slot b o e (none1 b n) hb hx
 ·rw[Zbn (outN n)]; exact un.free b o e (none1 b n) hx
 ·have hb:=out e rfl
  rw[Zbn hb]; exact un.tups b xs (by rw[Zao hb]; exact e)
 ·have hb:=out e rfl
  rw[Zbn hb]; exact un.frzs b o u (by rw[Zao hb]; exact e)
 ·have hb:=outT e
  rw[Zbn hb]; exact un.tbls b ps (by rw[Zao hb]; exact e)
 ·obtain⟨o,q1,_,q3,_⟩:=kc a ha
  rw[q1]at e; cases e;exact⟨o,rfl,q3⟩
 ·by_cases hb:b∈Cs
  ·rw[ZeP hb]; exact e
  ·rw[Zbn hb]; exact x'.ff b o (by rw[Zao hb]; exact e)
 ·by_cases hb:b∈Cs
  ·exact .of (by rw[ZeP hb]; exact e)
  ·exact(x'.hh b o (by rw[Zao hb]; exact e)).cong (Zbn hb)
 ·by_cases hb:b∈Cs
  ·rw[ZeP hb]at e ⊢; exact sub _ _ e
  ·rw[Zbn hb]at e ⊢; exact x'.sub _ _ e
 ·by_cases hb:b∈Cs
  ·rw[ZeP hb]at e; exact .inl e
  ·rw[Zbn hb]at e
   rcases x'.new b o e with q | q
   ·exact .inl (Zhy q).2
   ·refine .inr ?_
    unfold Fre at q ⊢;rw[Zao hb]at q;exact q
 ·exact(x'.tab tb1).keep λa o e _=>by rw[Zbn λhb=>by obtain⟨_,_,_,_,q⟩:=kc a hb;rw[e]at q; cases q];exact e
 ·by_cases hb:b∈Cs
  ·rw[ZeP hb]at e; exact n b o e
  ·rw[Zbn hb]at e; exact x'.nts nt1 b o e
 ·rw[Zbn λhb=>by
   obtain⟨_,_,_,_,q⟩:=kc b hb;rw[x'.sub _ _ e]at q; cases q]
  exact e
end
end HP
namespace HP
open PySem PySem.Spec PyProof.Rows L2
variable[FX]
theorem Zqy{a b:Int}{cv:Value}(l:List Value)(h:TriplesOk l):∀(pos:Pos) (c:Value),ZBv pos (l++[rawInt a,rawInt b,cv])=some c->ZBv pos l=some c\/c=cv:=by
 fun_induction TriplesOk l with
 | case1 =>
  intro pos c e;simp only[ZzW,ZBv,rawInt]at e;split at e
  ·cases e; exact .inr rfl
  ·cases e
 | case2 x t y u z rest ih =>
  intro pos c e;simp only[ZBY,ZBv]at e ⊢;split at e
  ·rename_i hq
   rw[if_pos hq];exact .inl e
  ·rename_i hq
   rw[if_neg hq];exact ih h pos c e
 | case3=>exact h.elim
def BMod(base:Heap)(mg:Str->Option Value):Prop:=∃bm o,mg "__builtins__" = some (.ref bm)/\bm≠ZBL/\bm≠Zyz/\base.get? bm=some o/\o.cls=.type "module"/\o.dict=some ZBL/\o.data=.plain
structure Zql(X:Cx)(t:Nat)(params:Arguments)(body:Expr)(scope:Scope)(names:List Str)(is:List Nat):Prop where
 code:∃c P,X.env.code=.ref c/\Zzt X.K c P=true/\(P,X.env.qual ++ "<lambda>")∈FX.tl/\∀q,(P,q)∈FX.tl->q=X.env.qual ++ "<lambda>"
 bm:BMod X.base X.mg
 dflt:defaultsOf params X.env=([],[])
 len:is.length=names.length
 at_:∀(j i:Nat) (x:Str),is[j]?=some i->names[j]?=some x->X.N[i]?=some x/\X.env.scope.names.lookup x=some .cell
 cells:∀y∈scope.names,y.2=.free->X.env.scope.names.lookup y.1=some .cell
 free:∀x∈names,(x,ZzZ)∈scope.names
 own:∀x,X.fn x=true
 good:∀F p cs,Clo X.K F p params body scope names cs->FX.fv t cs F p
section
variable{X:Cx}{t:Nat}{params:Arguments}{body:Expr}{scope:Scope}{names:List Str}{is:List Nat}{pos lpos p:Pos}
structure Made(X:Cx)(params:Arguments)(body:Expr)(scope:Scope)(H H':Hp)(q:Addr)(clos:List (Str × Addr)):Prop where
 ex:∃(pm ctv:Value) (c:Addr) (oc:Obj),H' q=some (Zbm q (ZBi "<lambda>" (X.env.qual ++ "<lambda>") params body scope clos pm c ctv))/\H' c=some (Zbm c oc)/\ZkZ oc (X.env.qual ++ "<lambda>")
 hh:ZaF H H'
 tb:Tb H'
theorem ZtA(L:Zql X t params body scope names is){pins:List (Addr × Obj)}{s:Shared}{σ:L2.St}{H:Hp}(I:Inv X pins σ H s)(tb:Tb H){clos:List (Str × Addr)}(hcl:closureFor scope X.env=pure clos) :
  wpAny (model X.prog X.w) X.A (eval (.Lambda params body scope lpos) X.env) (λu s'=>∃q H',u=.ref q/\Inv X pins σ H' s'/\Made X params body scope H H' q clos) X.xe s:=by
 obtain⟨c,P,hc,hh,hm,hu⟩:=L.code;obtain⟨ps,hP,ht,hg⟩:=tb P _ hm;have gP:s.heap.get? P=some (ZAt ps):=I.hok P _ hP;have Ns:=I.mod.glob.keeps I.bk;have CH:PySem.W.CodeHd s.heap c P:=ZCw I.kIn hh;obtain⟨bm,ob,b1,b2,b3,b4,b5,b6,b7⟩:=L.bm;have gb:=I.bk _ _ b4;have hbP:bm≠P:=λz=>by rw[z,gP]at gb; cases gb; cases b5
 have hgP:Zyz≠P:=λz=>by obtain⟨o,es,ep,e,hd,_⟩:=Ns;rw[z,gP]at e; cases e; cases hd
 have BA:s.heap.BuiltinsAt X.mg P:=⟨bm,ob,b1,b2,b3,hbP,gb,b5,b6,b7⟩;refine PySem.W.kla_eval L.dflt ?_;cases hq:ZBv lpos ps.toList with
 | some cv =>
  obtain⟨a,oc,rfl,h1,h2⟩:=hg lpos cv hq;refine PySem.W.kla_makeFunctionHit hcl I.ok.glob Ns hc CH gP ht hq BA λctv h' tk hk hz=>?_;generalize hob:ZBi "<lambda>" (X.env.qual ++ "<lambda>") params body scope clos ((X.mg "__name__").getD .none) a ctv=fo;have hn:H h'.objs.size=none:=I.hok.fresh hz;have hk2:∀b o,s.heap.get? b=some o->(h'.push fo).get? b=some o:=λb o e=>ZxX _ (hk b o e);have gq:(h'.push fo).get? h'.objs.size=some fo:=by rw[<-hob]; exact Zx9 _ rfl
  refine⟨h'.objs.size,upd H h'.objs.size (Zbm h'.objs.size fo),rfl,?_,⟨_,ctv,a,oc,by rw[ZF,<-hob],?_,h2⟩,.of (ZjS hn),tb.same (ZjS hn)⟩
  ·subst hob
   exact I.laid (t':=tk) hk2 hz (ZiV gq)
  ·rw[ZA (Zaw h1 hn)]; exact h1
 | none =>
  refine PySem.W.kla_makeFunction hcl I.ok.glob Ns hc CH gP ht hq hgP BA λc' ctv h' tk hx hge hlt hrec htab=>?_;generalize hob:ZBi "<lambda>" (X.env.qual ++ "<lambda>") params body scope clos ((X.mg "__name__").getD .none) c' ctv=fo;generalize hps:ps++#[rawInt lpos.line,rawInt lpos.col,ZyO c']=ps2 at htab;obtain⟨c2,oc,vs,tq,e2,goc,d1,d2⟩:=hrec;cases e2;have hcn:H c'=none:=I.hok.fresh hge;have hqn:H h'.objs.size=none:=I.hok.fresh (ZyG hge (ZzG hlt));have hcq:c'≠h'.objs.size:=Zyf hlt;have hcP:c'≠P:=λz=>by rw[z,hP]at hcn; cases hcn
  have hqP:h'.objs.size≠P:=λz=>by rw[z,hP]at hqn; cases hqn
  have gq:(h'.push fo).get? h'.objs.size=some fo:=by rw[<-hob]; exact Zx9 _ rfl
  have gc:(h'.push fo).get? c'=some oc:=ZxX _ goc;have gP2:(h'.push fo).get? P=some (ZAt ps2):=ZxX _ htab;have hk2:∀b o,b≠P->s.heap.get? b=some o->(h'.push fo).get? b=some o:=λb o hb e=>ZxX _ (hx b o hb e);generalize hH':upd (upd (upd H P (.tbl ps2)) c' (Zbm c' oc)) h'.objs.size (Zbm h'.objs.size fo)=H';have aq:H' h'.objs.size=some (Zbm h'.objs.size fo):=by rw[<-hH',ZF]
  have ac:H' c'=some (Zbm c' oc):=by rw[<-hH',ZA hcq,ZF]
  have aP:H' P=some (.tbl ps2):=by rw[<-hH',ZA (ZyR hqP),ZA (ZyR hcP),ZF]
  have ao:∀b,b≠h'.objs.size->b≠c'->b≠P->H' b=H b:=λb n1 n2 n3=>by rw[<-hH',ZA n1,ZA n2,ZA n3]
  have at1:∀b o,H b=some o->b≠P->H' b=some o:=λb o e n=>by rw[ao b (Zaw e hqn) (Zaw e hcn) n]; exact e
  have nP:∀b o,H b=some o->(∀ps,o≠.tbl ps)->b≠P:=λb o e n z=>by rw[z,hP]at e; cases e; exact n _ rfl
  have old:∀b o,s.heap.get? b=some o->b≠h'.objs.size/\b≠c':=λb o e=>by have hb:=Zx7 e;exact⟨Zyf (Zyl hb (ZyG hge (ZzG hlt))),Zyf (Zyl hb hge)⟩
  have hokN:HOk X.prog X.w H' (h'.push fo):=λb o e=>by
   by_cases n1:b=h'.objs.size
   ·subst n1; rw[aq]at e; cases e; exact ZiV gq
   ·by_cases n2:b=c'
    ·subst n2; rw[ac]at e; cases e; exact ZiV gc
    ·by_cases n3:b=P
     ·subst n3; rw[aP]at e; cases e; exact gP2
     ·rw[ao b n1 n2 n3]at e
      refine(I.hok b o e).stay (λd u hd z=>hk2 d u (λy=>?_) z) (λd z=>at1 d _ z (nP d _ z λ_ y=>by cases y)) λd xs z=>at1 d _ z (nP d _ z λ_ y=>by cases y);rcases hd with y2 | y2
      ·exact n3 (y2▸y)
      ·exact nP d _ y2 (λ_ q=>by cases q) y
  have un:Un X.fs [] H H' s.heap (h'.push fo):=by
   refine⟨λb o e n hb hx=>?_,λb o e n hb hx=>?_,λb o e n hx=>?_,λb o e hx=>?_,λb xs e=>at1 b _ e (nP b _ e λ_ y=>by cases y),λb o u e=>at1 b _ e (nP b _ e λ_ y=>by cases y),λb pp e=>?_⟩
   ·exact hk2 b o (λz=>by rw[z,hP]at n; cases n) e
   ·exact⟨o.slots,hk2 b o (λz=>by rw[z,hP]at n; cases n) e⟩
   ·obtain⟨n1,n2⟩:=old b o e
    rw[ao b n1 n2 (λz=>by rw[z,hP]at n; cases n)]; exact n
   ·by_cases n3:b=P
    ·exact⟨_,by rw[n3]; exact gP2⟩
    ·exact⟨o,hk2 b o n3 e⟩
   ·by_cases n3:b=P
    ·subst n3
     rw[hP]at e; cases e;exact⟨_,by rw[aP,<-hps]⟩
    ·exact⟨#[],by rw[at1 b _ e n3]; simp⟩
  refine⟨h'.objs.size,H',rfl,?_,⟨_,ctv,c',oc,by rw[aq,<-hob],ac,vs,tq,d1,d2⟩,λb o e=>?_,λT q hT=>?_⟩
  ·exact I.un (t':=tk) un hokN
  ·by_cases n3:b=P
   ·subst n3
    rw[hP]at e; cases e;exact⟨_,aP⟩
   ·exact .of (at1 b o e n3)
  ·by_cases n3:T=P
   ·subst n3
    obtain rfl:=hu q hT;refine⟨ps2,aP,?_,λpos' cc hcc=>?_⟩
    ·rw[<-hps,Array.toList_append]
     exact TriplesOk_snoc _ _ _ _ ht
    ·rw[<-hps,Array.toList_append]at hcc
     rcases Zqy _ ht _ _ hcc with e | e
     ·obtain⟨a,o,q1,q2,q3⟩:=hg pos' cc e
      exact⟨a,o,q1,at1 a _ q2 (nP a _ q2 λ_ y=>by cases y),q3⟩
     ·exact⟨c',oc,e,ac,vs,tq,d1,d2⟩
   ·obtain⟨ps',w1,w2,w3⟩:=tb T q hT
    refine⟨ps',at1 T _ w1 n3,w2,λpos' cc hcc=>?_⟩;obtain⟨a,o,q1,q2,q3⟩:=w3 pos' cc hcc;exact⟨a,o,q1,at1 a _ q2 (nP a _ q2 λ_ y=>by cases y),q3⟩
theorem Znc{r:HM.Env}:∀{is:List Nat} {cs:List PyData},HM.Zko is r=some cs->cs.length=is.length/\∀(j i:Nat),is[j]?=some i->∃d,cs[j]?=some d/\r[i]?=some (some (.pl d))
 | [],cs,h=>by cases h; exact⟨rfl,λj i e=>by simp at e⟩
 | i::is,cs,h=>by
  unfold HM.Zko at h;split at h
  ·rename_i d hd
   obtain⟨cs',h1,h2⟩:=ZxT.mp h;subst h2;obtain⟨l,k⟩:=Znc h1;refine⟨by rw[Zx8,Zx8,l],λj i' e=>?_⟩;cases j with
   | zero=>cases e; exact⟨d,rfl,hd⟩
   | succ j=>exact k j i' e
  ·cases h
def ZeG(F H:Hp):Hp:=λb=>match H b with
 | some (.ext φ)=>some (.ext φ)
 | _=>F b
theorem Zhv{F H:Hp}{a:Addr}{o:Obj}(h:H a=some (Zbm a o)):ZeG F H a=some (Zbm a o):=by unfold ZeG Zbm at *;rw[h]
theorem Zj2{F H:Hp}{b:Addr}{o:HO}(h:ZeG F H b=some o):(H b=some o/\te o=true)\/F b=some o:=by
 unfold ZeG at h;split at h
 ·rename_i φ e
  cases h;exact .inl ⟨e,rfl⟩
 ·exact .inr h
theorem Zuz{F H:Hp}(s:Zp F H){b:Addr}{o:HO}(h:F b=some o):ZeG F H b=some o:=by have h2:=s b o h;unfold ZeG;rw[h2];cases o<;>first | rfl | exact h
theorem ZpN{k:Nat}{x:Str}{M:List PyData->Option PyData}{e:Expr}{fa:HM.EF}(C:Callee X.prog X.w X.K X.mg X.base k x M)(hr:Zaq k X.A)(L:Zql X t params body scope names is)(ha:XE X e fa)(hg:Gl X x:=by rfl)(hdb:(x==("__debug__":Str))=false:=by decide)
  (he:Zx6 [e,.Lambda params body scope lpos] X.env=(false,eval e X.env)::Zx6 [.Lambda params body scope lpos] X.env:=by rfl) (he2:Zx6 [.Lambda params body scope lpos] X.env=[(false,eval (.Lambda params body scope lpos) X.env)]:=by rfl)
  (hpl:(backTo pos (Zx6 [.Lambda params body scope lpos] X.env)).any (·.1)=false:=by rfl):XE X (.Call (.Name x p) [e,.Lambda params body scope lpos] [] pos) (HM.ZhC M t is fa):=by
 intro r d hd;unfold HM.ZhC at hd;split at hd
 case h_2=>cases hd
 rename_i d1 hd1;split at hd
 case h_2=>cases hd
 rename_i cs hcs;split at hd
 case isFalse=>cases hd
 rename_i hnc;split at hd
 case h_2=>cases hd
 rename_i d' hM;split at hd
 case isFalse=>cases hd
 rename_i hnd;cases hd;obtain⟨fa',fd,ps,hl,FN,hm,hk,hb⟩:=C.ex;intro pins s σ H Q I ⟨F0,H0,F,at_,kk⟩;obtain⟨clos,hcl,hc1,hc2⟩:=Zfg (scope:=scope) (env:=X.env) λy hy hf=>I.ok.has _ (.inl (L.cells y hy hf));refine ZzT (Zli I hg hm ?_ hdb);have lamPE:PE X (.Lambda params body scope lpos) λσ' H' Q'=>Tb H'/\∀q H2,Made X params body scope H' H2 q clos->Q' (.ref q) H2:=λpins' s' σ' H' Q' I' ⟨tb',k'⟩=>thn (ZtA L I' tb' hcl) λu s2 ⟨q,H2,e1,I2,m⟩=>by subst e1; exact⟨.ref q,H2,I2,rfl,k' q H2 m⟩
 refine ZCz (h₀:=X.base) I.ok.mod.kin hk (thn (ZaI (ha r d1 hd1) (ZaI lamPE Zb3 he2) he pos pins s σ H (λvs H2=>∃v1 F1 H1 q,vs=[v1,.ref q]/\Ext F H F1 H1/\Rep X.K F1 d1 v1/\Made X params body scope H1 H2 q clos) I
  ⟨F0,H0,F,at_,λv F1 H1 x1 r1=>⟨at_.tbx x1,λq H2 m=>⟨v,F1,H1,q,rfl,x1,r1,m⟩⟩⟩) λus s2 ⟨vs,H2,I2,rv,v1,F1,H1,q,ev,x1,r1,m⟩=>⟨I2.kIn,?_⟩) he hpl
 subst ev;have at1:=at_.grow x1;have tb1:=at_.tbx x1;have nt1:=at_.ntx x1;generalize hCs:cellsOf clos=Cs;have hCm:∀a,a∈Cs↔∃y,clos.lookup y=some a:=λa=>by rw[<-hCs]; exact ZlM
 have hCc:∀a∈Cs,∃y o v,X.env.cells.lookup y=some a/\s2.heap.get? a=some o/\o.data=.cell v/\H2 a=none:=λa ha=>by obtain⟨y,e⟩:=(hCm a).mp ha;have e1:=hc1 y a e;obtain⟨v,o,h1,h2⟩:=I2.cell y a e1;exact⟨y,o,v,e1,h1,h2,I2.freeC y a e1⟩
 generalize hG:(λa:Addr=>(s2.heap.get? a).map (Zbm a))=G;have hGo:∀{a:Addr} {o:Obj},s2.heap.get? a=some o->G a=some (Zbm a o):=λ{a o} e=>by rw[<-hG]; show Zzo _ _=_; rw[e]; rfl
 generalize hH3:ZgK Cs G H2=H3;have h3in:∀{a:Addr},a∈Cs->∃o v,H3 a=some (Zbm a o)/\s2.heap.get? a=some o/\o.data=.cell v:=λ{a} ha=>by obtain⟨y,o,v,_,g1,g2,_⟩:=hCc a ha;exact⟨o,v,by rw[<-hH3,ZeP ha]; exact hGo g1,g1,g2⟩
 have h3out:∀{a:Addr},a ∉ Cs->H3 a=H2 a:=λ{a} ha=>by rw[<-hH3,Zbn ha]
 have s23:Zp H2 H3:=λb o z=>by rw[h3out λhb=>by obtain⟨_,_,_,_,_,_,g⟩:=hCc b hb;rw[g]at z; cases z];exact z
 have cge:∀a∈Cs,X.s₀.heap.objs.size<=a:=λa ha=>by obtain⟨y,_,_,e1,_⟩:=hCc a ha;exact I.ok.cab y a (L.own y) e1
 have hok3:HOk X.prog X.w H3 s2.heap:=by rw[<-hH3];refine HOk.put I2.hok (λa ha=>by obtain⟨_,_,_,_,_,_,g⟩:=hCc a ha; exact g) λa ha u e=>?_;obtain⟨y,o,v,_,g1,g2,_⟩:=hCc a ha;rw[hGo g1]at e; cases e;exact⟨o,rfl,g1⟩
 have E2:=I2.env0;have cfr:∀b∈frs X.stack,b ∉ Cs:=λb hb hc=>by
  obtain⟨y,o,v,e1,g1,g2,_⟩:=hCc b hc;rcases Zye.mp (I2.stkSub b hb)with z | z
  ·exact I2.cne y b e1 z
  ·obtain⟨_,o',ho',_⟩:=I.ok.funs.mem z
   exact absurd (Zyl (Zx7 ho') (cge b hc)) (Zzz _)
 have E3:ZeH X.prog X.w X.K X.mg X.base X.A X.stack s2 H3:=⟨E2.frames,E2.mod,λb o z=>⟨(E2.bs b o z).1,by rw[h3out λhb=>absurd (Zyl (Zx7 z) (ZyG I.ok.bsz (cge b hb))) (Zzz _)];exact(E2.bs b o z).2⟩,E2.bsz,E2.funs,λb hb=>by rw[h3out (cfr b hb)]; exact E2.frf b hb,hok3,E2.bare⟩;have s12:Zp F1 H2:=λb o z=>m.hh.ntb (x1.sub b o z) (nt1 b o z);have s13:Zp F1 H3:=s12.trans s23;have ff:Zp F1 (ZeG F1 H3):=λb o z=>Zuz s13 z;have s33:Zp (ZeG F1 H3) H3:=λb o z=>by
  rcases Zj2 z with⟨w,_⟩ | w
  ·exact w
  ·exact s13 b o w
 have nt3:NoT (ZeG F1 H3):=λb o z=>by
  rcases Zj2 z with⟨w1,w2⟩ | w
  ·unfold ZeG at z
   split at z
   ·cases z; rfl
   ·exact nt1 b o z
  ·exact nt1 b o w
 have tb3:Tb H3:=m.tb.same s23;obtain⟨pm,ctv,c,oc,m1,m2,m3⟩:=m.ex;obtain⟨cl1,cl2⟩:=Znc hcs;have clo:Clo X.K (ZeG F1 H3) q params body scope names cs:=by
  refine⟨_,pm,ctv,c,oc,clos,Zhv (s23 _ _ m1),Zhv (s23 _ _ m2),m3,λy z a g1 g2=>I.ok.inj y z a (hc1 y a g1) (hc1 z a g2),hc2,λy a g=>?_,by rw[cl1,L.len],λj y dj g1 g2=>?_⟩
  ·obtain⟨o,v,w1,w2,w3⟩:=h3in ((hCm a).mpr ⟨y,g⟩)
   exact⟨o,v,Zhv w1,w3⟩
  ·have hj:j<is.length:=by rw[L.len]; exact(Zx4.mp g1).1
   obtain⟨dj',g3,g4⟩:=cl2 j is[j] (Zx5 hj);rw[g2]at g3;cases g3;obtain⟨hN,hkind⟩:=L.at_ j is[j] y (Zx5 hj) g1;obtain⟨v,w1,w2⟩:=at1.plain g4;obtain⟨mm,_,hloc⟩:=I2.loc;obtain⟨u,ru,lk⟩:=hloc is[j] y v hN w1 (.inr (.inl hkind));have hfr:=hc2 _ (L.free y (Zym g1)) rfl;obtain⟨a,hal⟩:=Zys.mp hfr;rcases lk with⟨k1,_⟩ | ⟨_,a',k1,o,k2,k3⟩
   ·rw[show X.env.kindOf y=some .cell from hkind]at k1; cases k1
   ·rw[hc1 y a hal]at k1
    cases k1;obtain⟨o',v',z1,z2,z3⟩:=h3in ((hCm a).mpr ⟨y,hal⟩);rw[k2]at z2;cases z2;refine⟨a,o,u,v,hal,Zhv z1,k3,ru,Rep.cutF (λb ob z _=>ff b ob z) w2 20 ?_⟩;exact Zx0.mp hnc dj (Zym g2)
 have fv:=L.good _ _ _ clo;have hlen:=hl _ _ hM;refine wpAny_call (ZzS (FN.run X.A X.stack s2 H3 ⟨us,[]⟩ us [v1,.ref q] (λv H4=>∃F4,Ext (ZeG F1 H3) H3 F4 H4/\Rep X.K F4 d v) E0 hr E3 (by
  have:=hb s2 us I2.kIn (by rw[Zyu,<-rv.length]; exact hlen)
  rwa [Zyu]at this) rv ⟨ZeG F1 H3,_,d,hlen,s33,tb3,nt3,.cons (r1.mono ff) (.one (.fn fv)),hM,λv F4 H4 x4 q4=>⟨F4,x4,q4⟩⟩) λrs s4 hq=>?_)
 cases rs with
 | error e=>exact ZyU hq
 | ok fl =>
  cases fl with
  | next=>exact ZyU hq
  | brk=>exact ZyU hq
  | cont=>exact ZyU hq
  | ret u =>
   obtain⟨v,H4,os,bare,un,hok4,ru,F4,x4,q4⟩:=hq;have c4:∀{a:Addr},a∈Cs->∃o v,H4 a=some (Zbm a o)/\s2.heap.get? a=some o/\s4.heap.get? a=some o/\o.data=.cell v:=λ{a} ha=>by obtain⟨o,v,w1,w2,w3⟩:=h3in ha;have w4:H4 a=some (Zbm a o):=x4.hh.ntb w1 rfl;exact⟨o,v,w4,w2,Zck (hok4 a _ w4),w3⟩
   have out4:∀{b:Addr} {o:HO},H2 b=some o->b ∉ Cs:=λ{b o} z hb=>by obtain⟨_,_,_,_,_,_,g⟩:=hCc b hb;rw[g]at z; cases z
   generalize hF5:(λb:Addr=>match F4 b with | some o=>if te o=true then F1 b else some o | none=>none)=F5;have f5:∀{b:Addr} {o:HO},F5 b=some o->(F4 b=some o/\te o=false)\/F1 b=some o:=λ{b o} z=>by
    rw[<-hF5]at z;dsimp only at z;split at z
    ·rename_i o' w
     split at z
     ·exact .inr z
     ·rename_i n
      cases z;exact .inl ⟨w,by simpa using n⟩
    ·cases z
   have f5a:∀{b:Addr} {o:HO},F4 b=some o->te o=false->F5 b=some o:=λ{b o} z n=>by rw[<-hF5]; dsimp only; rw[z]; dsimp only; rw[if_neg (by rw[n]; simp)]
   have f5b:∀{b:Addr} {o:HO},F1 b=some o->F5 b=some o:=λ{b o} z=>by
    have w:=x4.ff b o (ff b o z)
    by_cases n:te o=true
    ·rw[<-hF5]; dsimp only; rw[w]; dsimp only; rw[if_pos n]; exact z
    ·exact f5a w (by simpa using n)
   have sub5:Zp F5 (Zbc Cs H4):=λb o z=>by
    rcases f5 z with⟨w,n⟩ | w
    ·rw[Zao λhb=>by
      obtain⟨_,_,g,_⟩:=c4 hb;rw[x4.sub b o w]at g; cases g; cases n]
     exact x4.sub b o w
    ·rw[Zao (out4 (s12 b o w))]
     exact x4.sub b o (x4.ff b o (ff b o w))
   refine I2.after ⟨v,Zbc Cs H4,os,bare,⟨λb o e n hb hx=>?_,λb o e n hb hx=>?_,λb o e n hx=>?_,un.there,λb xs e=>?_,λb o w e=>?_,λb pp e=>?_⟩,HOk.cut hok4 (λa ha o e=>?_),ru,kk v F5 (Zbc Cs H4) (x1.trans ⟨λb o z=>f5b z,λb o z=>?_,sub5,λb o z=>?_,λtb=>?_,λ_ b o z=>?_⟩) ((Rep.cutF (λb o z n=>f5a z n) q4 20 hnd).up)⟩
   ·by_cases hc:b∈Cs
    ·obtain⟨o',_,_,w2,w3,_⟩:=c4 hc
     rw[e]at w2; cases w2; exact w3
    ·exact un.keep b o e (by rw[h3out hc]; exact n) hb hx
   ·exact un.slot b o e (by rw[h3out (cfr b hb)]; exact n) hb hx
   ·by_cases hc:b∈Cs
    ·exact Zg2 hc
    ·rw[Zao hc]; exact un.free b o e (by rw[h3out hc]; exact n) hx
   ·rw[Zao (out4 e)]; exact un.tups b xs (s23 _ _ e)
   ·rw[Zao (out4 e)]; exact un.frzs b o w (s23 _ _ e)
   ·rw[Zao (out4 e)]; exact un.tbls b pp (s23 _ _ e)
   ·obtain⟨o',_,g,_⟩:=c4 ha
    rw[g]at e; cases e; rfl
   ·-- tracked things stay
    have z2:=m.hh b o z;have key:∀{u:HO},H2 b=some u->Zc5 (Zbc Cs H4) b u:=λ{u} w=>(x4.hh b u (s23 b u w)).cong (Zao (out4 w));cases o<;>first | exact key z2 | (obtain⟨pp,w⟩:=z2; exact(show ∃ps',_ from key w))
   ·rcases f5 z with⟨w,n⟩ | w
    ·rcases x4.new b o w with y | y
     ·rcases Zj2 y with⟨_,y2⟩ | y2
      ·rw[n]at y2; cases y2
      ·exact .inl y2
     ·refine .inr ?_
      have hcb:b ∉ Cs:=λhb=>by
       obtain⟨o',_,g,_⟩:=h3in hb;rcases y with y | ⟨xs,_,y⟩
       ·rw[g]at y; cases y
       ·rw[g]at y; cases y
      rcases y with y | ⟨xs,y1,y2⟩
      ·rw[h3out hcb]at y
       exact .inl (m.hh.free y)
      ·rw[h3out hcb]at y2
       cases w1:H1 b with
       | none=>exact .inl w1
       | some u =>
        have:=m.hh.back w1 y2 λ_ q=>by cases q
        subst this;exact .inr ⟨xs,y1,w1⟩
    ·exact .inl w
   ·refine(x4.tab tb3).cut hok4 λa ha=>?_
    obtain⟨o,v',g1,_,_,g4⟩:=c4 ha;exact⟨o,v',g1,g4⟩
   ·rcases f5 z with⟨w,_⟩ | w
    ·exact x4.nts nt3 b o w
    ·exact nt1 b o w
end
end HP
namespace HP
open PySem PySem.Spec PyProof.Rows L2
structure Zp6(K:ZxR)(x qual:Str)(st:Stmt)(f:Addr)(fd:FuncData)(c:Addr):Prop where
 ex:∃(oc:Value) (od:Option Addr) (kV doc pm:Value) (an:Option Addr) (ct:Value) (osl:Array (Option Value)),
  fd=Zy6 x qual (Zca st) (Za2 st) (Zf st) .none kV doc pm an (.ref c) ct/\K.lookup f=some ⟨oc,od,.func fd,osl⟩/\ZzO K (.ref c) qual=true
 kp:Zzd K (.ref f)=true
theorem Zup{K:ZxR}{x qual:Str}{st:Stmt}{f c:Addr}{oc:Value}{od an:Option Addr}{osl:Array (Option Value)}{kV doc pm ct:Value}(l:K.lookup f=some ⟨oc,od,.func (Zy6 x qual (Zca st) (Za2 st) (Zf st) .none kV doc pm an (.ref c) ct),osl⟩)
  (h:ZzO K (.ref c) qual=true) (k:Zzd K (.ref f)=true):Zp6 K x qual st f (Zy6 x qual (Zca st) (Za2 st) (Zf st) .none kV doc pm an (.ref c) ct) c:=⟨⟨oc,od,kV,doc,pm,an,ct,osl,rfl,l,h⟩,k⟩
section
variable[FX]
theorem ZqC{P:Program}{w:World}{K:ZxR}{mg:Str->Option Value}{base:Heap}{k:Nat}{x qual:Str}{st:Stmt}{f c:Addr}{fd:FuncData}{N ps:List Str}{g:HM.SF}(Fn:Zp6 K x qual st f fd c)(S:Zs N ps (Zf st))(hm:mg x=some (.ref f))(hb:Binds K fd ps [])
  (body:∀(A:Around) (outer:List Env) (s:Shared) (H:Hp) (E:XK),Zaq k (A.deeper (envOfC qual (Zf st) s.heap.objs.size f (.ref c)))->XSs (Zf4 CX0 P w K mg base N qual (Zf st) f (.ref c) A outer s H E).nox (Za2 st) g) :
  Callee P w K mg base (k+1) x (HM.fnOf ps.length N.length g):=by
 have hpl:ps.length<=N.length:=by have:=congrArg ZyB S.pre; rw[Zzp]at this; omega
 refine⟨f,fd,ps,λds d h=>?_,?_,hm,Fn.kp,hb⟩
 ·unfold HM.fnOf at h
  split at h
  ·assumption
  ·cases h
 ·obtain⟨oc,od,kV,doc,pm,an,ct,osl,rfl,lk,hcd⟩:=Fn.ex
  refine ZtK lk hcd S (λvs H Q E h=>by obtain⟨_,_,_,h,_⟩:=h; exact h) λA outer s H vs Q E hr h=>?_;obtain⟨F,ds,d,hl,sub,tb,nt,q,hM,kk⟩:=h;unfold HM.fnOf at hM;split at hM
  ·rename_i hds
   have a0:=ZfY (N:=N) sub tb nt q (by omega);split at hM
   ·rename_i r hr'
    cases hM;exact⟨_,(body A outer s H E hr _ _ hr').nox,F,H,F,a0,λσ F' H' a'=>kk .non F' H' a'.ext .non⟩
   ·rename_i d' hr'
    cases hM;exact⟨_,(body A outer s H E hr _ _ hr').nox,F,H,F,a0,λv F' H' x q=>kk v F' H' x q⟩
   ·cases hM
  ·cases hM
def Zp8(N:List Str)(sc scope:Scope)(names:List Str)(is:List Nat):Bool :=
 decide (is.length=names.length)&&(is.zip names).all (λq=>decide (N[q.1]?=some q.2)&&decide (sc.names.lookup q.2=some .cell))&&scope.names.all (λy=>decide (y.2≠.free)||decide (sc.names.lookup y.1=some .cell))&&names.all λx=>decide ((x,ZzZ)∈scope.names)
theorem Ztb{X:Cx}{t:Nat}{params:Arguments}{body:Expr}{scope sc:Scope}{names N:List Str}{is:List Nat}{c T:Addr}{q:Str}(ck:Zp8 N sc scope names is=true)(h1:Zzt X.K c T=true)(h2:(T,q)∈FX.tl)(h3:∀q',(T,q')∈FX.tl->q'=q)(bm:BMod X.base X.mg)
  (good:∀F p cs,Clo X.K F p params body scope names cs->FX.fv t cs F p) (hN:X.N=N:=by rfl) (hs:X.env.scope=sc:=by rfl) (hc:X.env.code=.ref c:=by rfl) (hq:X.env.qual ++ "<lambda>" = q:=by rfl) (hd:defaultsOf params X.env=([],[]):=by rfl) (ho:∀x,X.fn x=true:=by exact λ_=>rfl) :
  Zql X t params body scope names is:=by
 unfold Zp8 at ck;rw[Zyd,Zyd,Zyd]at ck;obtain⟨⟨⟨k1,k2⟩,k3⟩,k4⟩:=ck;refine⟨⟨c,T,hc,h1,by rw[hq]; exact h2,λq' z=>by rw[hq]; exact h3 q' z⟩,bm,hd,of_decide_eq_true k1,λj i x e1 e2=>?_,λy hy hf=>?_,λx hx=>?_,ho,good⟩
 ·have:(i,x)∈is.zip names:=Zym (i:=j) (by rw[List.getElem?_zip_eq_some]; exact⟨e1,e2⟩)
  have:=Zx0.mp k2 _ this;rw[Zyd]at this;rw[hN,hs];exact⟨of_decide_eq_true this.1,of_decide_eq_true this.2⟩
 ·have:=Zx0.mp k3 y hy
  rw[Zzm]at this;rw[hs];rcases this with z | z
  ·exact absurd hf (of_decide_eq_true z)
  ·exact of_decide_eq_true z
 ·exact of_decide_eq_true (Zx0.mp k4 x hx)
theorem Zuo{P:Program}{w:World}{K:ZxR}{mg:Str->Option Value}{base:Heap}{x qual:Str}{st:Stmt}{f a:Addr}{fd:FuncData}(Fn:Fun K x qual st f fd)(hm:mg x=some (.ref f))(ha:mg x=some (.ref a)){A:Around}{outer:List Env}{s:Shared}{H:Hp}(e0:ZeH P w K mg base A outer s H):ZCB a s.heap:=by rw[hm]at ha;cases ha;obtain⟨oc,od,kV,doc,pm,an,cdv,ct,osl,rfl,lk,hcd⟩:=Fn.ex;have KX:K.In s.heap:=e0.mod.kin.keeps λb o e=>(e0.bs b o e).1;exact⟨_,_,_,_,KX _ _ lk⟩
theorem ZtF{P:Program}{w:World}{K:ZxR}{mg:Str->Option Value}{base:Heap}{k:Nat}{x:Str}{M:List PyData->Option PyData}{a:Addr}(C:Callee P w K mg base k x M)(ha:mg x=some (.ref a)){A:Around}{outer:List Env}{s:Shared}{F H:Hp}(e0:ZeH P w K mg base A outer s H)(sub:Zp F H)
  {us:List Value} {vs:List V} {ds:List PyData} {d:PyData} {Q:VK} (hr:Zaq k A) (tb:Tb H) (nt:NoT F) (rv:Vals vs us) (rs:Zu K F ds vs) (hM:M ds=some d) (kk:∀v F' H',Ext F H F' H'->Rep K F' d v->Q v H') :
  codeAny (model P w) A (.call (.ref a) ⟨us,[]⟩) (CR CX0 outer P w H s Q E0) s:=by
 obtain⟨f,fd,ps,hl,FN,hm,hk,hb⟩:=C.ex;rw[hm]at ha;cases ha;have KX:K.In s.heap:=e0.mod.kin.keeps λb o e=>(e0.bs b o e).1;have hlen:vs.length=ps.length:=by rw[<-rs.1]; exact hl _ _ hM
 refine FN.run A outer s H ⟨us,[]⟩ us vs Q E0 hr e0 ?_ rv ⟨F,ds,d,hlen,sub,tb,nt,rs,hM,kk⟩;have:=hb s us KX (by rw[Zyu,<-rv.length]; exact hlen)
 rwa [Zyu]at this
end
def Zmn(tabs:List Addr)(H:Hp):Prop:=(∀b,H b=none\/(∃o xs,H b=some (.frz o (.lst xs)))\/H b=some (.tbl #[]))/\∀T∈tabs,H T=some (.tbl #[])
theorem ZrZ{P:Program}{w:World}{K:ZxR}{mg mb:Str->Option Value}{k:Nat}{fa a:Addr}{fd:FuncData}{x:Str}{sp:Sp}{s₁:Shared}{vs:List Value}{ns:List Int}{tabs:List (Addr × Addr)}
  (hT:∀q∈tabs,Zzt K q.1 q.2=true/\K.lookup q.2=none/\s₁.heap.get? q.2=some (ZAt #[]))
  (KX:K.In s₁.heap) (hns:s₁.heap.Ns Zyz mg) (hb:s₁.heap.Ns ZBL mb) (hbb:∀x:Str,x ≠ "__name__"->mb x=ZyN x) (hlim:s₁.heap.NoLimit) (hg:s₁.gens=#[])
  (ha:s₁.heap.get? a=some { cls:=.type "list",data:=.seq vs.toArray }) (hi:IntsAre vs ns) (hl:ns.length<=sizeLine) (hr:Zaq k callerA)
  (hbm:PyProof.Rows.BMain s₁.heap mg) (F:∀base:Heap,K.In base->base.Ns Zyz mg->BMod base mg->Zde P w K mg base CX0 k fa fd [x] sp) (hbind:∀(s:Shared) (u:Value),BindsTo s fd ⟨[u],[]⟩ [(x,u)])
  (hsp:∀H:Hp,Zmn (tabs.map (·.2)) H->SqL K H a (ns.map V.int)->sp [.ref a] H (λv _=>v=.bl true) λ_ _ _=>False) :
  codeAny (model P w) callerA (.call (.ref fa) ⟨[.ref a],[]⟩) (λr s'=>r=.ok (.ret (.bool true))/\OldK s₁.heap s'.heap/\s'.os=s₁.os/\AllBare s'.gens) s₁:=by
 have rv:=ZlB hi;have lenV:=hi.length;have tne:∀q∈tabs,q.2≠a:=λq hq z=>by have:=(hT q hq).2.2;rw[z,ha]at this; cases this
 have core:∀oS:Option HO,(oS=none\/∃o xs,oS=some (.frz o (.lst xs)))->(∀H:Hp,H a=oS->SqL K H a (ns.map V.int))->(∀H:Hp,∀u,oS=some u->Zab P w H s₁.heap a u)->(oS≠none->K.lookup a=none) ->
   codeAny (model P w) callerA (.call (.ref fa) ⟨[.ref a],[]⟩) (λr s'=>r=.ok (.ret (.bool true))/\OldK s₁.heap s'.heap/\s'.os=s₁.os/\AllBare s'.gens) s₁:=by
  intro oS hO hS hok0 hK;generalize hH:(λb:Addr=>if b=a then oS else if b∈tabs.map (·.2)then some (HO.tbl #[])else none)=H;have Ha:H a=oS:=by rw[<-hH]; exact if_pos rfl
  have Ht:∀T∈tabs.map (·.2),H T=some (.tbl #[]):=λT hT'=>by obtain⟨q,hq,e⟩:=Zx3.mp hT';rw[<-hH];show(if T=a then oS else if T∈tabs.map (·.2)then some (HO.tbl #[])else none)=_;rw[if_neg (by rw[<-e]; exact tne q hq),if_pos hT']
  have Hc:∀b u,H b=some u->(b=a/\oS=some u)\/(b∈tabs.map (·.2)/\u=.tbl #[]):=λb u e=>by
   rw[<-hH]at e;dsimp only at e;split at e
   ·rename_i h; exact .inl ⟨h,e⟩
   ·split at e
    ·rename_i h; cases e; exact .inr ⟨h,rfl⟩
    ·cases e
  have tget:∀T∈tabs.map (·.2),s₁.heap.get? T=some (ZAt #[])/\K.lookup T=none/\∃c,Zzt K c T=true:=λT hT'=>by obtain⟨q,hq,e⟩:=Zx3.mp hT';subst e;exact⟨(hT q hq).2.2,(hT q hq).2.1,q.1,(hT q hq).1⟩
  have hok:HOk P w H s₁.heap:=λb u e=>by
   rcases Hc b u e with⟨rfl,e'⟩ | ⟨h,rfl⟩
   ·exact hok0 H u e'
   ·exact(tget b h).1
  have base_of:∀{b:Addr} {o:Obj},s₁.heap.get? b=some o->H b=none->(ZgP s₁.heap H).get? b=some o:=λe n=>ZsT e n;have noA:∀{b:Addr} {o:Obj} {es:Array DictEntry} {ep:Nat},s₁.heap.get? b=some o->o.data=.dict es ep->H b=none:=λ{b o es ep} e d=>by
   cases q:H b with
   | none=>rfl
   | some u =>
    rcases Hc b u q with⟨rfl,_⟩ | ⟨h,_⟩
    ·rw[ha]at e; cases e
     have d':Data.seq vs.toArray _=Data.dict es ep:=d;cases d'
    ·rw[(tget b h).1]at e; cases e; cases d
  have nsK:∀{b:Addr} {m:Str->Option Value},s₁.heap.Ns b m->(ZgP s₁.heap H).Ns b m:=λ{b m} ⟨o,es,ep,e,d,r⟩=>⟨o,es,ep,base_of e (noA e d),d,r⟩;have hKb:K.In (ZgP s₁.heap H):=λb o e=>base_of (KX b o e) (by
   cases q:H b with
   | none=>rfl
   | some u =>
    rcases Hc b u q with⟨rfl,e'⟩ | ⟨h,_⟩
    ·rw[hK (by rw[e']; simp)]at e; cases e
    ·rw[(tget b h).2.1]at e; cases e)
  have hM:Mod K mg (ZgP s₁.heap H):=⟨hKb,nsK hns,⟨mb,nsK hb,hbb⟩,let ⟨mc,h1,h2⟩:=hlim; ⟨mc,nsK h1,h2⟩⟩;have e0:ZeH P w K mg (ZgP s₁.heap H) callerA [] s₁ H:=⟨rfl,hM,λb o e=>Zuq e,ZBg (Zrz _ _),trivial,λb hb=>absurd (show b∈([]:List Addr) from hb) (by simp),hok,.of_eq hg⟩;have hOT:Zmn (tabs.map (·.2)) H:=⟨λb=>by
   cases q:H b with
   | none=>exact .inl rfl
   | some u =>
    rcases Hc b u q with⟨_,e'⟩ | ⟨_,rfl⟩
    ·rcases hO with z | ⟨o,xs,z⟩
     ·rw[z]at e'; cases e'
     ·rw[z]at e'; cases e'; exact .inr (.inl ⟨o,xs,rfl⟩)
    ·exact .inr (.inr rfl),Ht⟩
  have hBM:BMod (ZgP s₁.heap H) mg:=by
   obtain⟨bm,ob,b1,b2,b3,b4,b5,b6⟩:=hbm;refine⟨bm,ob,b1,b2,λz=>?_,base_of b3 ?_,b4,b5,b6⟩
   ·obtain⟨o,es,ep,e,d,_⟩:=hns
    rw[z,e]at b3; cases b3; rw[b6]at d; cases d
   ·cases q:H bm with
    | none=>rfl
    | some u =>
     rcases Hc bm u q with⟨z,_⟩ | ⟨h,_⟩
     ·rw[z,ha]at b3; cases b3; exact absurd (show(ZAK "list":Value)=.type "module" from b4) (by decide)
     ·rw[(tget bm h).1]at b3; cases b3; cases b4
  refine ZzS ((F _ hKb (nsK hns) hBM).run callerA [] s₁ H ⟨[.ref a],[]⟩ [.ref a] [.ref a] _ _ hr e0 (hbind s₁ (.ref a)) (.cons rfl .nil) (hsp H hOT (hS H Ha))) λr s' h=>?_;cases r with
  | error e=>exact ZyU h
  | ok fl =>
   cases fl with
   | next=>exact ZyU h
   | brk=>exact ZyU h
   | cont=>exact ZyU h
   | ret u =>
    obtain⟨v,H',os,bare,un,hok',r',q⟩:=h;have q':v=.bl true:=q;subst q';obtain rfl:u=Value.bool true:=r';refine⟨rfl,⟨λb o e=>?_,λb o e=>un.there b o e (by simp)⟩,os,bare⟩;cases q:H b with
    | none=>exact .inl (un.keep b o e q (by intro z; exact absurd (show b∈([]:List Addr) from z) (by simp)) (by simp))
    | some u =>
     rcases Hc b u q with⟨rfl,e'⟩ | ⟨h,rfl⟩
     ·rcases hO with z | ⟨ob,xs,z⟩
      ·rw[z]at e'; cases e'
      ·rw[z]at e'; cases e'
       have z2:=un.frzs _ ob _ q;obtain⟨e1,_⟩:=hok _ _ q;obtain⟨e2,_⟩:=hok' _ _ z2;rw[e]at e1; cases e1;exact .inl e2
     ·obtain⟨g1,_,c,g3⟩:=tget b h
      rw[g1]at e; cases e;obtain⟨more,z2⟩:=un.tbls b _ q;have z3:s'.heap.get? b=some { cls:=.none,data:=.fields (#[]++more) }:=hok' b _ z2;refine .inr (.inl ⟨((ZCw KX g3).tab g1).isCodeTable,rfl,#[],more,rfl,z3⟩)
 cases hk:K.lookup a with
 | some o=>have e:=KX a o hk;rw[ha]at e;cases e;exact core none (.inl rfl) (λH _=>.inr ⟨_,vs.toArray,_,hk,rfl,rfl,rfl,by rw[Zya,lenV]; exact hl,by simpa using rv⟩) (λH u z=>by cases z) λz=>absurd rfl z
 | none=>refine core (some (.frz { cls:=.type "list",data:=.seq vs.toArray } (.lst (ns.map V.int)))) (.inr ⟨_,_,rfl⟩) (λH e=>.inl (.inr ⟨_,e⟩)) (λH u z=>?_) λ_=>hk;cases z;exact⟨ha,by rw[ZxS]; exact hl,vs,_,rv,ha⟩
theorem ZsM{l:ZB8}{n k:Nat}{q:Program}{loose:List Str}{XP:(Str->Option Value)->Heap->Prop}{YP:World->Heap->Prop}{d:DefRec}{K:Params->ZxR}{sp:World->Sp}{x:Str}{tabs:List (Addr × Addr)}
  (hn:l.most=some n) (hn2:n<=sizeLine) (hdf:d.params.defaults=[]) (hr:Zaq k callerA)
  (hY:∀(w:World) (h:Heap),YP w h->(K w.params).In h) (hYT:∀(w:World) (h:Heap),YP w h->∀q∈tabs,h.get? q.2=some (ZAt #[]))
  (hT:∀(w:World),∀q∈tabs,Zzt (K w.params) q.1 q.2=true/\(K w.params).lookup q.2=none)
  (F:∀(w:World) (mg:Str->Option Value) (fa:Addr) (h:Heap),(K w.params).In h->h.Ns Zyz mg->mg d.name=some (.ref fa) ->
   ∃fd:FuncData,(∀(s:Shared) (u:Value),BindsTo s fd ⟨[u],[]⟩ [(x,u)]) /\
    ∀base:Heap,(K w.params).In base->base.Ns Zyz mg->BMod base mg->Zde l.prog w (K w.params) mg base CX0 k fa fd [x] (sp w))
  (hsp:∀(w:World) (H:Hp) (a:Addr) (ns:List Int),ns.length<=n->Zmn (tabs.map (·.2)) H->SqL (K w.params) H a (ns.map V.int)->sp w [.ref a] H (λv _=>v=.bl true) λ_ _ _=>False) :
  PySem.W.WalkO q loose XP YP l.row.toRowW d [] (λf vs=>PySem.call f vs):=by
 refine Att.Zo1 hn hdf λw s₀ s₁ mg mb fa o pm cd doc a vs ns G Y ho hd hcd hmg hobj hints hlen hg=>?_;have KX:=hY w _ Y;obtain⟨fd,hb,hF⟩:=F w mg fa _ KX G.T.g hmg;exact ZrZ (λq hq=>⟨(hT w q hq).1,(hT w q hq).2,hYT w _ Y q hq⟩) KX G.T.g G.T.b G.T.builtins G.T.nolimit hg hobj hints (ZyG hlen hn2) hr G.T.bmain hF hb λH hO hS=>hsp w H a ns hlen hO hS
end HP
namespace HP
open PySem PySem.Spec PyProof.Rows L2
def Zwx:Stmt->Option (Arguments × Expr × Scope)
 | .Return (some (.Call _ [_,.Lambda a b s _] _ _)) _=>some (a,b,s)
 | .Assign _ (.Call _ [_,.Lambda a b s _] _ _) _=>some (a,b,s)
 | _=>none
def ZkY(st:Stmt):Arguments × Expr × Scope:=((Za2 st).findSome? Zwx).getD default
abbrev Zvy(st:Stmt):Arguments:=(ZkY st).1
abbrev ZsE(st:Stmt):Expr:=(ZkY st).2.1
abbrev Zlc(st:Stmt):Scope:=(ZkY st).2.2
theorem Zvi{P:Program}{w:World}{K:ZxR}{mg:Str->Option Value}{base:Heap}{A:Around}{outer:List Env}{s:Shared}{F H:Hp}{p:Addr}{params:Arguments}{body:Expr}{scope:Scope}{names:List Str}{cs:List PyData}
  (C:Clo K F p params body scope names cs) (e0:ZeH P w K mg base A outer s H) (sub:Zp F H):ZCB p s.heap:=by
 obtain⟨qual,pm,ctv,c,oc,clos,h1,_⟩:=C.ex;exact⟨_,_,_,_,Zck (e0.hok p _ (sub _ _ h1))⟩
section
variable[FX]
theorem ZvE{K:ZxR}{M:List PyData->Option PyData}{H:Hp}{a:Addr}{ns:List Int}{tabs:List Addr}(hO:Zmn tabs H)(ht:∀T q,(T,q)∈FX.tl->T∈tabs)(hS:SqL K H a (ns.map V.int))(hM:M [.list (HM.ofInts ns)]=some (.bool true)) :
  spD K 1 M [.ref a] H (λv _=>v=.bl true) λ_ _ _=>False:=by
 refine⟨ZcL H,[.list (HM.ofInts ns)],.bool true,rfl,ZlJ,λT q hT=>⟨#[],hO.2 T (ht T q hT),trivial,λpos c hc=>by cases hc⟩,.drop,.one (Rep.drop (.lst hS (Ze1 (K:=K) (F:=H) ns).1 (Ze1 ns).2)),hM,λv F1 H1 _ r=>r.bool_inv⟩
end
end HP
namespace HM
open PySem
theorem Zb5{α:Type}{c:TF}{e:EF}{r:Env}(g:α->D)(p:α->Bool)(f:α->D):∀(xs:List α),(∀x∈xs,c (some (.pl (g x))::r)=some (p x))->(∀x∈xs,p x=true->e (some (.pl (g x))::r)=some (f x))->ZaK c e r (xs.map g)=some ((xs.filter p).map f)
 | [],_,_=>rfl
 | x::xs,h1,h2=>by
  have ih:=Zb5 g p f xs (λy hy=>h1 y (ZxW _ hy)) (λy hy=>h2 y (ZxW _ hy));have hc:=h1 x (ZxU ..);rw[ZxY];unfold ZaK;rw[hc];cases hp:p x with
  | true=>have he:=h2 x (ZxU ..) hp;dsimp only;rw[he];dsimp only;rw[ih,ZB0 hp];rfl
  | false=>dsimp only;rw[ih,ZB1 (by simp[hp])]
theorem Zbl{α:Type}{e:EF}{r:Env}(g:α->D)(f:α->D)(xs:List α)(h:∀x∈xs,e (some (.pl (g x))::r)=some (f x)):ZaK Zam e r (xs.map g)=some (xs.map f):=by rw[Zb5 g (λ_=>true) f xs (λ_ _=>rfl) λx hx _=>h x hx,ZAC.mpr λ_ _=>rfl]
theorem Zi3{α:Type}{i:Nat}{body:SF}(g:α->D)(P:List α->Env->Prop)(xs:List α)(r:Env)(h0:P [] r)
  (hs:∀pre x post r,xs=pre++x::post->P pre r->∃r',body (r.set i (some (.pl (g x))))=some (.nx r')/\P (pre++[x]) r'):∃r',ZaG i body (xs.map g) r=some (.nx r')/\P xs r':=by
 have key:∀(post pre:List α) (r:Env),xs=pre++post->P pre r->∃r',ZaG i body (post.map g) r=some (.nx r')/\P xs r':=by
  intro post
  induction post with
  | nil=>intro pre r e h; rw[Zyu]at e; subst e; exact⟨r,rfl,h⟩
  | cons x post ih=>intro pre r e h;obtain⟨r1,h1,h2⟩:=hs pre x post r e h;obtain⟨r2,h3,h4⟩:=ih (pre++[x]) r1 (by rw[e,Zzv]; rfl) h2;refine⟨r2,?_,h4⟩;rw[ZxY];unfold ZaG;rw[h1];exact h3
 exact key xs [] r rfl h0
def ZvJ{α S:Type}(q:S->α->Bool)(step:S->α->S):S->List α->Bool
 | _,[]=>true
 | s,x::xs=>q s x&&ZvJ q step (step s x) xs
abbrev dI(i:Int):D:=ZyI i
abbrev dN(k:Nat):D:=ZyI (k:Int)
theorem ZhG(ns:List Int):ofInts ns=ns.map dI:=rfl
theorem ZaZ(n:Nat):ZcR 0 n=(ZxZ n).map dN:=by unfold ZcR;refine Zzx λk _=>?_;show ZyI (0+(k:Int))=ZyI (k:Int);rw[Int.zero_add]
theorem ZcJ(ns:List Int):ZaO (ns.map dI)=some ns:=by
 induction ns with
 | nil=>rfl
 | cons n ns ih=>show(ZaO (ns.map dI)).map (n::·)=_; rw[ih]; rfl
theorem Zfw(bs:List Bool):Ze2 (bs.map λb=>Zzg b)=some bs:=by
 induction bs with
 | nil=>rfl
 | cons b bs ih=>show(Ze2 (bs.map λb=>Zzg b)).map (b::·)=_; rw[ih]; rfl
abbrev tupI(ns:List Int):D:=Zyv (ns.map dI)
theorem Zdr{ds:List D}{j:Nat}{d:D}(h:ds[j]?=some d):atD ds (j:Int)=some d:=by have hj:j<ds.length:=(Zx4.mp h).1;unfold atD ixN;rw[if_pos (by omega),if_pos (by omega)];simpa using h
theorem Zg1{ds:List D}{i:Int}{d:D}(h0:0<=i)(h:ds[i.toNat]?=some d):atD ds i=some d:=by
 have e:i=((i.toNat:Nat):Int):=by omega
 rw[e]; exact Zdr (by simpa using h)
@[simp] theorem ZxL(d:D)(r:List D):atD (d::r) 0=some d:=Zdr (j:=0) rfl
@[simp] theorem ZxK(a d:D)(r:List D):atD (a::d::r) 1=some d:=Zdr (j:=1) rfl
@[simp] theorem ZxH(a b d:D)(r:List D):atD (a::b::d::r) 2=some d:=Zdr (j:=2) rfl
@[simp] theorem ZxJ(a b c d:D)(r:List D):atD (a::b::c::d::r) 3=some d:=Zdr (j:=3) rfl
@[simp] theorem ZxI(a b c e d:D)(r:List D):atD (a::b::c::e::d::r) 4=some d:=Zdr (j:=4) rfl
theorem Zxq(i j:Int)(h:(Z0 i||Z0 j)=true):Zb4 (.int i) (.int j)=some (.int (i*j)):=by show(if Z0 i||Z0 j then some (ZyI (i*j))else none)=_;rw[if_pos h]
@[simp] theorem Zxf:Z0 7=true:=rfl
@[simp] theorem Zw5:Z0 11=true:=rfl
@[simp] theorem Zw3:Z0 13=true:=rfl
@[simp] theorem ZwW:Z0 17=true:=rfl
@[simp] theorem ZwV:Z0 19=true:=rfl
@[simp] theorem ZwY:Z0 23=true:=rfl
@[simp] theorem Zw4:Z0 29=true:=rfl
@[simp] theorem Zxa:Z0 31=true:=rfl
@[simp] theorem ZwZ:Z0 37=true:=rfl
@[simp] theorem Zw2:Z0 41=true:=rfl
@[simp] theorem Zw1:Z0 43=true:=rfl
@[simp] theorem Zw6:Z0 47=true:=rfl
@[simp] theorem Zw0:Z0 53=true:=rfl
@[simp] theorem Zw7:Z0 59=true:=rfl
@[simp] theorem ZwX:Z0 61=true:=rfl
@[simp] theorem Zw8:Z0 67=true:=rfl
@[simp] theorem ZwU:Z0 71=true:=rfl
@[simp] theorem Zw9:Z0 73=true:=rfl
@[simp] theorem ZvG:Z0 48271=true:=rfl
@[simp] theorem Zxy:Z0 2=true:=rfl
@[simp] theorem Zxw:Z0 3=true:=rfl
@[simp] theorem Zxh:Z0 5=true:=rfl
theorem Zin{i:Int}(h1:-1000000000<i)(h2:i<1000000000):Z0 i=true:=by
 unfold Z0;have:i.natAbs<18446744073709551616:=by omega
 exact ZAN.mpr this
theorem ZeS{n:Nat}(h:n<1000000):okR (n:Int)=true:=ZAN.mpr (by omega)
@[simp] theorem ZwM(i:Int):Zan (.int i)=true:=rfl
@[simp] theorem Zws(i:Bool):Zan (.bool i)=true:=rfl
@[simp] theorem Zwr:Zan .none=true:=rfl
@[simp] theorem ZxE(i j:Int):ZyW (.int i) (.int j)=(i==j):=rfl
structure Wk where
 many:Nat
 deeds:List (List (List Int))
 looks:List (List Int)
 beg:List Int
 goal:List Int
def Z3(dd:List (List Int)):D:=.tuple (dd.map tupI)
def Wk.d(w:Wk):D:=.tuple [.int w.many,.tuple (w.deeds.map Z3),.tuple (w.looks.map tupI),tupI w.beg,tupI w.goal]
def Cr(n:Nat)(c:List Int):Prop:=c.Pairwise (· < ·)/\∀x∈c,0<=x/\x<(n:Int)
structure Wk.Ok(w:Wk):Prop where
 m1:2<=w.many
 m2:w.many<=5
 d1:1<=w.deeds.length
 d2:w.deeds.length<=3
 dl:∀dd∈w.deeds,dd.length=w.many
 dc:∀dd∈w.deeds,∀c∈dd,Cr w.many c
 l2:w.looks.length<=3
 ll:∀l∈w.looks,l.length=w.many
 lc:∀l∈w.looks,∀x∈l,0<=x/\x<=9
 b1:w.beg≠[]
 bc:Cr w.many w.beg
 g1:w.goal≠[]
 gc:Cr w.many w.goal
theorem Cr.len{n:Nat}:∀{c:List Int},Cr n c->c.length<=n:=by
 have key:∀(c:List Int) (l:Int),c.Pairwise (· < ·)->(∀x∈c,l<=x/\x<(n:Int))->(c.length:Int)<=max 0 ((n:Int)-l):=by
  intro c
  induction c with
  | nil=>intro l _ _; simp; omega
  | cons x c ih=>intro l hp hb;have h1:=hb x (ZxU ..);have h2:=ih (x+1) (ZyD.mp hp).2 λy hy=>⟨by have:=(ZyD.mp hp).1 y hy; omega,(hb y (ZxW _ hy)).2⟩;rw[Zx8];omega
 intro c h;have:=key c 0 h.1 h.2;omega
theorem sortI_perm(ns:List Int):(sortI ns).Perm ns:=ZAB ns _
theorem Ztu(ns:List Int):(sortI ns).Pairwise (·<=·):=by have h:=ZAS (le:=λa b:Int=>decide (a<=b)) (λa b c h1 h2=>by simp at *; omega) (λa b=>by simp; omega) ns;exact h.imp λh=>by simpa using h
theorem Zju:∀{ns:List Int},ns.Pairwise (·<=·)->ns.Nodup->ns.Pairwise (· < ·)
 | [],_,_=>.nil
 | n::ns,h,hn=>by obtain⟨h1,h2⟩:=ZyD.mp h;obtain⟨n1,n2⟩:=ZyL.mp hn;refine ZyD.mpr ⟨λx hx=>?_,Zju h2 n2⟩;have:=h1 x hx;have:n≠x:=λe=>n1 (e▸hx);omega
theorem Zht{n:Nat}{ns:List Int}(hn:ns.Nodup)(hb:∀x∈ns,0<=x/\x<(n:Int)):Cr n (sortI ns) :=
 ⟨Zju (Ztu ns) ((sortI_perm ns).nodup_iff.mpr hn),λx hx=>hb x ((sortI_perm ns).mem_iff.mp hx)⟩
theorem Zhx(ns:List Int)(h:ns.length<64):ZdC (ns.map dI)=some ((sortI ns).map dI):=by unfold ZdC;rw[if_pos (by rw[ZxS]; exact h),ZcJ];rfl
theorem Ze6:∀(ns acc:List Int) (x:Int),x∈dedup acc ns↔x∈acc\/x∈ns
 | [],acc,x=>by simp[dedup]
 | n::ns,acc,x=>by
  unfold dedup;split
  ·rename_i h
   have h':n∈acc:=by simpa using h
   rw[Ze6 ns acc x]
   constructor
   ·rintro (h | h)
    ·exact .inl h
    ·exact .inr (ZxW _ h)
   ·rintro (h | h)
    ·exact .inl h
    ·rcases Zye.mp h with e | e
     ·exact .inl (e▸h')
     ·exact .inr e
  ·rw[Ze6 ns _ x,Zyq,Zyb,Zye]
   constructor
   ·rintro ((h | h) | h)
    ·exact .inl h
    ·exact .inr (.inl h)
    ·exact .inr (.inr h)
   ·rintro (h | h | h)
    ·exact .inl (.inl h)
    ·exact .inl (.inr h)
    ·exact .inr h
theorem ZeW:∀(ns acc:List Int),acc.Nodup->(dedup acc ns).Nodup
 | [],acc,h=>h
 | n::ns,acc,h=>by
  unfold dedup;split
  ·exact ZeW ns acc h
  ·rename_i hc
   have hc':n ∉ acc:=by simpa using hc
   refine ZeW ns _ ?_;rw[Zz3];exact⟨h,by simp,λa ha b hb=>by simp at hb; subst hb; exact λe=>hc' (e▸ha)⟩
end HM
namespace HG
open PySem HM
def Zh5:SF :=
 (Zo (sIf (tOr (tV (Zfi (Zd 0) .bool)) (Zdd (tV (Zfi (Zd 0) .int)))) (ZC (eC (.bool false))) ZaJ)
  (ZC (Zks gLe gLe (Zd 1) (Zd 0) (Zd 2))))
def Zax:List D->Option D:=fnOf 3 3 Zh5
def Zll:SF :=
 (ZC (ZhB (Zfi (Zd 0) .tuple) (Zks gLe gLe (Zd 1) (Zbg (Zr 0)) (Zd 2))))
def Za6:List D->Option D:=fnOf 3 3 Zll
def Zay:SF :=
 (Zo (sIf (Zdd (tV (Zj Zax (Zb (Zd 3) (Zb (Zd 2) (Zb (op2 Zkc (Zd 1) (eC (.int 1))) Zk)))))) (ZC (eC (.bool false))) ZaJ)
  (Zai 2 (op2 Zbb (Zd 3) (eC (.int 1)))))
def Zd7:SF :=
 (Zo (sIf (Zdd (tV (Zfi (Zd 0) .tuple))) (ZC (eC (.bool false))) ZaJ)
  (Zo (Zai 2 (eC (.int 0)))
  (Zo (ZbF 3 (Zah (bOf (Zd 0))) Zay)
  (ZC (eC (.bool true))))))
def Z9:List D->Option D:=fnOf 2 4 Zd7
def Zhe:SF :=
 (ZC (ZhB (Zj Za6 (Zb (Zd 0) (Zb (Zd 1) (Zb (Zd 1) Zk)))) (Zio (ZR (Zah (bOf (Zd 0))) Zam (Zj Z9 (Zb (Zd 0) (Zb (Zd 2) Zk)))))))
def Zce:List D->Option D:=fnOf 2 2 Zhe
def Zhf:SF :=
 (ZC (ZhB (Zj Za6 (Zb (Zd 0) (Zb (Zd 1) (Zb (Zd 1) Zk)))) (Zio (ZR (Zah (bOf (Zd 0))) Zam (Zj Zax (Zb (Zd 0) (Zb (eC (.int 0)) (Zb (eC (.int 9)) Zk))))))))
def Zcf:List D->Option D:=fnOf 2 2 Zhf
def Zh6:SF :=
 (ZC (ZhB (Zj Za6 (Zb (Zd 0) (Zb (eC (.int 1)) (Zb (eC (.int 5)) Zk)))) (Zio (ZR (Zah (bOf (Zd 0))) Zam (Zj Zce (Zb (Zd 0) (Zb (Zd 2) Zk)))))))
def Zcs:List D->Option D:=fnOf 2 2 Zh6
def Zh7:SF :=
 (ZC (ZhB (Zj Za6 (Zb (Zd 0) (Zb (eC (.int 0)) (Zb (eC (.int 4)) Zk)))) (Zio (ZR (Zah (bOf (Zd 0))) Zam (Zj Zcf (Zb (Zd 0) (Zb (Zd 2) Zk)))))))
def Zct:List D->Option D:=fnOf 2 2 Zh7
def Zjl:SF :=
 (ZC (ZhB (Zj Z9 (Zb (Zd 0) (Zb (Zd 1) Zk))) (op2 gGt (Zbg (Zr 0)) (eC (.int 0)))))
def ZbP:List D->Option D:=fnOf 2 2 Zjl
def Zh8:SF :=
 (Zo (sIf (tOr (Zdd (tV (Zj Za6 (Zb (Zd 0) (Zb (eC (.int 5)) (Zb (eC (.int 5)) Zk)))))) (Zdd (tV (Zj Zax (Zb (eIx (Zr 0) (eC (.int 0))) (Zb (eC (.int 1)) (Zb (eC (.int 8)) Zk))))))) (ZC (eC (.bool false))) ZaJ)
  (Zo (Zai 1 (eIx (Zr 0) (eC (.int 0))))
  (Zo (sIf (tOr (Zdd (tV (Zj Zcs (Zb (eIx (Zr 0) (eC (.int 1))) (Zb (Zd 1) Zk))))) (Zdd (tV (Zj Zct (Zb (eIx (Zr 0) (eC (.int 2))) (Zb (Zd 1) Zk)))))) (ZC (eC (.bool false))) ZaJ)
  (ZC (ZhB (Zj ZbP (Zb (eIx (Zr 0) (eC (.int 3))) (Zb (Zd 1) Zk))) (Zj Z9 (Zb (eIx (Zr 0) (eC (.int 4))) (Zb (Zd 1) Zk))))))))
def Zcu:List D->Option D:=fnOf 1 2 Zh8
def Zh9:SF :=
 (ZC (eIx (Zr 0) (eC (.int 0))))
def Zcv:List D->Option D:=fnOf 1 1 Zh9
def Zjm:SF :=
 (ZC (eIx (Zr 0) (eC (.int 1))))
def ZaU:List D->Option D:=fnOf 1 1 Zjm
def Zjn:SF :=
 (ZC (eIx (Zr 0) (eC (.int 2))))
def ZbQ:List D->Option D:=fnOf 1 1 Zjn
def Zke:SF :=
 (Zo (sIf (Zdd (tV (Zj Zcu (Zb (Zd 0) Zk)))) Zg8 ZaJ)
  (ZC (Zd 0)))
def Zaa:List D->Option D:=fnOf 1 1 Zke
def ZfD:SF :=
 (Zo (sIf (Zdd (tV (Zj Z9 (Zb (Zd 1) (Zb (Zbg (bOf (Zj ZbQ (Zb (Zd 0) Zk)))) Zk))))) Zg8 ZaJ)
  (ZC (Zd 1)))
def ZN:List D->Option D:=fnOf 2 2 ZfD
def ZfE:SF :=
 (Zo (sIf (Zdd (tV (Zj ZbP (Zb (Zd 1) (Zb (Zj Zcv (Zb (Zd 0) Zk)) Zk))))) Zg8 ZaJ)
  (ZC (Zd 1)))
def Zaj:List D->Option D:=fnOf 2 2 ZfE
def Zkf:SF :=
 (ZC (Zba (ZR (Zah (bOf (Zd 1))) Zam (eIx (bOf (eIx (bOf (Zj ZbQ (Zb (Zd 1) Zk))) (Zd 0))) (Zd 3)))))
def Zdj:List D->Option D:=fnOf 3 3 Zkf
def ZgV:SF :=
 (Zo (Zai 3 (eIx (bOf (Zj ZaU (Zb (Zd 0) Zk))) (Zd 2)))
  (ZC (Zio (ZR (Zah (bOf (Zd 1))) Zam (op2 gGt (Zbg (bOf (eIx (Zr 4) (Zd 0)))) (eC (.int 0)))))))
def Zbe:List D->Option D:=fnOf 3 4 ZgV
def ZhU:SF :=
 (ZC (eOf (ZR (Zb6 (Zbg (bOf (Zj ZaU (Zb (Zd 0) Zk))))) (tV (Zj Zbe (Zb (Zd 1) (Zb (Zd 2) (Zb (Zd 0) Zk))))) (Zd 0))))
def Zbp:List D->Option D:=fnOf 2 2 ZhU
def Zd8:SF :=
 (ZhT 4 (Zd 6) (eC (.bool true)))
def Zd9:SF :=
 (ZbF 6 (Zah (bOf (eIx (Zr 3) (Zd 5)))) Zd8)
def Zlm:SF :=
 (Zo (Zai 3 (eIx (bOf (Zj ZaU (Zb (Zd 0) Zk))) (Zd 2)))
  (Zo (Z8 4 fDk)
  (Zo (ZbF 5 (Zah (bOf (Zd 1))) Zd9)
  (ZC (Zba (Zc2 (Zr 4)))))))
def Zcg:List D->Option D:=fnOf 3 7 Zlm
def Zea:SF :=
 (ZnT 3 (Zj Zdj (Zb (Zd 0) (Zb (Zd 1) (Zb (Zd 4) Zk)))) (Zd 4))
def Zln:SF :=
 (Zo (Z8 3 ZvB)
  (Zo (ZbF 4 (Zah (bOf (Zd 2))) Zea)
  (ZC (eOf (ZR (Zah (bOf (eOf (Zc2 (Zr 3))))) Zam (ZdK (Zb (Zd 0) (Zb (Zba (ZeN 4 (Zd 0))) Zk))))))))
def Zar:List D->Option D:=fnOf 3 5 Zln
def Zgf:SF :=
 (Zo (sIf (Zdd (tV (Zj Zax (Zb (Zd 2) (Zb (eC (.int 0)) (Zb (op2 Zkc (Zbg (bOf (Zj ZaU (Zb (Zd 0) Zk)))) (eC (.int 1))) Zk)))))) Zg8 ZaJ)
  (Zo (sIf (Zdd (tV (Zj Zbe (Zb (Zd 0) (Zb (Zd 1) (Zb (Zd 2) Zk)))))) Zg8 ZaJ)
  (ZC (Zd 2))))
def ZbG:List D->Option D:=fnOf 3 3 Zgf
def Zlo:SF :=
 (Zo (Zcj (Zj Zaa (Zb (Zd 0) Zk)))
  (Zo (Zcj (Zj Zaj (Zb (Zd 0) (Zb (Zd 1) Zk))))
  (ZC (Zj Zbp (Zb (Zd 0) (Zb (Zd 1) Zk))))))
def ZdU:List D->Option D:=fnOf 2 2 Zlo
def ZmB:SF :=
 (Zo (Zcj (Zj Zaa (Zb (Zd 0) Zk)))
  (Zo (Zcj (Zj Zaj (Zb (Zd 0) (Zb (Zd 1) Zk))))
  (Zo (Zcj (Zj ZbG (Zb (Zd 0) (Zb (Zd 1) (Zb (Zd 2) Zk)))))
  (ZC (Zj Zcg (Zb (Zd 0) (Zb (Zd 1) (Zb (Zd 2) Zk))))))))
def ZcG:List D->Option D:=fnOf 3 3 ZmB
def ZmC:SF :=
 (Zo (Zcj (Zj Zaa (Zb (Zd 0) Zk)))
  (Zo (Zcj (Zj ZN (Zb (Zd 0) (Zb (Zd 1) Zk))))
  (Zo (Zcj (Zj Zaj (Zb (Zd 0) (Zb (Zd 2) Zk))))
  (ZC (Zj Zar (Zb (Zd 0) (Zb (Zd 1) (Zb (Zd 2) Zk))))))))
def ZdD:List D->Option D:=fnOf 3 3 ZmC
def Zjo:SF :=
 (Zo (sIf (tV (op2 gLt (Zd 1) (Zbg (Zr 0)))) (ZC (eIx (Zr 0) (Zd 1))) ZaJ)
  (ZC (eC (.int 0))))
def ZM:List D->Option D:=fnOf 2 2 Zjo
def Zkg:SF :=
 (ZC (op2 ZjQ (op2 ZjQ (op2 Zb4 (Zd 0) (eC (.int 48271))) (Zd 1)) (Zd 2)))
def ZB:List D->Option D:=fnOf 3 3 Zkg
def ZfF:SF :=
 (Zo (Z8 3 (ZR (Zb6 (Zd 1)) (tV (op2 gLt (Zj ZB (Zb (op2 Zbb (op2 Zbb (Zd 1) (op2 Zb4 (op2 Zb4 (eC (.int 31)) (Zd 0)) (Zd 0))) (op2 Zb4 (eC (.int 7)) (Zd 0))) (Zb (eC (.int 9973)) (Zb (eC (.int 5)) Zk)))) (eC (.int 2)))) (Zd 0)))
  (Zo (sIf (tV (op2 gLt (Zbg (Zr 3)) (Zd 2))) (Z8 3 (Zdg (Zb (Zj ZB (Zb (Zd 0) (Zb (eC (.int 9967)) (Zb (Zd 1) Zk)))) Zk))) ZaJ)
  (ZC (Zba (Zr 3)))))
def ZbC:List D->Option D:=fnOf 3 4 ZfF
def ZbW:SF :=
 (Zo (Zai 4 (op2 Zbb (op2 Zbb (Zd 0) (op2 Zb4 (op2 Zb4 (eC (.int 43)) (Zd 3)) (Zd 3))) (op2 Zb4 (eC (.int 11)) (Zd 3))))
  (Zo (Zai 5 (Zj ZB (Zb (Zd 4) (Zb (eC (.int 9949)) (Zb (eC (.int 10)) Zk)))))
  (Zo (Z8 6 (Zoo (Zj ZB (Zb (Zd 4) (Zb (eC (.int 9941)) (Zb (Zd 1) Zk)))) (eC (.bool true))))
  (Zo (sIf (tV (op2 gLt (Zd 5) (eC (.int 3)))) (ZhT 6 (Zj ZB (Zb (Zd 4) (Zb (eC (.int 9931)) (Zb (Zd 1) Zk)))) (eC (.bool true))) ZaJ)
  (Zo (ZdW 2 (Zba (Zc2 (Zr 6))))
  (sIf (tV (op2 gEq (Zd 5) (eC (.int 9)))) (Zqt 2 (eC (.int (-1))) (ZdK Zk)) ZaJ))))))
def Zjp:SF :=
 (Zo (Z8 2 (Zdg Zk))
  (Zo (ZbF 3 (Zb6 (Zd 1)) ZbW)
  (ZC (Zba (Zr 2)))))
def ZcT:List D->Option D:=fnOf 2 7 Zjp
def Zc6:SF :=
 (Zo (Zai 5 (op2 Zwc (op2 Zkc (Zd 4) (eC (.int 1))) (eC (.int 0))))
  (Zo (Zai 6 (op2 ZvL (op2 Zbb (Zd 4) (eC (.int 1))) (op2 Zkc (Zd 1) (eC (.int 1)))))
  (Zo (Zai 7 (op2 gEq (Zj ZB (Zb (op2 Zbb (Zd 0) (op2 Zb4 (eC (.int 17)) (Zd 4))) (Zb (eC (.int 9929)) (Zb (eC (.int 6)) Zk)))) (eC (.int 1))))
  (Zo (ZdW 2 (Zba (Zhs (Zqn (Zdg (Zb (Zd 5) Zk)) (ZsL (Zdg (Zb (Zd 4) Zk)) (Zoa (Zd 7)))))))
  (ZdW 3 (ZdK (Zb (Zd 6) Zk)))))))
def Zjq:SF :=
 (Zo (Z8 2 (Zdg Zk))
  (Zo (Z8 3 (Zdg Zk))
  (Zo (ZbF 4 (Zb6 (Zd 1)) Zc6)
  (ZC (ZdK (Zb (Zba (Zr 2)) (Zb (Zba (Zr 3)) Zk)))))))
def ZcU:List D->Option D:=fnOf 2 8 Zjq
def ZcP:SF :=
 (Zo (Zai 7 (op2 Zbb (Zj ZM (Zb (Zd 0) (Zb (op2 Zbb (op2 Zbb (Zd 1) (eC (.int 4))) (Zd 5)) Zk))) (op2 Zb4 (eC (.int 71)) (Zd 5))))
  (Zo (Zai 8 (op2 Zbb (eC (.int 2)) (Zj ZB (Zb (Zd 7) (Zb (eC (.int 9883)) (Zb (eC (.int 2)) Zk))))))
  (ZdW 6 (Zba (ZR (Zb6 (Zd 3)) Zam (Zj ZB (Zb (op2 Zbb (Zd 8) (op2 Zb4 (op2 Zb4 (eC (.int 13)) (Zd 0)) (Zd 0))) (Zb (eC (.int 9871)) (Zb (Zd 9) Zk)))))))))
def Zdz:SF :=
 (ZdW 4 (Zj ZcT (Zb (op2 Zbb (Zj ZM (Zb (Zd 0) (Zb (op2 Zbb (op2 Zbb (Zd 1) (eC (.int 1))) (Zd 5)) Zk))) (op2 Zb4 (eC (.int 61)) (Zd 5))) (Zb (Zd 3) Zk))))
def Zc7:SF :=
 (Zo (Zai 2 (Zj ZM (Zb (Zd 0) (Zb (Zd 1) Zk))))
  (Zo (Zai 3 (op2 Zbb (eC (.int 2)) (Zj ZB (Zb (Zd 2) (Zb (eC (.int 9923)) (Zb (eC (.int 4)) Zk))))))
  (Zo (sIf (tV (op2 gGt (Zbg (Zr 0)) (eC (.int 63)))) (Zai 3 (op2 Zbb (eC (.int 2)) (Zj ZB (Zb (Zd 2) (Zb (eC (.int 9923)) (Zb (eC (.int 6)) Zk)))))) ZaJ)
  (Zo (Z8 4 (Zdg Zk))
  (Zo (ZbF 5 (Zb6 (op2 Zbb (eC (.int 1)) (Zj ZB (Zb (Zd 2) (Zb (eC (.int 9907)) (Zb (eC (.int 3)) Zk)))))) Zdz)
  (Zo (sIf (tV (op2 gEq (Zj ZB (Zb (Zd 2) (Zb (eC (.int 9901)) (Zb (eC (.int 3)) Zk)))) (eC (.int 1)))) (Z8 4 (Zqn (Zi2 (bOf (Zj ZcU (Zb (Zj ZM (Zb (Zd 0) (Zb (op2 Zbb (Zd 1) (eC (.int 1))) Zk))) (Zb (Zd 3) Zk))))) (Zts (Zr 4) none (some (eC (.int 1)))))) ZaJ)
  (Zo (Z8 6 (Zdg Zk))
  (Zo (ZbF 5 (Zb6 (Zj ZB (Zb (Zd 2) (Zb (eC (.int 9887)) (Zb (eC (.int 4)) Zk))))) ZcP)
  (Zo (Zai 9 (Zj ZbC (Zb (Zj ZM (Zb (Zd 0) (Zb (op2 Zbb (Zd 1) (eC (.int 7))) Zk))) (Zb (Zd 3) (Zb (eC (.int 1)) Zk)))))
  (Zo (sIf (tV (op2 gEq (Zj ZB (Zb (Zd 2) (Zb (eC (.int 9859)) (Zb (eC (.int 3)) Zk)))) (eC (.int 1)))) (Zai 9 (ZjT (Zb6 (Zd 3)))) ZaJ)
  (Zo (Zai 10 (Zj ZbC (Zb (Zj ZM (Zb (Zd 0) (Zb (op2 Zbb (Zd 1) (eC (.int 8))) Zk))) (Zb (Zd 3) (Zb (eC (.int 1)) Zk)))))
  (ZC (ZdK (Zb (Zd 3) (Zb (Zba (Zr 4)) (Zb (Zba (Zr 6)) (Zb (Zd 9) (Zb (Zd 10) Zk))))))))))))))))))
def Za8:List D->Option D:=fnOf 2 11 Zc7
def Zia:SF :=
 (ZC (Zba (ZR (Zb6 (Zbg (bOf (eIx (Zr 0) (eC (.int 2)))))) (tV (op2 gGt (Zj ZB (Zb (op2 Zbb (Zd 2) (op2 Zb4 (eC (.int 19)) (Zd 0))) (Zb (eC (.int 9857)) (Zb (eC (.int 4)) Zk)))) (eC (.int 0)))) (Zd 0))))
def Zcw:List D->Option D:=fnOf 2 2 Zia
end HG
namespace HG
open PySem HM
def Zt(ns:List Int)(k:Nat):Int:=if k<ns.length then ns.getD k 0 else 0
theorem Zdp(ns:List Int)(k:Nat):ZM [.list (ns.map dI),.int k]=some (.int (Zt ns k)):=by
 simp[ZM,Zjo,Zt]
 by_cases h:k<ns.length
 ·have h':(k:Int)<(ns.length:Int):=by omega
  have e:atD (ns.map dI) (k:Int)=some (.int ns[k]):=Zdr (by simp[h]);simp[h,h',e]
 ·have h':¬(k:Int)<(ns.length:Int):=by omega
  simp[h,h']
def ZP(c p m:Int):Int:=c*48271 % p % m
theorem Zb1(c p m:Int)(hp:0<p)(hm:0<m):ZB [.int c,.int p,.int m]=some (.int (ZP c p m)):=by simp[ZB,Zkg,hp,hm,ZP]
theorem ZaY(c p m:Int)(hm:0<m):0<=ZP c p m/\ZP c p m<m:=⟨Int.emod_nonneg _ (by omega),Int.emod_lt_of_pos _ hm⟩
def crP(c:Int)(k:Nat):Bool:=decide (ZP (c+31*(k:Int)*(k:Int)+7*(k:Int)) 9973 5<2)
def crF(c:Int)(n:Nat):List Int:=((ZxZ n).filter (crP c)).map λ(k:Nat)=>(k:Int)
def crV(c:Int)(n:Nat):List Int:=if(crF c n).length<1 then[ZP c 9967 n]else crF c n
theorem ZhH(n:Nat)(p:Nat->Bool):Cr n (((ZxZ n).filter p).map λ(k:Nat)=>(k:Int)):=by
 refine⟨?_,λx hx=>?_⟩
 ·rw[List.pairwise_map]
  refine List.Pairwise.imp (λ{a b} h=>?_) (List.Pairwise.filter p ZCe);omega
 ·obtain⟨k,hk,rfl⟩:=Zx3.mp hx
  have:=Zyh.mp (Zyt.mp hk).1;omega
theorem Zrc(c:Int)(n:Nat)(hn:0<n):Cr n (crV c n)/\crV c n≠[]:=by
 unfold crV;split
 ·refine⟨⟨by simp,λx hx=>?_⟩,by simp⟩
  have e:x=ZP c 9967 n:=by simpa using hx
  rw[e];have:=ZaY c 9967 n (by omega);omega
 ·rename_i h
  exact⟨ZhH n _,λe=>h (by rw[e]; simp)⟩
theorem Zor(c:Int)(n:Nat)(hn:0<n)(hb:n<1000):ZbC [.int c,.int n,.int 1]=some (tupI (crV c n)):=by
 have hn':(0:Int)<(n:Int):=by omega
 have key:ZaK (tV (op2 gLt (Zj ZB (Zb (op2 Zbb (op2 Zbb (Zd 1) (op2 Zb4 (op2 Zb4 (eC (.int 31)) (Zd 0)) (Zd 0))) (op2 Zb4 (eC (.int 7)) (Zd 0))) (Zb (eC (.int 9973)) (Zb (eC (.int 5)) Zk)))) (eC (.int 2)))) (Zd 0)
   [some (.pl (.int c)),some (.pl (.int n)),some (.pl (.int 1)),none] (ZcR 0 n)=some ((crF c n).map dI):=by
  rw[ZaZ];rw[Zb5 dN (crP c) dN]
  ·unfold crF
   rw[Zyg];rfl
  ·intro k hk
   have hk':=Zyh.mp hk;have s2:Z0 (31*(k:Int))=true:=Zin (by omega) (by omega);simp[Zb1,crP,s2]
  ·intro k hk _
   simp
 have h1:okR (n:Int)=true:=ZeS (by omega);have h2:(ZcR 0 n).length<1000000:=by rw[ZaZ]; simp; omega
 by_cases hl:(crF c n).length<1
 ·have hl':((crF c n).length:Int)<1:=by omega
  have hm:=Zb1 c 9967 n (by decide) hn';simp[ZbC,ZfF,h1,h2,key];simp[hl',crV,hl,hm]
 ·have hl':¬((crF c n).length:Int)<1:=by omega
  simp[ZbC,ZfF,h1,h2,key];simp[hl',crV,hl]
def ZsQ(c:Int)(n k:Nat):List Int :=
 let s:=c+43*(k:Int)*(k:Int)+11*(k:Int)
 if ZP s 9949 10<3/\ZP s 9941 n≠ZP s 9931 n then[ZP s 9941 n,ZP s 9931 n]else[ZP s 9941 n]
def Zfe(c:Int)(n k:Nat):List Int:=if ZP (c+43*(k:Int)*(k:Int)+11*(k:Int)) 9949 10=9 then[]else sortI (ZsQ c n k)
theorem ZuI(c:Int)(n k:Nat)(hn:0<n):Cr n (Zfe c n k):=by
 unfold Zfe;split
 ·exact⟨.nil,λx hx=>by simp at hx⟩
 ·unfold ZsQ
  dsimp only;have b1:=ZaY (c+43*(k:Int)*(k:Int)+11*(k:Int)) 9941 n (by omega);have b2:=ZaY (c+43*(k:Int)*(k:Int)+11*(k:Int)) 9931 n (by omega);split
  ·rename_i h
   refine Zht (by simp[h.2]) λx hx=>?_;simp at hx;rcases hx with e | e<;>(subst e; assumption)
  ·refine Zht (by simp) λx hx=>?_
   simp at hx;subst hx; assumption
theorem Zst(n:Nat):ixN (n+1) (-1)=some n:=by unfold ixN;rw[if_neg (by decide),if_pos (by omega)];congr 1;omega
theorem Zr0(c:Int)(n k:Nat)(rows:List D)(o4 o5 o6:Option B)(hn:0<n)(hk:k<1000)(hl:rows.length<1000) :
  ∃r5 r6 r7,ZbW [some (.pl (.int c)),some (.pl (.int n)),some (.ol rows),some (.pl (dN k)),o4,o5,o6]=some (.nx [some (.pl (.int c)),some (.pl (.int n)),some (.ol (rows++[tupI (Zfe c n k)])),some (.pl (dN k)),r5,r6,r7]):=by
 have hn':(0:Int)<(n:Int):=by omega
 have s2:Z0 (43*(k:Int))=true:=Zin (by omega) (by omega);have hl':rows.length<1000000:=by omega
 have m1:=Zb1 (c+43*(k:Int)*(k:Int)+11*(k:Int)) 9949 10 (by decide) (by decide);have m2:=Zb1 (c+43*(k:Int)*(k:Int)+11*(k:Int)) 9941 n (by decide) hn';have m3:=Zb1 (c+43*(k:Int)*(k:Int)+11*(k:Int)) 9931 n (by decide) hn';unfold Zfe ZsQ;dsimp only;generalize ZP (c+43*(k:Int)*(k:Int)+11*(k:Int)) 9949 10=wy at *;generalize ZP (c+43*(k:Int)*(k:Int)+11*(k:Int)) 9941 n=a at *;generalize ZP (c+43*(k:Int)*(k:Int)+11*(k:Int)) 9931 n=b at *;have t1:ZdC [ZyI a]=some ((sortI [a]).map dI):=Zhx [a] (by simp);have t2:ZdC [ZyI a,ZyI b]=some ((sortI [a,b]).map dI):=Zhx [a,b] (by simp)
 by_cases w3:wy<3
 ·have w9:(wy==9)=false:=by simp; omega
  have w9':¬wy=9:=by omega
  by_cases ab:a=b
  ·subst ab
   simp[ZbW,s2,m1,m2,m3,w3,w9,w9',putD,ZaL,hl',t1]
  ·simp[ZbW,s2,m1,m2,m3,w3,w9,w9',putD,ab,ZaL,hl',t2]
 ·by_cases w9:wy=9
  ·subst w9
   simp[ZbW,s2,m1,m2,putD,ZaL,hl',t1,Zst]
  ·have w9':(wy==9)=false:=by simp[w9]
   simp[ZbW,s2,m1,m2,w3,w9',w9,putD,ZaL,hl',t1]
theorem Zt9(c:Int)(n:Nat)(hn:0<n)(hb:n<1000):ZcT [.int c,.int n]=some (Z3 ((ZxZ n).map λk=>Zfe c n k)):=by
 have h1:okR (n:Int)=true:=ZeS (by omega);have h2:(ZcR 0 n).length<1000000:=by rw[ZaZ]; simp; omega
 obtain⟨r',e1,o3,o4,o5,o6,p1⟩:=Zi3 (i:=3) (body:=ZbW) dN (λ(s:List Nat) r=>∃o3 o4 o5 o6,r=[some (.pl (.int c)),some (.pl (.int n)),some (.ol (s.map λk=>tupI (Zfe c n k))),o3,o4,o5,o6]) (ZxZ n)
  [some (.pl (.int c)),some (.pl (.int n)),some (.ol []),none,none,none,none] ⟨none,none,none,none,rfl⟩ (by
   rintro s k post r hxs ⟨o3,o4,o5,o6,rfl⟩
   have hk':k<n:=Zyh.mp (by rw[hxs]; simp);have hs:s.length<n:=by have:=congrArg ZyB hxs; simp at this; omega
   obtain⟨r5,r6,r7,e⟩:=Zr0 c n k (s.map λk=>tupI (Zfe c n k)) o4 o5 o6 hn (by omega) (by simp; omega);exact⟨_,e,some (.pl (dN k)),r5,r6,r7,by simp⟩)
 subst p1;have hl:n<1000000:=by omega
 simp[ZcT,Zjp,h1,ZaZ,hl,e1,Z3]
end HG
namespace HG
open PySem HM
def ahV(k:Nat):Int:=if(0:Int) > (k:Int)-1 then 0 else(k:Int)-1
def beV(n k:Nat):Int:=if(n:Int)-1<(k:Int)+1 then(n:Int)-1 else(k:Int)+1
def wlV(c:Int)(k:Nat):List Int:=sortI (dedup [] (ahV k::(if ZP (c+17*(k:Int)) 9929 6=1 then[(k:Int)]else[])))
theorem Zvk(c:Int)(n k:Nat)(hk:k<n):Cr n (wlV c k):=by
 unfold wlV;have ha:0<=ahV k/\ahV k<n:=by unfold ahV; split<;>omega
 refine Zht (ZeW _ _ (by simp)) λx hx=>?_;rw[Ze6]at hx;rcases hx with h | h
 ·simp at h
 ·rcases Zye.mp h with e | e
  ·subst e; exact ha
  ·split at e
   ·simp at e; subst e; omega
   ·simp at e
theorem Zwl(n k:Nat)(hk:k<n):Cr n [beV n k]:=by
 have ha:0<=beV n k/\beV n k<n:=by unfold beV; split<;>omega
 exact⟨by simp,λx hx=>by simp at hx; subst hx; exact ha⟩
theorem ZiM(c:Int)(n k:Nat)(ls rs:List D)(o4 o5 o6 o7:Option B)(hk:k<8)(h1:ls.length<1000)(h2:rs.length<1000) :
  ∃r4 r5 r6,Zc6 [some (.pl (.int c)),some (.pl (.int n)),some (.ol ls),some (.ol rs),some (.pl (dN k)),o5,o6,o7]=some (.nx [some (.pl (.int c)),some (.pl (.int n)),some (.ol (ls++[tupI (wlV c k)])),some (.ol (rs++[tupI [beV n k]])),some (.pl (dN k)),r4,r5,r6]):=by
 have h1':ls.length<1000000:=by omega
 have h2':rs.length<1000000:=by omega
 have m1:=Zb1 (c+17*(k:Int)) 9929 6 (by decide) (by decide);have hk8:k=0\/k=1\/k=2\/k=3\/k=4\/k=5\/k=6\/k=7:=by omega
 have l1:Zs5 [if(k:Int)-1<0 then 0 else(k:Int)-1,(k:Int)]=true:=by rcases hk8 with rfl | rfl | rfl | rfl | rfl | rfl | rfl | rfl<;>rfl
 have l2:Zs5 [if(k:Int)-1<0 then 0 else(k:Int)-1]=true:=by rcases hk8 with rfl | rfl | rfl | rfl | rfl | rfl | rfl | rfl<;>rfl
 unfold wlV;generalize ZP (c+17*(k:Int)) 9929 6=a at *
 by_cases e:a=1
 ·subst e
  simp[Zc6,m1,h1',h2',ahV,beV,ZaO,ZhG,l1]
 ·have e':(a==1)=false:=by simp[e]
  simp[Zc6,m1,h1',h2',ahV,beV,e,e',ZaO,ZhG,l2]
theorem ZuS(c:Int)(n:Nat)(hb:n<=8):ZcU [.int c,.int n]=some (.tuple [Z3 ((ZxZ n).map λk=>wlV c k),Z3 ((ZxZ n).map λk=>[beV n k])]):=by
 have h1:okR (n:Int)=true:=ZeS (by omega);obtain⟨r',e1,o4,o5,o6,o7,p1⟩:=Zi3 (i:=4) (body:=Zc6) dN (λ(s:List Nat) r=>∃o4 o5 o6 o7,r=[some (.pl (.int c)),some (.pl (.int n)),some (.ol (s.map λk=>tupI (wlV c k))),some (.ol (s.map λk=>tupI [beV n k])),o4,o5,o6,o7]) (ZxZ n)
  [some (.pl (.int c)),some (.pl (.int n)),some (.ol []),some (.ol []),none,none,none,none] ⟨none,none,none,none,rfl⟩ (by
   rintro s k post r hxs ⟨o4,o5,o6,o7,rfl⟩
   have hk':k<n:=Zyh.mp (by rw[hxs]; simp);have hs:s.length<n:=by have:=congrArg ZyB hxs; simp at this; omega
   obtain⟨r5,r6,r7,e⟩:=ZiM c n k (s.map λk=>tupI (wlV c k)) (s.map λk=>tupI [beV n k]) o4 o5 o6 o7 (by omega) (by simp; omega) (by simp; omega);exact⟨_,e,some (.pl (dN k)),r5,r6,r7,by simp⟩)
 subst p1;have hl:n<1000000:=by omega
 simp[ZcU,Zjq,h1,ZaZ,hl,e1,Z3]
section
variable(ns:List Int)(at_:Nat)
def ZQ:Nat:=(2+ZP (Zt ns at_) 9923 4).toNat
def ZbL:List (List (List Int)):=(ZxZ (1+ZP (Zt ns at_) 9907 3).toNat).map λk=>(ZxZ (ZQ ns at_)).map λs=>Zfe (Zt ns (at_+1+k)+61*(k:Int)) (ZQ ns at_) s
def Zf5:List (List (List Int)) :=
 if ZP (Zt ns at_) 9901 3=1 then[(ZxZ (ZQ ns at_)).map λk=>wlV (Zt ns (at_+1)) k,(ZxZ (ZQ ns at_)).map λk=>[beV (ZQ ns at_) k]]++(ZbL ns at_).take 1 else ZbL ns at_
def Zgi(k:Nat):List Int:=(ZxZ (ZQ ns at_)).map λ(s:Nat)=>ZP (Zt ns (at_+4+k)+71*(k:Int)+13*(s:Int)*(s:Int)) 9871 (2+ZP (Zt ns (at_+4+k)+71*(k:Int)) 9883 2)
def Zf1:List (List Int):=(ZxZ (ZP (Zt ns at_) 9887 4).toNat).map (Zgi ns at_)
def Znv:List Int:=if ZP (Zt ns at_) 9859 3=1 then(ZxZ (ZQ ns at_)).map λ(k:Nat)=>(k:Int)else crV (Zt ns (at_+7)) (ZQ ns at_)
def ZtQ:List Int:=crV (Zt ns (at_+8)) (ZQ ns at_)
def wkV:Wk:=⟨ZQ ns at_,Zf5 ns at_,Zf1 ns at_,Znv ns at_,ZtQ ns at_⟩
theorem Zi8:2<=ZQ ns at_/\ZQ ns at_<=5:=by have:=ZaY (Zt ns at_) 9923 4 (by decide);unfold ZQ; omega
theorem Zt7:((ZQ ns at_:Nat):Int)=2+ZP (Zt ns at_) 9923 4:=by have:=ZaY (Zt ns at_) 9923 4 (by decide);unfold ZQ; omega
theorem ZvX:(wkV ns at_).Ok:=by
 have hm:=Zi8 ns at_;have hd3:=ZaY (Zt ns at_) 9907 3 (by decide);have dk:∀dd∈ZbL ns at_,dd.length=ZQ ns at_/\∀c∈dd,Cr (ZQ ns at_) c:=by intro dd h;unfold ZbL at h;obtain⟨k,_,rfl⟩:=Zx3.mp h;refine⟨by simp,λc hc=>?_⟩;obtain⟨s,_,rfl⟩:=Zx3.mp hc;exact ZuI _ _ _ (by omega)
 have dv:∀dd∈Zf5 ns at_,dd.length=ZQ ns at_/\∀c∈dd,Cr (ZQ ns at_) c:=by
  intro dd h;unfold Zf5 at h;split at h
  ·rcases Zyq.mp h with h | h
   ·simp at h
    rcases h with rfl | rfl
    ·refine⟨by simp,λc hc=>?_⟩
     obtain⟨s,hs,rfl⟩:=Zx3.mp hc;exact Zvk _ _ _ (Zyh.mp hs)
    ·refine⟨by simp,λc hc=>?_⟩
     obtain⟨s,hs,rfl⟩:=Zx3.mp hc;exact Zwl _ _ (Zyh.mp hs)
   ·exact dk dd (List.mem_of_mem_take h)
  ·exact dk dd h
 have lk:(ZbL ns at_).length=(1+ZP (Zt ns at_) 9907 3).toNat:=by unfold ZbL; simp
 have lv:1<=(Zf5 ns at_).length/\(Zf5 ns at_).length<=3:=by
  unfold Zf5;split
  ·simp; omega
  ·omega
 have hl4:=ZaY (Zt ns at_) 9887 4 (by decide);have lo:∀l∈Zf1 ns at_,l.length=ZQ ns at_/\∀x∈l,0<=x/\x<=9:=by intro l h;unfold Zf1 at h;obtain⟨k,_,rfl⟩:=Zx3.mp h;unfold Zgi;refine⟨by simp,λx hx=>?_⟩;obtain⟨s,_,rfl⟩:=Zx3.mp hx;have h2:=ZaY (Zt ns (at_+4+k)+71*(k:Int)) 9883 2 (by decide);have h3:=ZaY (Zt ns (at_+4+k)+71*(k:Int)+13*(s:Int)*(s:Int)) 9871 (2+ZP (Zt ns (at_+4+k)+71*(k:Int)) 9883 2) (by omega);omega
 have ll:(Zf1 ns at_).length<=3:=by unfold Zf1; simp; omega
 have cb:=Zrc (Zt ns (at_+7)) (ZQ ns at_) (by omega);have cg:=Zrc (Zt ns (at_+8)) (ZQ ns at_) (by omega);have hb:Znv ns at_≠[]/\Cr (ZQ ns at_) (Znv ns at_):=by
  unfold Znv;split
  ·refine⟨λe=>?_,?_⟩
   ·have:=congrArg ZyB e
    simp at this;omega
   ·have:=ZhH (ZQ ns at_) λ_=>true
    rwa [ZAC.mpr λ_ _=>rfl]at this
  ·exact⟨cb.2,cb.1⟩
 exact⟨hm.1,hm.2,lv.1,lv.2,λdd h=>(dv dd h).1,λdd h=>(dv dd h).2,ll,λl h=>(lo l h).1,λl h=>(lo l h).2,hb.1,hb.2,cg.2,cg.1⟩
theorem Zxk(k:Int)(h:0<=k):ZM [.list (ns.map dI),.int k]=some (.int (Zt ns k.toNat)):=by
 have:=Zdp ns k.toNat
 rwa [ZAd h]at this
theorem Zqz(k n:Nat)(c:Option B)(ds:List D)(o6 o7 o8 o9 o10:Option B)(hk:k<1000)(h1:ds.length<1000)(hn:0<n)(hb:n<1000) :
  Zdz [some (.pl (.list (ns.map dI))),some (.pl (.int at_)),c,some (.pl (.int n)),some (.ol ds),some (.pl (dN k)),o6,o7,o8,o9,o10] =
   some (.nx [some (.pl (.list (ns.map dI))),some (.pl (.int at_)),c,some (.pl (.int n)),some (.ol (ds++[Z3 ((ZxZ n).map λs=>Zfe (Zt ns (at_+1+k)+61*(k:Int)) n s)])),some (.pl (dN k)),o6,o7,o8,o9,o10]):=by
 have h1':ds.length<1000000:=by omega
 have hc:=Zdp ns (at_+1+k);have e:((at_+1+k:Nat):Int)=(at_:Int)+1+(k:Int):=by omega
 rw[e]at hc;have hd:=Zt9 (Zt ns (at_+1+k)+61*(k:Int)) n hn hb;simp[Zdz,hc,hd,h1']
theorem Zqi(k n:Nat)(c o4:Option B)(ls:List D)(o7 o8 o9 o10:Option B)(hk:k<1000)(h1:ls.length<1000)(hn:n=ZQ ns at_) :
  ∃r7 r8,ZcP [some (.pl (.list (ns.map dI))),some (.pl (.int at_)),c,some (.pl (.int n)),o4,some (.pl (dN k)),some (.ol ls),o7,o8,o9,o10] =
   some (.nx [some (.pl (.list (ns.map dI))),some (.pl (.int at_)),c,some (.pl (.int n)),o4,some (.pl (dN k)),some (.ol (ls++[tupI (Zgi ns at_ k)])),r7,r8,o9,o10]):=by
 have hb:=Zi8 ns at_;have h1':ls.length<1000000:=by omega
 have hc:=Zdp ns (at_+4+k);have e:((at_+4+k:Nat):Int)=(at_:Int)+4+(k:Int):=by omega
 rw[e]at hc;have m1:=Zb1 (Zt ns (at_+4+k)+71*(k:Int)) 9883 2 (by decide) (by decide);have b1:=ZaY (Zt ns (at_+4+k)+71*(k:Int)) 9883 2 (by decide);have hok:okR (n:Int)=true:=ZeS (by omega);have hl:n<1000000:=by omega
 unfold Zgi;rw[<-hn];generalize ZP (Zt ns (at_+4+k)+71*(k:Int)) 9883 2=mo at *;generalize Zt ns (at_+4+k)=cc at *;simp[ZcP,hc,m1,hok,h1',ZaZ,hl];rw[Zbl dN λ(s:Nat)=>dI (ZP (cc+71*(k:Int)+13*(s:Int)*(s:Int)) 9871 (2+mo))]
 ·refine⟨some (.pl (.int (cc+71*(k:Int)))),some (.pl (.int (2+mo))),?_⟩
  simp
 ·intro s hs
  have hs':=Zyh.mp hs;have s2:Z0 (13*(s:Int))=true:=Zin (by omega) (by omega);have m2:=Zb1 (cc+71*(k:Int)+13*(s:Int)*(s:Int)) 9871 (2+mo) (by decide) (by omega);simp[s2,m2]
theorem Ztl(h:ns.length<=63):Za8 [.list (ns.map dI),.int at_]=some (wkV ns at_).d:=by
 have hb:=Zi8 ns at_;have hmc:=Zt7 ns at_;have c0:=Zdp ns at_;have c1:=Zdp ns (at_+1);have c7:=Zdp ns (at_+7);have c8:=Zdp ns (at_+8);have e1:((at_+1:Nat):Int)=(at_:Int)+1:=by omega
 have e7:((at_+7:Nat):Int)=(at_:Int)+7:=by omega
 have e8:((at_+8:Nat):Int)=(at_:Int)+8:=by omega
 rw[e1]at c1;rw[e7]at c7;rw[e8]at c8;have m4:=Zb1 (Zt ns at_) 9923 4 (by decide) (by decide);have m3:=Zb1 (Zt ns at_) 9907 3 (by decide) (by decide);have b3:=ZaY (Zt ns at_) 9907 3 (by decide);have mw:=Zb1 (Zt ns at_) 9901 3 (by decide) (by decide);have ml:=Zb1 (Zt ns at_) 9887 4 (by decide) (by decide);have bl:=ZaY (Zt ns at_) 9887 4 (by decide);have mb:=Zb1 (Zt ns at_) 9859 3 (by decide) (by decide);have wk:=ZuS (Zt ns (at_+1)) (ZQ ns at_) (by omega);have k7:=Zor (Zt ns (at_+7)) (ZQ ns at_) (by omega) (by omega);have k8:=Zor (Zt ns (at_+8)) (ZQ ns at_) (by omega) (by omega);have hlen:¬(63:Int)<(ns.length:Int):=by omega
 have ok3:okR (1+ZP (Zt ns at_) 9907 3)=true:=ZAN.mpr (by omega);have okl:okR (ZP (Zt ns at_) 9887 4)=true:=ZAN.mpr (by omega);have okm:okR ((ZQ ns at_:Nat):Int)=true:=ZeS (by omega);obtain⟨r1,f1,o5,q1⟩:=Zi3 (i:=5) (body:=Zdz) dN (λ(s:List Nat) r=>∃o5,r=[some (.pl (.list (ns.map dI))),some (.pl (.int at_)),some (.pl (.int (Zt ns at_))),some (.pl (.int (ZQ ns at_))),
   some (.ol (s.map λk=>Z3 ((ZxZ (ZQ ns at_)).map λs=>Zfe (Zt ns (at_+1+k)+61*(k:Int)) (ZQ ns at_) s))),o5,none,none,none,none,none]) (ZxZ (1+ZP (Zt ns at_) 9907 3).toNat)
  [some (.pl (.list (ns.map dI))),some (.pl (.int at_)),some (.pl (.int (Zt ns at_))),some (.pl (.int (ZQ ns at_))),some (.ol []),none,none,none,none,none,none] ⟨none,rfl⟩ (by
   rintro s k post r hxs ⟨o5,rfl⟩
   have hk':=Zyh.mp (show k∈ZxZ (1+ZP (Zt ns at_) 9907 3).toNat by rw[hxs]; simp);have hs:s.length<4:=by have:=congrArg ZyB hxs; simp at this; omega
   have e:=Zqz ns at_ k (ZQ ns at_) (some (.pl (.int (Zt ns at_)))) (s.map λk=>Z3 ((ZxZ (ZQ ns at_)).map λs=>Zfe (Zt ns (at_+1+k)+61*(k:Int)) (ZQ ns at_) s)) none none none none none (by omega) (by simp; omega) (by omega) (by omega);exact⟨_,e,some (.pl (dN k)),by simp⟩)
 subst q1;have lks:∀(o4 o5:Option B),∃r2,ZaG 5 ZcP ((ZxZ (ZP (Zt ns at_) 9887 4).toNat).map dN) [some (.pl (.list (ns.map dI))),some (.pl (.int at_)),some (.pl (.int (Zt ns at_))),some (.pl (.int (ZQ ns at_))),o4,o5,some (.ol []),none,none,none,none]=some (.nx r2) /\
   ∃o5 o7 o8,r2=[some (.pl (.list (ns.map dI))),some (.pl (.int at_)),some (.pl (.int (Zt ns at_))),some (.pl (.int (ZQ ns at_))),o4,o5,some (.ol ((ZxZ (ZP (Zt ns at_) 9887 4).toNat).map λk=>tupI (Zgi ns at_ k))),o7,o8,none,none]:=by
  intro o4 o5;refine Zi3 (i:=5) (body:=ZcP) dN (λ(s:List Nat) r=>∃o5 o7 o8,r=[some (.pl (.list (ns.map dI))),some (.pl (.int at_)),some (.pl (.int (Zt ns at_))),some (.pl (.int (ZQ ns at_))),
   o4,o5,some (.ol (s.map λk=>tupI (Zgi ns at_ k))),o7,o8,none,none]) (ZxZ (ZP (Zt ns at_) 9887 4).toNat) _ ⟨o5,none,none,rfl⟩ ?_
  rintro s k post r hxs ⟨o5,o7,o8,rfl⟩
  have hk':=Zyh.mp (show k∈ZxZ (ZP (Zt ns at_) 9887 4).toNat by rw[hxs]; simp);have hs:s.length<4:=by have:=congrArg ZyB hxs; simp at this; omega
  obtain⟨r7,r8,e⟩:=Zqi ns at_ k (ZQ ns at_) (some (.pl (.int (Zt ns at_)))) o4 (s.map λk=>tupI (Zgi ns at_ k)) o7 o8 none none (by omega) (by simp; omega) rfl;exact⟨_,e,some (.pl (dN k)),r7,r8,by simp⟩
 have n3:(1+ZP (Zt ns at_) 9907 3).toNat<1000000:=by omega
 have nl:(ZP (Zt ns at_) 9887 4).toNat<1000000:=by omega
 have nm:ZQ ns at_<1000000:=by omega
 have hdk:((ZxZ (1+ZP (Zt ns at_) 9907 3).toNat).map λk=>Z3 ((ZxZ (ZQ ns at_)).map λs=>Zfe (Zt ns (at_+1+k)+61*(k:Int)) (ZQ ns at_) s))=(ZbL ns at_).map Z3:=by unfold ZbL; simp
 have hlk:((ZxZ (ZP (Zt ns at_) 9887 4).toNat).map λk=>tupI (Zgi ns at_ k))=(Zf1 ns at_).map tupI:=by unfold Zf1; simp
 rw[hdk]at f1;simp only[hlk]at lks;have dkl:(ZbL ns at_).length<10:=by unfold ZbL; simp; omega
 unfold wkV Wk.d Zf5 Znv ZtQ;simp only
 by_cases w1:ZP (Zt ns at_) 9901 3=1
 ·have w1':(ZP (Zt ns at_) 9901 3==1)=true:=by simp[w1]
  have cut:cutD ((ZbL ns at_).map Z3) none (some 1)=((ZbL ns at_).take 1).map Z3:=by unfold cutD sIx;simp
  obtain⟨r2,f2,p5,p7,p8,q2⟩:=lks (some (.ol (Z3 ((ZxZ (ZQ ns at_)).map λk=>wlV (Zt ns (at_+1)) k)::Z3 ((ZxZ (ZQ ns at_)).map λk=>[beV (ZQ ns at_) k])::List.take 1 ((ZbL ns at_).map Z3)))) o5;subst q2;have c2:min 1 (ZbL ns at_).length+1+1<1000000:=by omega
  have c3:(2:Nat)+min 1 (ZbL ns at_).length<1000000:=by omega
  by_cases w2:ZP (Zt ns at_) 9859 3=1
  ·have w2':(ZP (Zt ns at_) 9859 3==1)=true:=by simp[w2]
   simp[Za8,Zc7,c0,m4,<-hmc,hlen,m3,ok3,ZaZ,n3,f1,mw,w1',c1,wk,cut,w1,ml,okl,nl,f2,c7,k7,mb,w2',okm,nm,c8,k8,w2,c2,c3]
  ·have w2':(ZP (Zt ns at_) 9859 3==1)=false:=by simp[w2]
   simp[Za8,Zc7,c0,m4,<-hmc,hlen,m3,ok3,ZaZ,n3,f1,mw,w1',c1,wk,cut,w1,ml,okl,nl,f2,c7,k7,mb,w2',okm,nm,c8,k8,w2,c2,c3]
 ·have w1':(ZP (Zt ns at_) 9901 3==1)=false:=by simp[w1]
  obtain⟨r2,f2,p5,p7,p8,q2⟩:=lks (some (.ol ((ZbL ns at_).map Z3))) o5;subst q2
  by_cases w2:ZP (Zt ns at_) 9859 3=1
  ·have w2':(ZP (Zt ns at_) 9859 3==1)=true:=by simp[w2]
   simp[Za8,Zc7,c0,m4,<-hmc,hlen,m3,ok3,ZaZ,n3,f1,mw,w1',w1,ml,okl,nl,f2,c7,k7,mb,w2',okm,nm,c8,k8,w2]
  ·have w2':(ZP (Zt ns at_) 9859 3==1)=false:=by simp[w2]
   simp[Za8,Zc7,c0,m4,<-hmc,hlen,m3,ok3,ZaZ,n3,f1,mw,w1',w1,ml,okl,nl,f2,c7,k7,mb,w2',okm,nm,c8,k8,w2]
end
end HG
namespace HG
open PySem HM
theorem Zob{e:EF}{r:HM.Env}{f:D->D}(xs:List D)(h:∀x∈xs,e (some (.pl x)::r)=some (f x)):ZaK Zam e r xs=some (xs.map f):=by
 have:=Zbl (e:=e) (r:=r) id f xs h
 rwa [List.map_id]at this
theorem ZnB(xs:List D)(p:D->Bool):Ze2 (xs.map λx=>Zzg (p x))=some (xs.map p):=by
 have:=Zfw (xs.map p)
 rwa [Zyg]at this
def Zfd(d:D)(lo hi:Int):Bool:=match d with
 | .int i=>decide (lo<=i)&&decide (i<=hi)
 | _=>false
def ndD:D->Prop
 | .dict _=>False
 | _=>True
theorem Zet(d:D)(lo hi:Int)(nd:ndD d:=by trivial):Zax [d,.int lo,.int hi]=some (.bool (Zfd d lo hi)):=by
 cases d<;>first | exact nd.elim | simp[Zax,Zh5,Zfd]
 rename_i i
 by_cases h:lo<=i<;>simp[h]
def Zdu(d:D)(lo hi:Int):Bool:=match d with
 | .tuple ds=>decide (lo<=(ds.length:Int))&&decide ((ds.length:Int)<=hi)
 | _=>false
theorem Ze5(d:D)(lo hi:Int)(nd:ndD d:=by trivial):Za6 [d,.int lo,.int hi]=some (.bool (Zdu d lo hi)):=by
 cases d<;>first | exact nd.elim | simp[Za6,Zll,Zdu]
 rename_i ds
 by_cases h:lo<=(ds.length:Int)<;>simp[h]
def Zch(many:Int):Int->List D->Bool
 | _,[]=>true
 | l,.int i::r=>(decide (l<=i)&&decide (i<=many-1))&&Zch many (i+1) r
 | _,_::_=>false
def Zi7(d:D)(many:Int):Bool:=match d with
 | .tuple ds=>Zch many 0 ds
 | _=>false
theorem Zpi(d:D)(many:Int):∀(ds:List D) (l:Int) (o:Option B),(∀x∈ds,ndD x) ->
  (Zch many l ds=true->∃l' o',ZaG 3 Zay ds [some (.pl d),some (.pl (.int many)),some (.pl (.int l)),o]=some (.nx [some (.pl d),some (.pl (.int many)),some (.pl (.int l')),o'])) /\
  (Zch many l ds=false->ZaG 3 Zay ds [some (.pl d),some (.pl (.int many)),some (.pl (.int l)),o]=some (.rt (.bool false)))
 | [],l,o,_=>⟨λ_=>⟨l,o,rfl⟩,λh=>by simp[Zch]at h⟩
 | x::ds,l,o,nd=>by
  have key:=Zet x l (many-1) (nd x (ZxU ..));cases hx:Zfd x l (many-1)with
  | false =>
   have e:Zay [some (.pl d),some (.pl (.int many)),some (.pl (.int l)),some (.pl x)]=some (.rt (.bool false)):=by rw[hx]at key;simp[Zay,key]
   have e2:Zch many l (x::ds)=false:=by cases x<;>simp[Zch];rename_i i;simp[Zfd]at hx;intro h1 h2;exact absurd (hx h1) (by omega)
   refine⟨λh=>?_,λ_=>?_⟩
   ·rw[e2]at h; cases h
   ·unfold ZaG
    show(match Zay [some (.pl d),some (.pl (.int many)),some (.pl (.int l)),some (.pl x)]with | some (.nx r')=>_ | some (.ct r')=>_ | some (.bk r')=>_ | some (.rt d)=>_ | none=>_)=_;rw[e]
  | true =>
   cases x with
   | int i =>
    have e:Zay [some (.pl d),some (.pl (.int many)),some (.pl (.int l)),some (.pl (.int i))]=some (.nx [some (.pl d),some (.pl (.int many)),some (.pl (.int (i+1))),some (.pl (.int i))]):=by rw[hx]at key;simp[Zay,key]
    have e2:Zch many l (.int i::ds)=Zch many (i+1) ds:=by have:(decide (l<=i)&&decide (i<=many-1))=true:=hx;simp only[Zch,this,ZCt]
    obtain⟨a1,a2⟩:=Zpi d many ds (i+1) (some (.pl (.int i))) λx hx=>nd x (ZxW _ hx);rw[e2];have e3:ZaG 3 Zay (.int i::ds) [some (.pl d),some (.pl (.int many)),some (.pl (.int l)),o]=ZaG 3 Zay ds [some (.pl d),some (.pl (.int many)),some (.pl (.int (i+1))),some (.pl (.int i))]:=by show(match Zay [some (.pl d),some (.pl (.int many)),some (.pl (.int l)),some (.pl (.int i))]with | some (.nx r')=>_ | some (.ct r')=>_ | some (.bk r')=>_ | some (.rt d)=>_ | none=>_)=_;rw[e]
    rw[e3];exact⟨a1,a2⟩
   | _=>simp[Zfd]at hx
theorem ZiA(d:D)(many:Int)(hl:∀ds,d=.tuple ds->ds.length<1000000/\∀x∈ds,ndD x)(nd:ndD d:=by trivial):Z9 [d,.int many]=some (.bool (Zi7 d many)):=by
 cases d with
 | tuple ds =>
  obtain⟨hl,hn⟩:=hl ds rfl;obtain⟨a1,a2⟩:=Zpi (.tuple ds) many ds 0 none hn;cases h:Zch many 0 ds with
  | true=>obtain⟨l',o',e⟩:=a1 h;simp[Z9,Zd7,Zi7,h,hl,e]
  | false=>have e:=a2 h;simp[Z9,Zd7,Zi7,h,hl,e]
 | dict _=>exact nd.elim
 | _=>simp[Z9,Zd7,Zi7]
def small:D->Prop
 | .tuple ds=>ds.length<1000000/\∀x∈ds,ndD x
 | .dict _=>False
 | _=>True
theorem Zkr{c:List Int}(h:(c.map dI).length<1000000):small (tupI c):=⟨h,λx hx=>by obtain⟨i,_,rfl⟩:=Zx3.mp hx; trivial⟩
theorem ZnU{d:D}(h:small d):ndD d:=by cases d<;>first | exact h.elim | trivial
theorem Zr4{d:D}(h:small d):∀ds,d=.tuple ds->ds.length<1000000/\∀x∈ds,ndD x:=by rintro ds rfl; exact h
def Zis(d:D)(many:Int):Bool:=Zdu d many many&&(match d with | .tuple ds=>ds.all λc=>Zi7 c many | _=>false)
def Zkw(d:D):Prop:=match d with | .tuple ds=>ds.length<1000000/\∀x∈ds,small x | .dict _=>False | _=>True
theorem ZsW{d:D}(h:Zkw d):ndD d:=by cases d<;>first | exact h.elim | trivial
theorem ZqF(d:D)(many:Int)(hs:Zkw d):Zce [d,.int many]=some (.bool (Zis d many)):=by
 have h1:=Ze5 d many many (ZsW hs);cases hr:Zdu d many many with
 | false=>rw[hr]at h1; simp[Zce,Zhe,h1,Zis,hr]
 | true =>
  rw[hr]at h1;cases d with
  | tuple ds =>
   have hs':ds.length<1000000/\∀x∈ds,small x:=hs;simp[Zce,Zhe,h1,Zis,hr,hs'.1];rw[Zob (f:=λc=>.bool (Zi7 c many))]
   ·simp[ZnB]
   ·intro x hx
    simp[ZiA x many (Zr4 (hs'.2 x hx)) (ZnU (hs'.2 x hx))]
  | _=>simp[Zdu]at hr
def Ziy(d:D)(many:Int):Bool:=Zdu d many many&&(match d with | .tuple ds=>ds.all λc=>Zfd c 0 9 | _=>false)
theorem ZqH(d:D)(many:Int)(hs:small d):Zcf [d,.int many]=some (.bool (Ziy d many)):=by
 have h1:=Ze5 d many many (ZnU hs);cases hr:Zdu d many many with
 | false=>rw[hr]at h1; simp[Zcf,Zhf,h1,Ziy,hr]
 | true =>
  rw[hr]at h1;cases d with
  | tuple ds =>
   have hs':ds.length<1000000:=hs.1;simp[Zcf,Zhf,h1,Ziy,hr,hs'];rw[Zob (f:=λc=>.bool (Zfd c 0 9))]
   ·simp[ZnB]
   ·intro x hx
    simp[Zet x 0 9 (hs.2 x hx)]
  | _=>simp[Zdu]at hr
structure Wk.V(w:Wk):Prop where
 m1:1<=w.many
 m2:w.many<=8
 d1:1<=w.deeds.length
 d2:w.deeds.length<=5
 dl:∀dd∈w.deeds,dd.length=w.many
 dc:∀dd∈w.deeds,∀c∈dd,Cr w.many c
 l2:w.looks.length<=4
 ll:∀l∈w.looks,l.length=w.many
 lc:∀l∈w.looks,∀x∈l,0<=x/\x<=9
 b1:w.beg≠[]
 bc:Cr w.many w.beg
 gc:Cr w.many w.goal
theorem Wk.Ok.v{w:Wk}(h:w.Ok):Wk.V w:=by obtain⟨m1,m2,d1,d2,dl,dc,l2,ll,lc,b1,bc,g1,gc⟩:=h;exact⟨by omega,by omega,d1,by omega,dl,dc,by omega,ll,lc,b1,bc,gc⟩
theorem Zlh(n:Nat):∀(c:List Int) (l:Int),c.Pairwise (· < ·)->(∀x∈c,l<=x/\x<(n:Int))->Zch n l (c.map dI)=true
 | [],_,_,_=>rfl
 | x::c,l,hp,hb=>by have h1:=hb x (ZxU ..);have ih:=Zlh n c (x+1) (ZyD.mp hp).2 λy hy=>⟨by have:=(ZyD.mp hp).1 y hy; omega,(hb y (ZxW _ hy)).2⟩;show((decide (l<=x)&&decide (x<=(n:Int)-1))&&Zch n (x+1) (c.map dI))=true;rw[ih,decide_eq_true h1.1,decide_eq_true (show x<=(n:Int)-1 by omega)];rfl
theorem ZiJ{n:Nat}{c:List Int}(h:Cr n c)(hn:n<1000):Z9 [tupI c,.int n]=some (.bool true):=by have hl:=h.len;rw[ZiA (tupI c) n (by intro ds e; cases e; exact⟨by simp; omega,λx hx=>by obtain⟨i,_,rfl⟩:=Zx3.mp hx; trivial⟩)];show some (Zzg (Zch n 0 (c.map dI)))=_;rw[Zlh n c 0 h.1 h.2]
theorem Zjv{n:Nat}{c:List Int}(h:Cr n c)(h0:c≠[])(hn:n<1000):ZbP [tupI c,.int n]=some (.bool true):=by
 have h1:=ZiJ h hn;have h2:(0:Int)<(c.length:Int):=by have:=ZAD.mpr h0;omega
 simp[ZbP,Zjl,h1];exact ZAD.mpr h0
theorem ZuC{w:Wk}(h:Wk.V w){dd:List (List Int)}(hd:dd∈w.deeds):Zce [Z3 dd,.int w.many]=some (.bool true):=by
 have hl:=h.dl dd hd;have m2:=h.m2;rw[ZqF (Z3 dd) _ (show(dd.map tupI).length<1000000/\∀x∈dd.map tupI,small x by refine⟨by simp; omega,λx hx=>?_⟩;obtain⟨c,hc,rfl⟩:=Zx3.mp hx;have:=(h.dc dd hd c hc).len;refine Zkr ?_;simp; omega)];have e:Zis (Z3 dd) w.many=true:=by unfold Zis Z3 Zdu;simp[hl];intro c hc;exact Zlh w.many c 0 (h.dc dd hd c hc).1 (h.dc dd hd c hc).2
 rw[e]
theorem ZuA{w:Wk}(h:Wk.V w){l:List Int}(hd:l∈w.looks):Zcf [tupI l,.int w.many]=some (.bool true):=by
 have hl:=h.ll l hd;have m2:=h.m2;rw[ZqH (tupI l) _ (Zkr (show(l.map dI).length<1000000 by simp; omega))];have e:Ziy (tupI l) w.many=true:=by unfold Ziy Zdu;simp[hl];intro x hx;have:=h.lc l hd x hx;simp[Zfd];omega
 rw[e]
theorem allTrue(α:Type)(xs:List α):Ze2 (xs.map λ_=>Zzg true)=some (xs.map λ_=>true):=by
 have:=Zfw (xs.map λ_=>true)
 rwa [Zyg]at this
theorem Zng{w:Wk}(h:Wk.V w):Zcs [.tuple (w.deeds.map Z3),.int w.many]=some (.bool true):=by
 have h1:=Ze5 (.tuple (w.deeds.map Z3)) 1 5;have d1:=h.d1;have d2:=h.d2;have e:Zdu (.tuple (w.deeds.map Z3)) 1 5=true:=by simp[Zdu]; omega
 rw[e]at h1;have hl:w.deeds.length<1000000:=by omega
 simp[Zcs,Zh6,h1,hl];rw[Zbl Z3 (λ_=>.bool true)]
 ·simp[allTrue]
 ·intro x hx
  simp[ZuC h hx]
theorem Zna{w:Wk}(h:Wk.V w):Zct [.tuple (w.looks.map tupI),.int w.many]=some (.bool true):=by
 have h1:=Ze5 (.tuple (w.looks.map tupI)) 0 4;have d2:=h.l2;have e:Zdu (.tuple (w.looks.map tupI)) 0 4=true:=by simp[Zdu]; omega
 rw[e]at h1;have hl:w.looks.length<1000000:=by omega
 simp[Zct,Zh7,h1,hl];rw[Zbl tupI (λ_=>.bool true)]
 ·simp[allTrue]
 ·intro x hx
  simp[ZuA h hx]
theorem ZnV{w:Wk}(h:Wk.V w):Zcu [w.d]=some (.bool true):=by
 have h1:=Ze5 w.d 5 5;have e:Zdu w.d 5 5=true:=by simp[Zdu,Wk.d]
 rw[e]at h1;have h2:=Zet (.int w.many) 1 8;have m1:=h.m1;have m2:=h.m2;have e2:Zfd (.int w.many) 1 8=true:=by simp[Zfd]; omega
 rw[e2]at h2;have h3:=Zng h;have h4:=Zna h;have h5:=Zjv h.bc h.b1 (by omega);have h6:=ZiJ h.gc (by omega);unfold Wk.d at h1 ⊢;simp[Zcu,Zh8,h1,h2,h3,h4,h5,h6]
theorem Zdo{w:Wk}(h:Wk.V w):Zaa [w.d]=some w.d:=by simp[Zaa,Zke,ZnV h]
theorem Znh(w:Wk):Zcv [w.d]=some (.int w.many):=by simp[Zcv,Zh9,Wk.d]
theorem ZeX(w:Wk):ZaU [w.d]=some (.tuple (w.deeds.map Z3)):=by simp[ZaU,Zjm,Wk.d]
theorem Zjz(w:Wk):ZbQ [w.d]=some (.tuple (w.looks.map tupI)):=by simp[ZbQ,Zjn,Wk.d]
theorem ZcN{w:Wk}(h:Wk.V w){ls:List Int}(hl:Cr w.looks.length ls):ZN [w.d,tupI ls]=some (tupI ls):=by have l2:=h.l2;have h1:=ZiJ hl (by omega);simp[ZN,ZfD,Zjz,h1]
theorem ZdO{w:Wk}(h:Wk.V w){c:List Int}(hc:Cr w.many c)(h0:c≠[]):Zaj [w.d,tupI c]=some (tupI c):=by have m2:=h.m2;have h1:=Zjv hc h0 (by omega);simp[Zaj,ZfE,Znh,h1]
end HG
namespace HG
open PySem HM
def ZcM(w:Wk)(d s:Int):List Int:=(w.deeds[d.toNat]?.getD [])[s.toNat]?.getD []
def Zmt(w:Wk)(l s:Int):Int:=(w.looks[l.toNat]?.getD [])[s.toNat]?.getD 0
def ZbO(w:Wk)(c:List Int)(d:Int):Bool:=c.all λs=>decide (0<(ZcM w d s).length)
def ZbJ(w:Wk)(c:List Int)(d:Int):List Int:=c.flatMap λs=>ZcM w d s
def ZY(w:Wk)(c:List Int)(d:Int):List Int:=sortI (dedup [] (ZbJ w c d))
def ZS(w:Wk)(ls:List Int)(s:Int):List Int:=ls.map λl=>Zmt w l s
theorem Zpu{w:Wk}{d:Int}(h0:0<=d)(h1:d<w.deeds.length):atD (w.deeds.map Z3) d=some (Z3 (w.deeds[d.toNat]?.getD [])):=by
 refine Zg1 h0 ?_;have h:d.toNat<w.deeds.length:=by omega
 simp[h,Zzj]
theorem Zq9{w:Wk}(hv:Wk.V w){d s:Int}(h0:0<=d)(h1:d<w.deeds.length)(h2:0<=s)(h3:s<w.many):atD ((w.deeds[d.toNat]?.getD []).map tupI) s=some (tupI (ZcM w d s)):=by
 refine Zg1 h2 ?_;have h:d.toNat<w.deeds.length:=by omega
 have hl:(w.deeds[d.toNat]?.getD []).length=w.many:=by
  have:w.deeds[d.toNat]?.getD []=w.deeds[d.toNat]:=by simp[h,Zzj]
  rw[this];exact hv.dl _ (Zzq h)
 have h':s.toNat<(w.deeds[d.toNat]?.getD []).length:=by omega
 unfold ZcM;rw[Zyk,Zx5 h'];simp[Zzj,h']
theorem Zr2{w:Wk}(hv:Wk.V w){d s:Int}(h0:0<=d)(h1:d<w.deeds.length)(h2:0<=s)(h3:s<w.many):Cr w.many (ZcM w d s):=by
 have h:d.toNat<w.deeds.length:=by omega
 have e:w.deeds[d.toNat]?.getD []=w.deeds[d.toNat]:=by simp[h,Zzj]
 have hl:=hv.dl _ (Zzq h);unfold ZcM;rw[e];have h':s.toNat<(w.deeds[d.toNat]).length:=by omega
 have e2:(w.deeds[d.toNat])[s.toNat]?.getD []=(w.deeds[d.toNat])[s.toNat]:=by simp[h',Zzj]
 rw[e2];exact hv.dc _ (Zzq h) _ (Zzq h')
theorem ZtU{w:Wk}{l:Int}(h0:0<=l)(h1:l<w.looks.length):atD (w.looks.map tupI) l=some (tupI (w.looks[l.toNat]?.getD [])):=by
 refine Zg1 h0 ?_;have h:l.toNat<w.looks.length:=by omega
 simp[h,Zzj]
theorem Zuh{w:Wk}(hv:Wk.V w){l s:Int}(h0:0<=l)(h1:l<w.looks.length)(h2:0<=s)(h3:s<w.many):atD ((w.looks[l.toNat]?.getD []).map dI) s=some (.int (Zmt w l s)):=by
 refine Zg1 h2 ?_;have h:l.toNat<w.looks.length:=by omega
 have hl:(w.looks[l.toNat]?.getD []).length=w.many:=by
  have:w.looks[l.toNat]?.getD []=w.looks[l.toNat]:=by simp[h,Zzj]
  rw[this];exact hv.ll _ (Zzq h)
 have h':s.toNat<(w.looks[l.toNat]?.getD []).length:=by omega
 unfold Zmt;rw[Zyk,Zx5 h'];simp[Zzj,h']
theorem ZqI{w:Wk}(hv:Wk.V w){ls:List Int}(hl:Cr w.looks.length ls){s:Int}(h2:0<=s)(h3:s<w.many):Zdj [w.d,tupI ls,.int s]=some (tupI (ZS w ls s)):=by
 have l2:=hv.l2;have hlen:=hl.len;have hb:ls.length<1000000:=by omega
 simp[Zdj,Zkf,hb];rw[Zbl dI (λl=>dI (Zmt w l s))]
 ·simp[ZS]
 ·intro l hl'
  have hb:=hl.2 l hl';simp[Zjz,ZtU hb.1 hb.2,Zuh hv hb.1 hb.2 h2 h3]
theorem Zhb{w:Wk}(hv:Wk.V w){c:List Int}(hc:Cr w.many c){d:Int}(h0:0<=d)(h1:d<w.deeds.length):Zbe [w.d,tupI c,.int d]=some (.bool (ZbO w c d)):=by
 have m2:=hv.m2;have hlen:=hc.len;have hb:c.length<1000000:=by omega
 simp[Zbe,ZgV,ZeX,Zpu h0 h1,hb];rw[Zbl dI (λs=>.bool (decide (0<(ZcM w d s).length)))]
 ·have e:=Zfw (c.map λs=>decide (0<(ZcM w d s).length))
  rw[Zyg]at e;have e':((λb=>Zzg b)∘λs=>decide (0<(ZcM w d s).length))=λs=>Zzg (decide (0<(ZcM w d s).length)):=rfl;rw[e']at e;simp[e,ZbO]
 ·intro s hs
  have hb:=hc.2 s hs;simp[Z3,Zq9 hv h0 h1 hb.1 hb.2]
def doV(w:Wk)(c:List Int):List Int:=((ZxZ w.deeds.length).filter λ(d:Nat)=>ZbO w c (d:Int)).map λ(k:Nat)=>(k:Int)
theorem Zh2{w:Wk}(hv:Wk.V w){c:List Int}(hc:Cr w.many c):Zbp [w.d,tupI c]=some (.list ((doV w c).map dI)):=by
 have d2:=hv.d2;have hok:okR (w.deeds.length:Int)=true:=ZeS (by omega);have hb:w.deeds.length<1000000:=by omega
 simp[Zbp,ZhU,ZeX,hok,ZaZ,hb];rw[Zb5 dN (λk:Nat=>ZbO w c k) dN]
 ·simp[doV]
 ·intro k hk
  have hk':=Zyh.mp hk;simp[Zhb hv hc (show(0:Int)<=(k:Int) by omega) (by omega)]
 ·intro k hk _
  simp
theorem Zq8{w:Wk}(hv:Wk.V w){c:List Int}(hc:Cr w.many c)(h0:c≠[]):ZdU [w.d,tupI c]=some (.list ((doV w c).map dI)):=by simp[ZdU,Zlo,Zdo hv,ZdO hv hc h0,Zh2 hv hc]
def Zcp(acc:List Int)(x:Int):List Int:=if acc.contains x then acc else acc++[x]
theorem Zfs:∀(l acc:List Int),dedup acc l=l.foldl Zcp acc
 | [],acc=>rfl
 | x::l,acc=>by
  unfold dedup;rw[ZzV];unfold Zcp;split
  ·rw[Zfs l acc]; rfl
  ·rw[Zfs l (acc++[x])]; rfl
def tru(acc:List Int):List (Ky × D):=acc.map λi=>(ZzC i,Zzg true)
theorem Zuv(acc:List Int)(x:Int):putD (tru acc) (ZzC x) (Zzg true)=tru (Zcp acc x):=by
 unfold putD Zcp tru
 by_cases h:x∈acc
 ·have e1:((acc.map λi=>((ZzC i:Ky),Zzg true)).any λp=>decide (p.1=ZzC x))=true:=by
   simp; exact h
  have e2:acc.contains x=true:=by simpa using h
  rw[if_pos e1,if_pos e2,Zyg];refine Zzx λi _=>?_;simp
 ·have e1:¬((acc.map λi=>((ZzC i:Ky),Zzg true)).any λp=>decide (p.1=ZzC x))=true:=by
   simp; exact h
  have e2:¬acc.contains x=true:=by simpa using h
  rw[if_neg e1,if_neg e2];simp
theorem ZlF(acc:List Int)(x:Int):(Zcp acc x).length<=acc.length+1:=by unfold Zcp; split<;>simp
theorem Znb:∀(l acc:List Int),(l.foldl Zcp acc).length<=acc.length+l.length
 | [],acc=>by simp
 | x::l,acc=>by rw[ZzV];have:=Znb l (Zcp acc x);have:=ZlF acc x;simp; omega
theorem Zr8(e0 e1 e2 e3 e5:Option B):∀(l acc:List Int) (o:Option B),acc.length+l.length<1000000 ->
  ∃o',ZaG 6 Zd8 (l.map dI) [e0,e1,e2,e3,some (.ok (tru acc)),e5,o]=some (.nx [e0,e1,e2,e3,some (.ok (tru (l.foldl Zcp acc))),e5,o'])
 | [],acc,o,_=>⟨o,rfl⟩
 | x::l,acc,o,h=>by
  rw[Zx8]at h;have hb:acc.length<1000000:=by omega
  have e:Zd8 [e0,e1,e2,e3,some (.ok (tru acc)),e5,some (.pl (dI x))]=some (.nx [e0,e1,e2,e3,some (.ok (tru (Zcp acc x))),e5,some (.pl (dI x))]):=by
   have hl:(tru acc).length<1000000:=by unfold tru; simp; exact hb
   simp[Zd8,hl,Zuv]
  have hd:=ZlF acc x;obtain⟨o',e'⟩:=Zr8 e0 e1 e2 e3 e5 l (Zcp acc x) (some (.pl (dI x))) (by omega);refine⟨o',?_⟩;rw[ZxY,ZzV,<-e'];unfold ZaG;show(match Zd8 [e0,e1,e2,e3,some (.ok (tru acc)),e5,some (.pl (dI x))]with | some (.nx r')=>_ | some (.ct r')=>_ | some (.bk r')=>_ | some (.rt d)=>_ | none=>_)=_;rw[e];cases l<;>rfl
theorem Zrd{w:Wk}(hv:Wk.V w){d:Int}(h0:0<=d)(h1:d<w.deeds.length)(e1 e2:Option B):∀(c acc:List Int) (o5 o6:Option B),(∀s∈c,0<=s/\s<(w.many:Int))->acc.length+c.length*10<100000 ->
  ∃o5' o6',ZaG 5 Zd9 (c.map dI) [some (.pl w.d),e1,e2,some (.pl (Z3 (w.deeds[d.toNat]?.getD []))),some (.ok (tru acc)),o5,o6]=some (.nx [some (.pl w.d),e1,e2,some (.pl (Z3 (w.deeds[d.toNat]?.getD []))),some (.ok (tru ((ZbJ w c d).foldl Zcp acc))),o5',o6'])
 | [],acc,o5,o6,_,_=>⟨o5,o6,rfl⟩
 | s::c,acc,o5,o6,hs,hl=>by
  rw[Zx8]at hl;have hb:=hs s (ZxU ..);have hr:=(Zr2 hv h0 h1 hb.1 hb.2).len;have m2:=hv.m2;have hrl:(ZcM w d s).length<1000000:=by omega
  obtain⟨o',e⟩:=Zr8 (some (.pl w.d)) e1 e2 (some (.pl (Z3 (w.deeds[d.toNat]?.getD [])))) (some (.pl (dI s))) (ZcM w d s) acc o6 (by omega);have e':Zd9 [some (.pl w.d),e1,e2,some (.pl (Z3 (w.deeds[d.toNat]?.getD []))),some (.ok (tru acc)),some (.pl (dI s)),o6]=some (.nx [some (.pl w.d),e1,e2,some (.pl (Z3 (w.deeds[d.toNat]?.getD []))),some (.ok (tru ((ZcM w d s).foldl Zcp acc))),some (.pl (dI s)),o']):=by unfold Z3 at e ⊢;simp[Zd9,Zq9 hv h0 h1 hb.1 hb.2,hrl,e]
  have hf:=Znb (ZcM w d s) acc;obtain⟨p5,p6,ih⟩:=Zrd hv h0 h1 e1 e2 c ((ZcM w d s).foldl Zcp acc) (some (.pl (dI s))) o' (λx hx=>hs x (ZxW _ hx)) (by omega);refine⟨p5,p6,?_⟩;have ef:ZbJ w (s::c) d=ZcM w d s++ZbJ w c d:=rfl;rw[ef,List.foldl_append,<-ih,ZxY];show(match Zd9 [some (.pl w.d),e1,e2,some (.pl (Z3 (w.deeds[d.toNat]?.getD []))),some (.ok (tru acc)),some (.pl (dI s)),o6]with | some (.nx r')=>_ | some (.ct r')=>_ | some (.bk r')=>_ | some (.rt d)=>_ | none=>_)=_;rw[e']
theorem ZvO{w:Wk}(hv:Wk.V w){c:List Int}(hc:Cr w.many c){d:Int}(h0:0<=d)(h1:d<w.deeds.length):∀x∈ZbJ w c d,0<=x/\x<(w.many:Int):=by intro x hx;obtain⟨s,hs,h⟩:=Zz9.mp hx;exact(Zr2 hv h0 h1 (hc.2 s hs).1 (hc.2 s hs).2).2 x h
theorem ZeQ{w:Wk}(hv:Wk.V w){c:List Int}(hc:Cr w.many c){d:Int}(h0:0<=d)(h1:d<w.deeds.length):Cr w.many (ZY w c d):=by refine Zht (ZeW _ _ (by simp)) λx hx=>ZvO hv hc h0 h1 x ?_;rw[Ze6]at hx;simpa using hx
theorem Zlx{w:Wk}(hv:Wk.V w){c:List Int}(hc:Cr w.many c){d:Int}(h0:0<=d)(h1:d<w.deeds.length):Zcg [w.d,tupI c,.int d]=some (tupI (ZY w c d)):=by
 have m2:=hv.m2;have hlen:=hc.len;have hb:c.length<1000000:=by omega
 obtain⟨o5,o6,e⟩:=Zrd hv h0 h1 (some (.pl (tupI c))) (some (.pl (.int d))) c [] none none hc.2 (by simp; omega);have hl:(dedup [] (ZbJ w c d)).length<64:=by have h:=(ZeQ hv hc h0 h1).len;have:=(sortI_perm (dedup [] (ZbJ w c d))).length_eq;unfold ZY at h;omega
 have hs:=Zhx _ hl;rw[Zfs]at hs;have ek:(tru ((ZbJ w c d).foldl Zcp [])).map (λp=>ZaL p.1)=((ZbJ w c d).foldl Zcp []).map dI:=by unfold tru;rw[Zyg];rfl
 simp[Zcg,Zlm,ZeX,Zpu h0 h1,hb];rw[show some (B.ok [])=some (B.ok (tru [])) from rfl,e];simp[ek,hs,ZY,Zfs]
theorem Zkm{w:Wk}(hv:Wk.V w){c:List Int}(hc:Cr w.many c){d:Int}(h0:0<=d)(h1:d<w.deeds.length)(hd:ZbO w c d=true):ZbG [w.d,tupI c,.int d]=some (.int d):=by
 have h2:=Zet (.int d) 0 ((w.deeds.length:Int)-1);have e:Zfd (.int d) 0 ((w.deeds.length:Int)-1)=true:=by simp[Zfd]; omega
 rw[e]at h2;have h3:=Zhb hv hc h0 h1;rw[hd]at h3;simp[ZbG,Zgf,ZeX,h2,h3]
theorem ZsV{w:Wk}(hv:Wk.V w){c:List Int}(hc:Cr w.many c)(hn:c≠[]){d:Int}(h0:0<=d)(h1:d<w.deeds.length)(hd:ZbO w c d=true):ZcG [w.d,tupI c,.int d]=some (tupI (ZY w c d)):=by simp[ZcG,ZmB,Zdo hv,ZdO hv hc hn,Zkm hv hc h0 h1 hd,Zlx hv hc h0 h1]
end HG
namespace HG
open PySem HM
abbrev Gs:=List (List Int × List Int)
abbrev Zac(k:List Int):List Ky:=k.map ZzC
def Zb2(g:Gs):List (List Ky × List D):=g.map λp=>(Zac p.1,p.2.map dI)
theorem ZdP{a b:List Int}(h:Zac a=Zac b):a=b:=by
 induction a generalizing b with
 | nil=>cases b with
  | nil=>rfl
  | cons _ _=>simp at h
 | cons x a ih=>cases b with
  | nil=>simp at h
  | cons y b=>simp at h;rw[h.1,ih (by simpa using h.2)]
theorem Zle(a b:List Int):(Zac a=Zac b)↔a=b:=⟨ZdP,λh=>by rw[h]⟩
theorem ZqN(k:List Int):Zk5 (k.map dI)=some (Zac k):=by
 induction k with
 | nil=>rfl
 | cons x k ih=>show(Zk5 (k.map dI)).map (ZzC x::·)=_;rw[ih];rfl
theorem Zbk(k:List Int):Zbx (tupI k)=some (Zac k):=ZqN k
theorem Zj9(g:Gs)(k:List Int):Zn (Zb2 g) (Zac k)=(Zn g k).map λp=>p.map dI:=by
 unfold Zn Zb2;rw[List.find?_map];have e:((λp:List Ky × List D=>decide (p.1=Zac k))∘λp:List Int × List Int=>(Zac p.1,p.2.map dI))=λp=>decide (p.1=k):=by
  funext p
  simp only[ZA4];exact decide_eq_decide.mpr (Zle p.1 k)
 rw[e];cases g.find? λp=>decide (p.1=k)<;>rfl
theorem Zpj(g:Gs)(k:List Int):ZcE (Zb2 g) (Zac k)=Zb2 (ZcE g k):=by
 unfold ZcE;rw[Zj9];cases Zn g k with
 | none=>simp[Zb2]
 | some p=>rfl
theorem Zpm(k:List Int)(s:Int):∀(g:Gs),Zdt (Zb2 g) (Zac k) (dI s)=Zb2 (Zdt g k s)
 | []=>rfl
 | (x,p)::g=>by
  show Zdt ((Zac x,p.map dI)::Zb2 g) (Zac k) (dI s)=Zb2 (Zdt ((x,p)::g) k s);unfold Zdt
  by_cases h:x=k
  ·rw[if_pos (by rw[h]),if_pos h]
   simp[Zb2]
  ·rw[if_neg (λe=>h (ZdP e)),if_neg h,Zpm k s g]
   rfl
def ZfW(g:Gs)(k:List Int)(s:Int):Gs:=Zdt (ZcE g k) k s
theorem Zf6(k:List Int):Zn ([]:Gs) k=none:=rfl
theorem ZbR(x:List Int)(p:List Int)(g:Gs)(k:List Int):Zn ((x,p)::g) k=if x=k then some p else Zn g k:=by
 unfold Zn;rw[ZyH]
 by_cases h:x=k<;>simp[h]
theorem Zno(k:List Int)(s:Int)(k':List Int):∀(g:Gs),Zn (Zdt g k s) k'=if k=k' then(Zn g k).map (·++[s])else Zn g k'
 | []=>by simp[Zdt,Zf6]
 | (x,p)::g=>by
  unfold Zdt
  by_cases h:x=k
  ·subst h
   rw[if_pos rfl,ZbR,ZbR,ZbR,if_pos rfl];split<;>rfl
  ·rw[if_neg h,ZbR,Zno k s k' g,ZbR,ZbR,if_neg h]
   by_cases h2:x=k'
   ·subst h2
    rw[if_pos rfl,if_pos rfl,if_neg (ZyR h)]
   ·rw[if_neg h2,if_neg h2]
theorem ZkH(x:List Int)(p:List Int)(k:List Int):∀(g:Gs),Zn (g++[(x,p)]) k=match Zn g k with | some q=>some q | none=>if x=k then some p else none
 | []=>by simp[Zf6,ZbR]
 | (y,q)::g=>by rw[ZBY,ZbR,ZbR,ZkH x p k g];split<;>rfl
theorem ZjV(g:Gs)(k k':List Int):Zn (ZcE g k) k'=if k=k' then some ((Zn g k).getD [])else Zn g k':=by
 unfold ZcE;cases h:Zn g k with
 | some p =>
  by_cases e:k=k'
  ·subst e; rw[if_pos rfl]; exact h
  ·rw[if_neg e]
 | none =>
  show Zn (g++[(k,[])]) k'=_;rw[ZkH]
  by_cases e:k=k'
  ·subst e; rw[if_pos rfl,if_pos rfl,h]; rfl
  ·rw[if_neg e,if_neg e]
   cases Zn g k'<;>rfl
theorem Ztp(g:Gs)(k k':List Int)(s:Int):Zn (ZfW g k s) k'=if k=k' then some ((Zn g k).getD []++[s])else Zn g k':=by
 unfold ZfW;rw[Zno,ZjV,ZjV,if_pos rfl]
 by_cases e:k=k'
 ·rw[if_pos e,if_pos e]; rfl
 ·rw[if_neg e,if_neg e,if_neg e]
theorem Zn6(k:List Int)(s:Int):∀(g:Gs),(Zdt g k s).map (·.1)=g.map (·.1)
 | []=>rfl
 | (x,p)::g=>by
  unfold Zdt;split
  ·rfl
  ·rw[ZxY,Zn6 k s g]; rfl
theorem ZjW(g:Gs)(k:List Int):(Zn g k).isSome=true↔k∈g.map (·.1):=by
 induction g with
 | nil=>simp[Zf6]
 | cons p g ih =>
  obtain⟨x,q⟩:=p;rw[ZbR,ZxY,Zye]
  by_cases h:x=k
  ·simp[h]
  ·rw[if_neg h,ih]
   constructor
   ·exact .inr
   ·rintro (e | e)
    ·exact absurd e.symm h
    ·exact e
theorem Ztc(g:Gs)(k:List Int):(ZcE g k).map (·.1)=if k∈g.map (·.1)then g.map (·.1)else g.map (·.1)++[k]:=by
 unfold ZcE;cases h:Zn g k with
 | some p=>rw[if_pos ((ZjW g k).mp (by rw[h]; rfl))]
 | none=>rw[if_neg (λm=>by have:=(ZjW g k).mpr m; rw[h]at this; cases this)];simp
theorem ZsN(g:Gs)(k:List Int)(s:Int):(ZfW g k s).map (·.1)=if k∈g.map (·.1)then g.map (·.1)else g.map (·.1)++[k]:=by unfold ZfW;rw[Zn6,Ztc]
def ZdL(f:Int->List Int)(c:List Int):Gs:=c.foldl (λg s=>ZfW g (f s) s) []
structure Grp(f:Int->List Int)(pre:List Int)(g:Gs):Prop where
 nd:(g.map (·.1)).Nodup
 look:∀k,Zn g k=if k∈pre.map f then some (pre.filter λs=>f s==k)else none
theorem Grp.mem{f:Int->List Int}{pre:List Int}{g:Gs}(h:Grp f pre g)(k:List Int):k∈g.map (·.1)↔k∈pre.map f:=by
 rw[<-ZjW,h.look];split
 ·rename_i m; exact⟨λ_=>m,λ_=>rfl⟩
 ·rename_i m; exact⟨(λe=>by cases e),λe=>absurd e m⟩
theorem Grp.step{f:Int->List Int}{pre:List Int}{g:Gs}(h:Grp f pre g)(s:Int):Grp f (pre++[s]) (ZfW g (f s) s):=by
 refine⟨?_,λk=>?_⟩
 ·rw[ZsN]
  split
  ·exact h.nd
  ·rename_i m
   rw[Zz3];exact⟨h.nd,by simp,λa ha b hb=>by simp at hb; subst hb; exact λe=>m (e▸ha)⟩
 ·rw[Ztp,h.look,h.look,Zyr,List.filter_append]
  by_cases e:f s=k
  ·subst e
   have e0:f s∈pre.map f++[s].map f:=by simp
   rw[if_pos rfl,if_pos e0];have e2:[s].filter (λx=>f x==f s)=[s]:=by simp
   rw[e2];split
   ·rfl
   ·rename_i m
    have:pre.filter (λx=>f x==f s)=[]:=by rw[ZAn];intro a ha q;exact m (Zx3.mpr ⟨a,ha,by simpa using q⟩)
    rw[this]; rfl
  ·have e2:[s].filter (λx=>f x==k)=[]:=by simp[e]
   rw[if_neg e,e2,Zyu];have e3:(k∈pre.map f++[s].map f)↔k∈pre.map f:=by
    rw[Zyq]
    constructor
    ·rintro (q | q)
     ·exact q
     ·simp at q; exact absurd q.symm e
    ·exact .inl
   by_cases q:k∈pre.map f
   ·rw[if_pos q,if_pos (e3.mpr q)]
   ·rw[if_neg q,if_neg (λz=>q (e3.mp z))]
theorem Zpf(f:Int->List Int):∀(c pre:List Int) (g:Gs),Grp f pre g->Grp f (pre++c) (c.foldl (λg s=>ZfW g (f s) s) g)
 | [],pre,g,h=>by rw[Zyu]; exact h
 | s::c,pre,g,h=>by have:=Zpf f c (pre++[s]) _ (h.step s);rw[Zzv]at this;exact this
theorem Zg6(f:Int->List Int)(c:List Int):Grp f c (ZdL f c):=by
 have:=Zpf f c [] [] ⟨ZzE,λk=>by simp[Zf6]⟩
 rwa [ZzW]at this
def ZZ(w:Wk)(ls c:List Int):Gs:=(Zex ((ZdL (ZS w ls) c).map (·.1))).map λk=>(k,c.filter λs=>ZS w ls s==k)
def Zap(p:List Int × List Int):D:=.tuple [tupI p.1,tupI p.2]
theorem ZsS(ks:List (List Int)):Zi5 (ks.map tupI)=some ks:=by
 induction ks with
 | nil=>rfl
 | cons k ks ih=>show(match ZaO (k.map dI)with | some ns=>(Zi5 (ks.map tupI)).map (ns::·) | none=>none)=_;rw[ZcJ,ih];rfl
theorem Zkp(ks:List (List Int))(h:ks.length<64)(hn:ks.length<2\/∀k∈ks,k≠[]):ZdC (ks.map tupI)=some ((Zex ks).map tupI):=by
 unfold ZdC;rw[if_pos (by rw[ZxS]; exact h)];cases ks with
 | nil=>simp[ZaO,sortI,Zex,ofInts]
 | cons k ks =>
  have e:ZaO (ZBm tupI (k::ks))=none:=rfl;rw[e,ZsS];have e2:(decide ((ZBm tupI (k::ks)).length<2)||(k::ks).all λt=>!t.isEmpty)=true:=by
   rw[Zzm,ZxS];rcases hn with q | q
   ·exact .inl (by simpa using q)
   ·refine .inr (Zx0.mpr λt ht=>?_)
    have:=q t ht;cases t with
    | nil=>exact absurd rfl this
    | cons _ _=>rfl
  dsimp only;rw[if_pos e2];unfold Ze4;simp only[ZhG]
theorem Zci(ks:List (List Int)):(Zex ks).Perm ks:=ZAB ks _
theorem Zt4(w:Wk)(ls c:List Int)(hc:c.length<60):ZdC ((Zb2 (ZdL (ZS w ls) c)).map λp=>Zyv (p.1.map ZaL))=some ((Zex ((ZdL (ZS w ls) c).map (·.1))).map tupI):=by
 have hg:=Zg6 (ZS w ls) c;have e:((Zb2 (ZdL (ZS w ls) c)).map λp=>Zyv (p.1.map ZaL))=((ZdL (ZS w ls) c).map (·.1)).map tupI:=by unfold Zb2;rw[Zyg,Zyg];refine Zzx λp _=>?_;simp only[ZA4];unfold Zac tupI;rw[Zyg];rfl
 rw[e];have hsub:∀k∈(ZdL (ZS w ls) c).map (·.1),k∈c.map (ZS w ls):=λk hk=>(hg.mem k).mp hk;refine Zkp _ ?_ ?_
 ·have:(ZdL (ZS w ls) c).map (·.1) ⊆ c.map (ZS w ls):=hsub
  have:=(Zzn hg.nd this);rw[ZxS,ZxS]at this;rw[ZxS];omega
 ·cases ls with
  | nil =>
   left
   have:(ZdL (ZS w []) c).map (·.1) ⊆ [[]]:=λk hk=>by obtain⟨s,_,e⟩:=Zx3.mp (hsub k hk);rw[<-e];simp[ZS]
   have:=(Zzn hg.nd this);simp at this ⊢;omega
  | cons l ls =>
   right
   intro k hk e;obtain⟨s,_,e'⟩:=Zx3.mp (hsub k hk);rw[e]at e';simp[ZS]at e'
theorem ZqG(w:Wk)(ls c:List Int)(e:EF)(r:HM.Env)(h:∀k∈(ZdL (ZS w ls) c).map (·.1),e (some (.pl (tupI k))::r)=some (.tuple [tupI k,.tuple ((c.filter λs=>ZS w ls s==k).map dI)])) :
  ZaK Zam e r ((Zex ((ZdL (ZS w ls) c).map (·.1))).map tupI)=some ((ZZ w ls c).map Zap):=by
 rw[Zbl tupI (λk=>.tuple [tupI k,.tuple ((c.filter λs=>ZS w ls s==k).map dI)])]
 ·unfold ZZ
  rw[Zyg];rfl
 ·intro k hk
  exact h k ((Zci _).mem_iff.mp hk)
theorem Ztj(w:Wk)(ls c:List Int)(k:List Int)(hk:k∈(ZdL (ZS w ls) c).map (·.1)):Zn (Zb2 (ZdL (ZS w ls) c)) (Zac k)=some ((c.filter λs=>ZS w ls s==k).map dI):=by have hg:=Zg6 (ZS w ls) c;rw[Zj9,hg.look,if_pos ((hg.mem k).mp hk)];rfl
theorem Zun(f:Int->List Int)(pre:List Int)(g:Gs)(h:Grp f pre g)(k:List Int)(p:List Int)(e:Zn g k=some p):p.length<=pre.length:=by
 rw[h.look]at e;split at e
 ·cases e; exact Zy8 _ _
 ·cases e
theorem Zqg(f:Int->List Int)(pre:List Int)(g:Gs)(h:Grp f pre g):g.length<=pre.length:=by have h2:g.map (·.1) ⊆ pre.map f:=λk hk=>(h.mem k).mp hk;have:=Zzn h.nd h2;simpa using this
theorem ZlL{w:Wk}(hv:Wk.V w){ls:List Int}(hl:Cr w.looks.length ls)(e2:Option B):∀(c pre:List Int) (g:Gs) (o:Option B),Grp (ZS w ls) pre g->(∀s∈c,0<=s/\s<(w.many:Int))->pre.length+c.length<1000 ->
  ∃o',ZaG 4 Zea (c.map dI) [some (.pl w.d),some (.pl (tupI ls)),e2,some (.otl (Zb2 g)),o]=some (.nx [some (.pl w.d),some (.pl (tupI ls)),e2,some (.otl (Zb2 (c.foldl (λg s=>ZfW g (ZS w ls s) s) g))),o'])
 | [],pre,g,o,_,_,_=>⟨o,rfl⟩
 | s::c,pre,g,o,hg,hb,hn=>by
  rw[Zx8]at hn;have hs:=hb s (ZxU ..);have hlen:(Zb2 g).length<1000000:=by have:=Zqg _ _ _ hg;unfold Zb2;rw[ZxS]; omega
  have h1:Zn (ZcE (Zb2 g) (Zac (ZS w ls s))) (Zac (ZS w ls s))=some (((Zn g (ZS w ls s)).getD []).map dI):=by rw[Zpj,Zj9,ZjV,if_pos rfl]; rfl
  have h2:(((Zn g (ZS w ls s)).getD []).map dI).length<1000000:=by
   rw[ZxS];cases e:Zn g (ZS w ls s)with
   | none=>simp
   | some p=>have:=Zun _ _ _ hg _ _ e;simp; omega
  have h2':((Zn g (ZS w ls s)).getD []).length<1000000:=by rwa [ZxS]at h2
  have e:Zea [some (.pl w.d),some (.pl (tupI ls)),e2,some (.otl (Zb2 g)),some (.pl (dI s))]=some (.nx [some (.pl w.d),some (.pl (tupI ls)),e2,some (.otl (Zb2 (ZfW g (ZS w ls s) s))),some (.pl (dI s))]):=by have ek:=ZqI hv hl hs.1 hs.2;simp[Zea,ek,Zbk,hlen,h1,h2'];rw[Zpj,Zpm];rfl
  obtain⟨o',ih⟩:=ZlL hv hl e2 c (pre++[s]) (ZfW g (ZS w ls s) s) (some (.pl (dI s))) (hg.step s) (λx hx=>hb x (ZxW _ hx)) (by simp; omega);refine⟨o',?_⟩;rw[ZxY,ZzV,<-ih];show(match Zea [some (.pl w.d),some (.pl (tupI ls)),e2,some (.otl (Zb2 g)),some (.pl (dI s))]with | some (.nx r')=>_ | some (.ct r')=>_ | some (.bk r')=>_ | some (.rt d)=>_ | none=>_)=_;rw[e]
theorem Zgn{w:Wk}(hv:Wk.V w){ls:List Int}(hl:Cr w.looks.length ls){c:List Int}(hc:Cr w.many c):Zar [w.d,tupI ls,tupI c]=some (.list ((ZZ w ls c).map Zap)):=by
 have m2:=hv.m2;have hlen:=hc.len;have hb:c.length<1000000:=by omega
 obtain⟨o',e⟩:=ZlL hv hl (some (.pl (tupI c))) c [] [] none ⟨ZzE,λk=>by simp[Zf6]⟩ hc.2 (by simp; omega);have hk:=Zt4 w ls c (by omega);have hg:c.foldl (λg s=>ZfW g (ZS w ls s) s) []=ZdL (ZS w ls) c:=rfl;rw[hg]at e;have hn:(Zex ((ZdL (ZS w ls) c).map (·.1))).length<1000000:=by rw[(Zci _).length_eq,ZxS];have:=Zqg _ _ _ (Zg6 (ZS w ls) c);omega
 simp[Zar,Zln,hb];rw[show some (B.otl [])=some (B.otl (Zb2 [])) from rfl,e];simp[hk,hn];rw[ZqG]
 ·simp
 ·intro k hk'
  simp[Zbk,Ztj w ls c k hk']
theorem Zsw{w:Wk}(hv:Wk.V w){ls:List Int}(hl:Cr w.looks.length ls){c:List Int}(hc:Cr w.many c)(h0:c≠[]):ZdD [w.d,tupI ls,tupI c]=some (.list ((ZZ w ls c).map Zap)):=by simp[ZdD,ZmC,Zdo hv,ZcN hv hl,ZdO hv hc h0,Zgn hv hl hc]
end HG
namespace HG
open PySem HM
def nbD:Nat->D->Bool
 | _,.none=>true
 | _,.int _=>true
 | _,.str x=>PyData.canLay0 (.str x)
 | 0,_=>false
 | n+1,.list ds=>ds.all (nbD n)
 | n+1,.tuple ds=>ds.all (nbD n)
 | _,_=>false
theorem ZiT{ds:List D}(h:∀d∈ds,d.canLay0=true):ZAp ds=true:=by
 induction ds with
 | nil=>rfl
 | cons d ds ih=>show(d.canLay0&&ZAp ds)=true;rw[h d (ZxU ..),ih λx hx=>h x (ZxW _ hx)];rfl
theorem Zjy{ds:List D}{n:Nat}(h:∀d∈ds,d.depth<=n):ZBj ds<=n:=by
 induction ds with
 | nil=>exact Zzu _
 | cons d ds ih=>show max d.depth (ZBj ds)<=n;have h1:=h d (ZxU ..);have h2:=ih λx hx=>h x (ZxW _ hx);omega
theorem ZiS:∀(n:Nat) (d:D),nbD n d=true->d.canLay0=true/\d.depth<=n
 | n,.none,_=>⟨rfl,by show 0<=n; omega⟩
 | n,.int _,_=>⟨rfl,by show 0<=n; omega⟩
 | n,.str x,h=>by refine⟨?_,by show 0<=n; omega⟩;cases n<;>exact h
 | 0,.bool _,h=>by cases h
 | 0,.list _,h=>by cases h
 | 0,.tuple _,h=>by cases h
 | 0,.dict _,h=>by cases h
 | n+1,.bool _,h=>by cases h
 | n+1,.dict _,h=>by cases h
 | n+1,.list ds,h=>by have h':ds.all (nbD n)=true:=h;have hh:=Zx0.mp h';refine⟨ZiT λd hd=>(ZiS n d (hh d hd)).1,?_⟩;show ZBj ds+1<=n+1;have:=Zjy λd hd=>(ZiS n d (hh d hd)).2;omega
 | n+1,.tuple ds,h=>by have h':ds.all (nbD n)=true:=h;have hh:=Zx0.mp h';refine⟨ZiT λd hd=>(ZiS n d (hh d hd)).1,?_⟩;show ZBj ds+1<=n+1;have:=Zjy λd hd=>(ZiS n d (hh d hd)).2;omega
theorem Zf3{n:Nat}{d:D}(h:nbD n d=true)(hn:n<=60):Zan d=true:=by obtain⟨h1,h2⟩:=ZiS n d h;unfold Zan;rw[h1,decide_eq_true (show d.depth<=60 by omega)];rfl
theorem Zkn{ds:List D}(ih:∀d∈ds,∀e,(∃m,nbD m e=true)->(ZyW d e=true↔d=e)):∀(es:List D),(∀e∈es,∃m,nbD m e=true)->(ZBD ds es=true↔ds=es):=by
 induction ds with
 | nil =>
  intro es _;cases es with
  | nil=>exact⟨λ_=>rfl,λ_=>rfl⟩
  | cons e es=>exact⟨(λh=>by cases h),(λh=>by cases h)⟩
 | cons d ds ihl =>
  intro es he;cases es with
  | nil=>exact⟨(λh=>by cases h),(λh=>by cases h)⟩
  | cons e es=>show((ZyW d e&&ZBD ds es)=true)↔_;rw[Zyd,ih d (ZxU ..) e (he e (ZxU ..)),ihl (λx hx=>ih x (ZxW _ hx)) es (λx hx=>he x (ZxW _ hx)),List.cons.injEq]
theorem Zub{m:Nat}{ds:List D}(h:nbD m (.list ds)=true):∀d∈ds,∃m,nbD m d=true:=by
 cases m with
 | zero=>cases h
 | succ m=>have h':ds.all (nbD m)=true:=h;exact λd hd=>⟨m,Zx0.mp h' d hd⟩
theorem ZsI{m:Nat}{ds:List D}(h:nbD m (.tuple ds)=true):∀d∈ds,∃m,nbD m d=true:=by
 cases m with
 | zero=>cases h
 | succ m=>have h':ds.all (nbD m)=true:=h;exact λd hd=>⟨m,Zx0.mp h' d hd⟩
theorem ZeR{m:Nat}{b:Bool}(h:nbD m (.bool b)=true):False:=by cases m<;>cases h
theorem ZeL{m:Nat}{b:List (D × D)}(h:nbD m (.dict b)=true):False:=by cases m<;>cases h
theorem ZiY:∀(n:Nat) (d e:D),nbD n d=true->(∃m,nbD m e=true)->(ZyW d e=true↔d=e):=by
 intro n
 induction n with
 | zero =>
  intro d e hd ⟨m,he⟩;cases d<;>first | cases hd | skip
  all_goals cases e<;>first
   | exact(ZeR he).elim
   | exact(ZeL he).elim
   | exact⟨λ_=>rfl,λ_=>rfl⟩
   | exact⟨(λh=>by cases h),(λh=>by cases h)⟩
   | (rename_i a b; show((a==b)=true)↔_; simp)
 | succ n ih =>
  intro d e hd ⟨m,he⟩;cases d with
  | bool _=>exact(ZeR hd).elim
  | dict _=>exact(ZeL hd).elim
  | list ds =>
   cases e with
   | list es=>show(ZBD ds es=true)↔_;rw[Zkn (λd h e he=>ih d e (Zx0.mp (show ds.all (nbD n)=true from hd) d h) he) es (Zub he)];simp
   | bool _=>exact(ZeR he).elim
   | dict _=>exact(ZeL he).elim
   | _=>exact⟨(λh=>by cases h),(λh=>by cases h)⟩
  | tuple ds =>
   cases e with
   | tuple es=>show(ZBD ds es=true)↔_;rw[Zkn (λd h e he=>ih d e (Zx0.mp (show ds.all (nbD n)=true from hd) d h) he) es (ZsI he)];simp
   | bool _=>exact(ZeR he).elim
   | dict _=>exact(ZeL he).elim
   | _=>exact⟨(λh=>by cases h),(λh=>by cases h)⟩
  | none=>cases e<;>first
   | exact(ZeR he).elim
   | exact(ZeL he).elim
   | exact⟨λ_=>rfl,λ_=>rfl⟩
   | exact⟨(λh=>by cases h),(λh=>by cases h)⟩
  | int i=>cases e<;>first
   | exact(ZeR he).elim
   | exact(ZeL he).elim
   | exact⟨(λh=>by cases h),(λh=>by cases h)⟩
   | (rename_i b; show((i==b)=true)↔_; simp)
  | str i=>cases e<;>first
   | exact(ZeR he).elim
   | exact(ZeL he).elim
   | exact⟨(λh=>by cases h),(λh=>by cases h)⟩
   | (rename_i b; show((i==b)=true)↔_; simp)
theorem Zue{n m:Nat}{d e:D}(hd:nbD n d=true)(he:nbD m e=true)(hn:n<=60)(hm:m<=60)[Decidable (d=e)]:gEq d e=some (.bool (decide (d=e))):=by
 unfold gEq;rw[Zf3 hd hn,Zf3 he hm,if_pos (by rfl)];congr 2;have h:=ZiY n d e hd ⟨m,he⟩;cases q:ZyW d e with
 | true=>exact(decide_eq_true (h.mp q)).symm
 | false=>exact(decide_eq_false λz=>by rw[h.mpr z]at q; cases q).symm
theorem Zf9{n:Nat}{d:D}(hd:nbD n d=true)(hn:n<=60):gEq d d=some (.bool true):=by unfold gEq;rw[Zf3 hd hn,(ZiY n d d hd ⟨n,hd⟩).mpr rfl];rfl
theorem Zg5{n m:Nat}{d e:D}(hd:nbD n d=true)(he:nbD m e=true)(hn:n<=60)(hm:m<=60)(h:d≠e):gEq d e=some (.bool false):=by have:Decidable (d=e):=isFalse h;rw[Zue hd he hn hm,decide_eq_false h]
theorem Zj1{n:Nat}{d:D}(hd:nbD n d=true)(hn:n<=60):gNe d d=some (.bool false):=by unfold gNe;rw[Zf3 hd hn,(ZiY n d d hd ⟨n,hd⟩).mpr rfl];rfl
theorem Zd4(n:Nat)(ns:List Int):nbD (n+1) (tupI ns)=true:=by show(ns.map dI).all (nbD n)=true;rw[Zx0];intro d hd;obtain⟨i,_,rfl⟩:=Zx3.mp hd;cases n<;>rfl
theorem ZhI(n:Nat)(ns:List Int):nbD (n+1) (.list (ns.map dI))=true:=Zd4 n ns
theorem Zv8{n:Nat}{ds:List D}(h:∀d∈ds,nbD n d=true):nbD (n+1) (.tuple ds)=true:=Zx0.mpr h
theorem Znw{n:Nat}{ds:List D}(h:∀d∈ds,nbD n d=true):nbD (n+1) (.list ds)=true:=Zx0.mpr h
theorem Ze0(n:Nat)(i:Int):nbD n (.int i)=true:=by cases n<;>rfl
theorem ZuH(n:Nat):nbD n .none=true:=by cases n<;>rfl
end HG
namespace HG
open PySem HM
def lkV(n:Nat)(c:Int):List Int:=((ZxZ n).filter λ(k:Nat)=>decide (0<ZP (c+19*(k:Int)) 9857 4)).map λ(k:Nat)=>(k:Int)
theorem Zv2(n:Nat)(c:Int):Cr n (lkV n c):=ZhH n _
theorem ZsX{w:Wk}(hv:Wk.V w)(c:Int):Zcw [w.d,.int c]=some (tupI (lkV w.looks.length c)):=by
 have l2:=hv.l2;have hok:okR (w.looks.length:Int)=true:=ZeS (by omega);have hb:w.looks.length<1000000:=by omega
 have e2:atD [ZyI w.many,.tuple (w.deeds.map Z3),.tuple (w.looks.map tupI),tupI w.beg,tupI w.goal] 2=some (.tuple (w.looks.map tupI)):=by simp
 unfold Wk.d;simp[Zcw,Zia,hok,ZaZ,hb];rw[Zb5 dN (λk:Nat=>decide (0<ZP (c+19*(k:Int)) 9857 4)) dN]
 ·simp[lkV]
 ·intro k hk
  have m:=Zb1 (c+19*(k:Int)) 9857 4 (by decide) (by decide);simp[m]
 ·intro k hk _
  simp
def ZxP(w:Wk)(c:List Int)(d:Int):D:=if ZbO w c d then tupI (ZY w c d)else .none
theorem Zcn{w:Wk}{c:List Int}{d:Int}(h:d∈doV w c):0<=d/\d<w.deeds.length/\ZbO w c d=true:=by unfold doV at h;obtain⟨k,hk,rfl⟩:=Zx3.mp h;obtain⟨h1,h2⟩:=Zyt.mp hk;have:=Zyh.mp h1;exact⟨by omega,by omega,h2⟩
end HG
namespace HG4
open PySem HM HG
end HG4
namespace HM
open PySem
theorem ZiR{α:Type}{c:TF}{e:EF}{r:Env}(a b:α->D)(p:α->Bool)(f:α->D):∀(xs:List α),(∀x∈xs,c (some (.pl (a x))::some (.pl (b x))::r)=some (p x))->(∀x∈xs,p x=true->e (some (.pl (a x))::some (.pl (b x))::r)=some (f x)) ->
  ZeO c e r (xs.map λx=>.tuple [a x,b x])=some ((xs.filter p).map f)
 | [],_,_=>rfl
 | x::xs,h1,h2=>by
  have ih:=ZiR a b p f xs (λy hy=>h1 y (ZxW _ hy)) (λy hy=>h2 y (ZxW _ hy));have hc:=h1 x (ZxU ..);rw[ZxY];unfold ZeO;rw[hc];cases hp:p x with
  | true=>have he:=h2 x (ZxU ..) hp;dsimp only;rw[he];dsimp only;rw[ih,ZB0 hp];rfl
  | false=>dsimp only;rw[ih,ZB1 (by simp[hp])]
theorem Z1{P:Option Out->Prop}{a b:SF}{r r':Env}(h:a r=some (.nx r'))(k:P (b r')):P (Zo a b r):=by show P (match a r with | some (.nx r')=>b r' | some (.rt d)=>some (.rt d) | some (.bk r')=>some (.bk r') | some (.ct r')=>some (.ct r') | none=>none);rw[h];exact k
end HM
namespace HG4
open PySem HM HG
def ZqB(w:Wk)(ls c:List Int)(s:Int):List Int:=c.filter λx=>ZS w ls x==ZS w ls s
theorem Zvc{n:Nat}{c:List Int}(p:Int->Bool)(h:Cr n c):Cr n (c.filter p):=⟨h.1.filter p,λx hx=>h.2 x (Zyt.mp hx).1⟩
def alV(w:Wk):List Int:=(ZxZ w.looks.length).map λ(k:Nat)=>(k:Int)
theorem ZxG(w:Wk):Cr w.looks.length (alV w):=by
 have:=ZhH w.looks.length λ_=>true
 rwa [ZAC.mpr λ_ _=>rfl]at this
theorem Zoq{w:Wk}{ls c:List Int}{s x:Int}:x∈ZqB w ls c s↔x∈c/\ZS w ls x=ZS w ls s:=by unfold ZqB;rw[Zyt,beq_iff_eq]
theorem Zt2{w:Wk}{c:List Int}{d x:Int}:x∈ZY w c d↔∃s∈c,x∈ZcM w d s:=by
 unfold ZY;rw[(sortI_perm _).mem_iff,Ze6];unfold ZbJ;rw[Zz9]
 constructor
 ·rintro (h | h)
  ·cases h
  ·exact h
 ·exact .inr
end HG4
namespace HM
open PySem
def Zal:Option Out->Option D
 | some (.nx _)=>some .none
 | some (.rt d)=>some d
 | _=>none
end HM
namespace HG4
open PySem HM HG
end HG4
namespace HG5
open PySem HM HG HG4
def ZE(w:Wk)(ls c:List Int):List (List Int):=(ZZ w ls c).map (·.2)
theorem ZlI{w:Wk}{ls c p:List Int}:p∈ZE w ls c↔∃s∈c,p=ZqB w ls c s:=by
 unfold ZE ZZ;rw[Zyg,Zx3];have hg:=Zg6 (ZS w ls) c
 constructor
 ·rintro ⟨k,hk,rfl⟩
  obtain⟨s,hs,e⟩:=Zx3.mp ((hg.mem k).mp ((Zci _).mem_iff.mp hk));refine⟨s,hs,?_⟩;subst e;rfl
 ·rintro ⟨s,hs,rfl⟩
  exact⟨ZS w ls s,(Zci _).mem_iff.mpr ((hg.mem _).mpr (Zx3.mpr ⟨s,hs,rfl⟩)),rfl⟩
theorem Zk2{w:Wk}{ls c p:List Int}(hc:Cr w.many c)(h:p∈ZE w ls c):Cr w.many p/\p≠[]/\∀x∈p,x∈c:=by obtain⟨s,hs,rfl⟩:=ZlI.mp h;exact⟨Zvc _ hc,ZBz (Zoq.mpr ⟨hs,rfl⟩),λx hx=>(Zoq.mp hx).1⟩
theorem ZhM{w:Wk}{ls c:List Int}(h:c≠[]):ZE w ls c≠[]:=by
 cases c with
 | nil=>exact absurd rfl h
 | cons s c=>exact ZBz (ZlI.mpr ⟨s,ZxU ..,rfl⟩)
def ZiH:Nat->List (List Int)
 | 0=>[[]]
 | n+1=>ZiH n++(ZiH n).map (·++[(n:Int)])
theorem Znn:∀n,(ZiH n).length=2 ^ n
 | 0=>rfl
 | n+1=>by show(ZiH n++(ZiH n).map (·++[(n:Int)])).length=_;rw[Zyc,ZxS,Znn n,Nat.pow_succ];omega
theorem Zj7:∀(n:Nat) (c:List Int),Cr n c->c∈ZiH n
 | 0,c,h=>by
  cases c with
  | nil=>exact Zyb.mpr rfl
  | cons x c=>have:=h.2 x (ZxU ..); omega
 | n+1,c,h=>by
  show c∈ZiH n++(ZiH n).map (·++[(n:Int)])
  by_cases hm:(n:Int)∈c
  ·-- the last is n
   have key:∀(c:List Int),c.Pairwise (· < ·)->(∀x∈c,0<=x/\x<((n+1:Nat):Int))->(n:Int)∈c->∃c',c=c'++[(n:Int)]/\c'.Pairwise (· < ·)/\∀x∈c',0<=x/\x<(n:Int):=by
    intro c
    induction c with
    | nil=>intro _ _ h; simp at h
    | cons x c ih =>
     intro hp hb hm;obtain⟨p1,p2⟩:=ZyD.mp hp
     by_cases hx:x=(n:Int)
     ·cases c with
      | nil=>exact⟨[],by rw[hx]; rfl,.nil,λy hy=>by simp at hy⟩
      | cons y c=>have h1:=p1 y (ZxU ..);have h2:=hb y (ZxW _ (ZxU ..));omega
     ·have hm':(n:Int)∈c:=by
       rcases Zye.mp hm with e | e
       ·exact absurd e.symm hx
       ·exact e
      obtain⟨c',e,q1,q2⟩:=ih p2 (λy hy=>hb y (ZxW _ hy)) hm';refine⟨x::c',by rw[e]; rfl,ZyD.mpr ⟨λy hy=>p1 y (by rw[e]; exact ZyT _ hy),q1⟩,λy hy=>?_⟩;rcases Zye.mp hy with e' | hy
      ·have h1:=p1 (n:Int) hm'
       have h2:=hb x (ZxU ..);rw[e'];omega
      ·exact q2 y hy
   obtain⟨c',e,q1,q2⟩:=key c h.1 h.2 hm;exact Zyn _ (Zx3.mpr ⟨c',Zj7 n c' ⟨q1,q2⟩,e.symm⟩)
  ·refine ZyT _ (Zj7 n c ⟨h.1,λx hx=>?_⟩)
   have h1:=h.2 x hx;have:x≠(n:Int):=λe=>hm (e▸hx);omega
theorem ZkA{n:Nat}{L:List (List Int)}(hn:L.Nodup)(h:∀c∈L,Cr n c):L.length<=2 ^ n:=by rw[<-Znn n];exact Zzn hn λc hc=>Zj7 n c (h c hc)
def Z4(w:Wk)(c:List Int):Bool:=c.all λs=>w.goal.contains s
def Win(w:Wk)(ls:List Int):Nat->List Int->Bool
 | 0,c=>Z4 w c
 | n+1,c=>Z4 w c||(ZxZ w.deeds.length).any λd=>ZbO w c d&&(ZE w ls (ZY w c d)).all λp=>Win w ls n p
theorem Zns{w:Wk}{ls:List Int}:∀(n:Nat) (c:List Int),Win w ls n c=true->Win w ls (n+1) c=true
 | 0,c,h=>by show(Z4 w c||_)=true;rw[show Z4 w c=true from h];rfl
 | n+1,c,h=>by
  have h':(Z4 w c||(ZxZ w.deeds.length).any λd=>ZbO w c d&&(ZE w ls (ZY w c d)).all λp=>Win w ls n p)=true:=h;show(Z4 w c||(ZxZ w.deeds.length).any λd=>ZbO w c d&&(ZE w ls (ZY w c d)).all λp=>Win w ls (n+1) p)=true;rw[Zzm]at h' ⊢;rcases h' with h' | h'
  ·exact .inl h'
  ·right
   obtain⟨d,hd,hq⟩:=ZyM.mp h';rw[Zyd]at hq;refine ZyM.mpr ⟨d,hd,?_⟩;rw[Zyd];exact⟨hq.1,Zx0.mpr λp hp=>Zns n p (Zx0.mp hq.2 p hp)⟩
theorem ZfX{w:Wk}{ls:List Int}{n m:Nat}(h:n<=m){c:List Int}(q:Win w ls n c=true):Win w ls m c=true:=by
 induction h with
 | refl=>exact q
 | step _ ih=>exact Zns _ _ ih
def Zeu(w:Wk)(ls:List Int)(L:List (List Int)):Prop:=∀c∈L,∀d:Nat,d<w.deeds.length->ZbO w c d=true->∀p∈ZE w ls (ZY w c d),p∈L
theorem Zkv{w:Wk}{ls:List Int}{L:List (List Int)}(hL:Zeu w ls L){n:Nat}(h:∀c∈L,Win w ls (n+1) c=true->Win w ls n c=true):∀(m:Nat),∀c∈L,Win w ls m c=true->Win w ls n c=true
 | 0,c,_,q=>ZfX (Zzu n) q
 | m+1,c,hc,q=>by
  refine h c hc ?_;have q':(Z4 w c||(ZxZ w.deeds.length).any λd=>ZbO w c d&&(ZE w ls (ZY w c d)).all λp=>Win w ls m p)=true:=q;show(Z4 w c||(ZxZ w.deeds.length).any λd=>ZbO w c d&&(ZE w ls (ZY w c d)).all λp=>Win w ls n p)=true;rw[Zzm]at q' ⊢;rcases q' with q' | q'
  ·exact .inl q'
  ·right
   obtain⟨d,hd,hq⟩:=ZyM.mp q';rw[Zyd]at hq;refine ZyM.mpr ⟨d,hd,?_⟩;rw[Zyd];exact⟨hq.1,Zx0.mpr λp hp=>Zkv hL h m p (hL c hc d (Zyh.mp hd) hq.1 p hp) (Zx0.mp hq.2 p hp)⟩
theorem Zh0{α:Type}{p q:α->Bool}:∀{L:List α},(∀x∈L,p x=true->q x=true)->(∃x∈L,q x=true/\p x=false)->(L.filter p).length<(L.filter q).length
 | [],_,⟨x,hx,_⟩=>by simp at hx
 | y::L,h,⟨x,hx,h1,h2⟩=>by
  have le:∀{L:List α},(∀x∈L,p x=true->q x=true)->(L.filter p).length<=(L.filter q).length:=by
   intro L
   induction L with
   | nil=>intro _; exact Zx2 _
   | cons z L ih =>
    intro h;have:=ih λx hx=>h x (ZxW _ hx);have hz:=h z (ZxU ..);rw[ZzP,ZzP];cases hp:p z with
    | true=>rw[hz hp]; simpa using this
    | false =>
     cases q z
     ·simpa using this
     ·simp; omega
  have hL:=λx hx=>h x (ZxW y hx);have hy:=h y (ZxU ..);rw[ZzP,ZzP];rcases Zye.mp hx with e | hx
  ·subst e
   rw[h2,h1];have:=le hL;simp; omega
  ·have:=Zh0 hL ⟨x,hx,h1,h2⟩
   cases hp:p y with
   | true=>rw[hy hp]; simpa using this
   | false =>
    cases q y
    ·simpa using this
    ·simp; omega
end HG5
namespace HG5
open PySem HM HG
def Zib:SF :=
 (ZC (op2 gEq (eOf (ZR (Zah (bOf (Zd 1))) (tV (Zhd (Zd 0) (bOf (eIx (Zr 1) (eC (.int 4)))))) (Zd 0))) (eOf (Zdg Zk))))
def ZbD:List D->Option D:=fnOf 2 2 Zib
end HG5
namespace HG5
open PySem HM HG HG4
theorem Zty{a b:List Int}(h:tupI a=tupI b):a=b:=by
 injection h with h
 have:=congrArg ZaO h;rw[ZcJ,ZcJ]at this;exact ZyK this
theorem ZlG(p:List Int):Zan (tupI p)=true:=Zf3 (Zd4 0 p) (by decide)
theorem Zuw(a b:List Int):ZyW (tupI a) (tupI b)=(a==b):=by have h:=ZiY 1 (tupI a) (tupI b) (Zd4 0 a) ⟨1,Zd4 0 b⟩;apply ZAF.mpr;rw[h,beq_iff_eq];exact⟨Zty,λe=>by rw[e]⟩
theorem Zsx(L:List (List Int))(p:List Int):ZnW (L.map tupI) (tupI p)=some (L.contains p):=by
 unfold ZnW;have h1:(L.map tupI).all Zan=true:=Zx0.mpr λd hd=>by obtain⟨c,_,rfl⟩:=Zx3.mp hd;exact ZlG c
 rw[ZlG,h1,if_pos (by rfl)];congr 1
 induction L with
 | nil=>rfl
 | cons c L ih=>rw[ZxY,ZzA,Zuw,List.contains_cons,ih (by rw[ZxY,Zy5,Zyd]at h1;exact h1.2)];rw[show(c==p)=(p==c) from ZAF.mpr ⟨λh=>beq_iff_eq.mpr (beq_iff_eq.mp h).symm,λh=>beq_iff_eq.mpr (beq_iff_eq.mp h).symm⟩]
inductive Rch(w:Wk)(ls:List Int):List Int->Prop where
 | beg {p:List Int} (h:p∈ZE w ls w.beg):Rch w ls p
 | step {c p:List Int} {d:Nat} (r:Rch w ls c) (hd:d<w.deeds.length) (hc:ZbO w c d=true) (h:p∈ZE w ls (ZY w c d)):Rch w ls p
theorem Zkq{w:Wk}{c:List Int}{d:Int}(h0:c≠[])(hc:ZbO w c d=true):ZY w c d≠[]:=by
 cases c with
 | nil=>exact absurd rfl h0
 | cons s c =>
  unfold ZbO at hc;have h1:=Zx0.mp hc s (ZxU ..);have h2:0<(ZcM w d s).length:=by simpa using h1
  cases hr:ZcM w d s with
  | nil=>rw[hr]at h2; simp at h2
  | cons x xs=>exact ZBz (Zt2.mpr ⟨s,ZxU ..,by rw[hr]; exact ZxU ..⟩)
def ZxM(w:Wk)(ls c:List Int)(L:List (List Int))(d:Nat):List (List Int):=if ZbO w c d then L++(ZE w ls (ZY w c d)).filter (λp=>!L.contains p)else L
end HG5
namespace HG5
open PySem HM HG HG4
theorem ZnR{α:Type}(ns:List Int):gEq (.list (ns.map dI)) (.list [])=some (.bool ns.isEmpty):=by
 cases ns with
 | nil=>exact Zf9 (ZhI 0 []) (by decide)
 | cons n ns=>exact Zg5 (ZhI 0 (n::ns)) (ZhI 0 []) (by decide) (by decide) (by simp)
theorem ZtE(L:List (List Int)):gEq (.list (L.map tupI)) (.list [])=some (.bool L.isEmpty):=by
 have h:∀L:List (List Int),nbD 2 (.list (L.map tupI))=true:=λL=>Znw λd hd=>by obtain⟨c,_,rfl⟩:=Zx3.mp hd;exact Zd4 0 c
 cases L with
 | nil=>exact Zf9 (h []) (by decide)
 | cons c L=>exact Zg5 (h (c::L)) (h []) (by decide) (by decide) (by simp)
theorem filter_empty{α:Type}(p:α->Bool)(L:List α):(L.filter λx=>!p x).isEmpty=L.all p:=by
 induction L with
 | nil=>rfl
 | cons x L ih =>
  rw[ZzP,Zy5];cases p x with
  | true=>simpa using ih
  | false=>rfl
theorem Zip{w:Wk}(hv:Wk.V w){c:List Int}(hc:c.length<1000):ZbD [w.d,tupI c]=some (.bool (Z4 w c)):=by
 have hb:c.length<1000000:=by omega
 have i0:Zcm (.pl w.d)=some [ZyI w.many,.tuple (w.deeds.map Z3),.tuple (w.looks.map tupI),tupI w.beg,tupI w.goal]:=rfl;have e:∀r:HM.Env,r[0]?=some (some (.pl w.d))->ZaK (tV (Zhd (Zd 0) (bOf (eIx (Zr 1) (eC (.int 4)))))) (Zd 0) r (c.map dI)=some ((c.filter λs=>!w.goal.contains s).map dI):=λr r0=>by
  rw[Zb5 dI (λs=>!w.goal.contains s) dI]
  ·intro s _
   simp[r0,i0,ZnG,ZcJ,-Zcm,-ZzL];simp[ZnG,ZcJ,-ZzL]
  ·intro s _ _
   simp
 have g:=ZnR (α:=Int) (c.filter λs=>!w.goal.contains s);rw[filter_empty (λs=>w.goal.contains s) c]at g;simp[ZbD,Zib,hb,e,g,Z4,-gEq,-ZzL]
abbrev Tb:=List (List Int × Int)
def encM(M:Tb):List (List Ky × D):=M.map λp=>(Zac p.1,dI p.2)
theorem Zd2(M:Tb)(k:List Int):Zn (encM M) (Zac k)=(Zn M k).map dI:=by
 unfold Zn encM;rw[List.find?_map];have e:((λp:List Ky × D=>decide (p.1=Zac k))∘λp:List Int × Int=>(Zac p.1,dI p.2))=λp=>decide (p.1=k):=by
  funext p
  simp only[ZA4];exact decide_eq_decide.mpr (Zle p.1 k)
 rw[e];cases M.find? λp=>decide (p.1=k)<;>rfl
theorem Zog(M:Tb)(k:List Int)(v:Int):putD (encM M) (Zac k) (dI v)=encM (putD M k v):=by
 unfold putD;have e1:((encM M).any λp=>decide (p.1=Zac k))=M.any λp=>decide (p.1=k):=by
  unfold encM;rw[List.any_map];congr 1
  funext p
  simp only[ZA4];exact decide_eq_decide.mpr (Zle p.1 k)
 rw[e1];split
 ·unfold encM
  rw[Zyg,Zyg];refine Zzx λp _=>?_;simp only[ZA4]
  by_cases h:p.1=k
  ·rw[if_pos h,if_pos (by rw[h])]
  ·rw[if_neg h,if_neg (λe=>h (ZdP e))]
 ·unfold encM
  rw[Zyr];rfl
theorem ZiD(k:List Int):Zn ([]:Tb) k=none:=rfl
theorem ZbM(x:List Int)(v:Int)(M:Tb)(k:List Int):Zn ((x,v)::M) k=if x=k then some v else Zn M k:=by
 unfold Zn;rw[ZyH]
 by_cases h:x=k<;>simp[h]
theorem Zrj(x k:List Int)(v:Int)(M:Tb):Zn (putD M x v) k=if x=k then some v else Zn M k:=by
 have rep:∀M:Tb,Zn (M.map λp=>if p.1=x then(p.1,v)else p) k=if x=k then(Zn M k).map (λ_=>v)else Zn M k:=by
  intro M
  induction M with
  | nil=>rw[ZzI,ZiD]; split<;>rfl
  | cons p M ih =>
   obtain⟨a,b⟩:=p;rw[ZxY]
   by_cases ha:a=x
   ·rw[if_pos (show(a,b).1=x from ha),ZbM,ZbM,ih]
    show(if a=k then some v else _)=_
    by_cases hk:x=k
    ·rw[if_pos (by rw[ha,hk]),if_pos hk,if_pos (by rw[ha,hk])]; rfl
    ·rw[if_neg (by rw[ha]; exact hk),if_neg hk,if_neg hk,if_neg (by rw[ha]; exact hk)]
   ·rw[if_neg (show ¬(a,b).1=x from ha),ZbM,ZbM,ih]
    by_cases hk:a=k
    ·rw[if_pos hk,if_pos hk]
     have:x≠k:=λe=>ha (hk.trans e.symm);rw[if_neg this]
    ·rw[if_neg hk,if_neg hk]
 have app:∀M:Tb,Zn (M++[(x,v)]) k=match Zn M k with | some u=>some u | none=>if x=k then some v else none:=by
  intro M
  induction M with
  | nil=>rw[ZzW,ZbM,ZiD]
  | cons p M ih =>
   obtain⟨a,b⟩:=p;rw[ZBY,ZbM,ZbM,ih]
   by_cases hk:a=k
   ·rw[if_pos hk,if_pos hk]
   ·rw[if_neg hk,if_neg hk]
 have has:∀M:Tb,(M.any λp=>decide (p.1=x))=(Zn M x).isSome:=by
  intro M
  induction M with
  | nil=>rfl
  | cons p M ih =>
   obtain⟨a,b⟩:=p;rw[ZzA,ZbM,ih]
   by_cases ha:a=x<;>simp[ha]
 unfold putD;split
 ·rename_i h
  rw[rep]
  by_cases hk:x=k
  ·subst hk
   rw[has]at h;rw[if_pos rfl,if_pos rfl];obtain⟨u,hu⟩:=Zys.mp h;rw[hu]; rfl
  ·rw[if_neg hk,if_neg hk]
 ·rename_i h
  rw[app]
  by_cases hk:x=k
  ·subst hk
   rw[has]at h;rw[if_pos rfl,if_pos rfl];cases hq:Zn M x with
   | none=>rfl
   | some u=>rw[hq]at h; exact absurd rfl h
  ·rw[if_neg hk,if_neg hk]
   cases Zn M k<;>rfl
theorem Zpd(x:List Int)(v:Int)(M:Tb):(putD M x v).length<=M.length+1:=by
 unfold putD;split
 ·rw[ZxS]; omega
 ·rw[Zyc]; exact Zx2 _
def Zy(M:Tb)(p:List Int):Bool:=(Zn M p).isSome
def Zfh(w:Wk)(ls c:List Int)(M:Tb):Bool:=(ZxZ w.deeds.length).any λd=>ZbO w c d&&(ZE w ls (ZY w c d)).all λp=>Zy M p
end HG5
namespace HG5
open PySem HM HG HG4
def ZcO(w:Wk)(ls:List Int)(t:Nat)(c:List Int):Option Int:=((ZxZ (t+1)).find? λn=>Win w ls n c).map λ(n:Nat)=>(n:Int)
theorem ZcK{w:Wk}{ls:List Int}{t:Nat}{c:List Int}:(ZcO w ls t c).isSome=Win w ls t c:=by
 unfold ZcO;rw[Zzi];cases h:Win w ls t c with
 | true=>rw[ZBK]; exact⟨t,Zyh.mpr (by omega),h⟩
 | false =>
  cases q:(ZxZ (t+1)).find? λn=>Win w ls n c with
  | none=>rfl
  | some n=>have h1:=List.find?_some q;have h2:=Zyh.mp (ZAG q);rw[ZfX (show n<=t by omega) h1]at h;cases h
theorem ZqK{w:Wk}{ls:List Int}{t:Nat}{c:List Int}:ZcO w ls (t+1) c=match ZcO w ls t c with
  | some k=>some k
  | none=>if Win w ls (t+1) c then some ((t+1:Nat):Int)else none:=by
 unfold ZcO;rw[List.range_succ (n:=t+1),ZBH];cases(ZxZ (t+1)).find? λn=>Win w ls n c with
 | some n=>rfl
 | none=>show Zzo _ (Option.or none ([t+1].find? λn=>Win w ls n c))=_;rw[Option.none_or,ZyH];cases Win w ls (t+1) c<;>rfl
theorem Zky{w:Wk}{ls:List Int}{t:Nat}{c:List Int}{k:Int}(h:ZcO w ls t c=some k):∃n:Nat,k=(n:Int)/\n<=t/\Win w ls n c=true/\∀m,m<n->Win w ls m c=false:=by
 unfold ZcO at h;obtain⟨n,hn,rfl⟩:=ZxT.mp h;refine⟨n,rfl,?_,List.find?_some (p:=λn=>Win w ls n c) hn,λm hm=>?_⟩
 ·have:=Zyh.mp (ZAG hn)
  omega
 ·cases q:Win w ls m c with
  | false=>rfl
  | true =>
   obtain⟨_,as,bs,e,hno⟩:=List.find?_eq_some_iff_append.mp hn;have hmem:m∈ZxZ (t+1):=Zyh.mpr (by have:=Zyh.mp (ZAG hn);omega);have hp:(as++n::bs).Pairwise (· < ·):=by rw[<-e]; exact ZCe
   rw[e]at hmem;rcases Zyq.mp hmem with h1 | h1
   ·have:=hno m h1
    rw[q]at this;cases this
   ·rcases Zye.mp h1 with h2 | h2
    ·omega
    ·have:=(ZyD.mp (List.pairwise_append.mp hp).2.1).1 m h2
     omega
structure Zhr(w:Wk)(ls:List Int)(L:List (List Int))(t:Nat)(M:Tb):Prop where
 look:∀c,Zn M c=if c∈L then ZcO w ls t c else none
theorem Zgl(v:Int)(k:List Int):∀(ms:List (List Int)) (M:Tb),Zn (ms.foldl (λM c=>putD M c v) M) k=if k∈ms then some v else Zn M k
 | [],M=>by simp
 | c::ms,M=>by
  rw[ZzV,Zgl v k ms,Zrj]
  by_cases h1:k∈ms
  ·rw[if_pos h1,if_pos (ZxW _ h1)]
  ·rw[if_neg h1]
   by_cases h2:c=k
   ·rw[if_pos h2,if_pos (by rw[h2]; exact ZxU ..)]
   ·rw[if_neg h2,if_neg]
    intro h;rcases Zye.mp h with e | e
    ·exact h2 e.symm
    ·exact h1 e
theorem Zlw(v:Int):∀(ms:List (List Int)) (M:Tb),(ms.foldl (λM c=>putD M c v) M).length<=M.length+ms.length
 | [],M=>Zx2 _
 | c::ms,M=>by rw[ZzV,Zx8];have:=Zlw v ms (putD M c v);have:=Zpd c v M;omega
def Zfp(w:Wk)(ls:List Int)(L:List (List Int))(M:Tb):List (List Int):=L.filter λc=>!Zy M c&&Zfh w ls c M
theorem ZnQ{w:Wk}{ls:List Int}{L:List (List Int)}(hL:Zeu w ls L){t:Nat}{M:Tb}(T:Zhr w ls L t M):Zhr w ls L (t+1) ((Zfp w ls L M).foldl (λM c=>putD M c ((t+1:Nat):Int)) M):=by
 have hhas:∀c∈L,Zy M c=Win w ls t c:=λc hc=>by unfold Zy;rw[T.look,if_pos hc,ZcK]
 refine⟨λc=>?_⟩;rw[Zgl,T.look]
 by_cases hc:c∈L
 ·rw[if_pos hc,if_pos hc,ZqK]
  have hcan:Zfh w ls c M=(ZxZ w.deeds.length).any λd=>ZbO w c d&&(ZE w ls (ZY w c d)).all λp=>Win w ls t p:=by
   unfold Zfh;apply ZAF.mpr;rw[ZyM,ZyM]
   constructor
   ·rintro ⟨d,hd,hq⟩
    rw[Zyd]at hq;refine⟨d,hd,?_⟩;rw[Zyd];refine⟨hq.1,Zx0.mpr λp hp=>?_⟩;rw[<-hhas p (hL c hc d (Zyh.mp hd) hq.1 p hp)];exact Zx0.mp hq.2 p hp
   ·rintro ⟨d,hd,hq⟩
    rw[Zyd]at hq;refine⟨d,hd,?_⟩;rw[Zyd];refine⟨hq.1,Zx0.mpr λp hp=>?_⟩;rw[hhas p (hL c hc d (Zyh.mp hd) hq.1 p hp)];exact Zx0.mp hq.2 p hp
  have hmem:c∈Zfp w ls L M↔(Win w ls t c=false/\Zfh w ls c M=true):=by
   unfold Zfp;rw[Zyt,Zyd,hhas c hc]
   constructor
   ·rintro ⟨_,h1,h2⟩
    exact⟨by simpa using h1,h2⟩
   ·rintro ⟨h1,h2⟩
    exact⟨hc,by simp[h1],h2⟩
  cases hw:Win w ls t c with
  | true =>
   have hs:(ZcO w ls t c).isSome=true:=by rw[ZcK]; exact hw
   obtain⟨k,hk⟩:=Zys.mp hs;rw[if_neg (λh=>by rw[hw]at hmem; cases(hmem.mp h).1),hk]
  | false =>
   have hs:ZcO w ls t c=none:=by
    have:=ZcK (w:=w) (ls:=ls) (t:=t) (c:=c);rw[hw]at this;cases q:ZcO w ls t c with
    | none=>rfl
    | some k=>rw[q]at this; cases this
   have hth:Z4 w c=false:=by
    cases q:Z4 w c with
    | false=>rfl
    | true=>have:Win w ls t c=true:=ZfX (Zzu t) (show Win w ls 0 c=true from q);rw[hw]at this;cases this
   have hwin:Win w ls (t+1) c=Zfh w ls c M:=by rw[hcan];show(Z4 w c||_)=_;rw[hth,ZCq]
   rw[hs];dsimp only;rw[hwin];cases hcw:Zfh w ls c M with
   | true=>rw[if_pos (hmem.mpr ⟨hw,hcw⟩),if_pos rfl]
   | false=>rw[if_neg (λh=>by have:=(hmem.mp h).2; rw[hcw]at this; cases this)]; rfl
 ·rw[if_neg hc,if_neg hc,if_neg]
  intro h;exact hc (Zyt.mp h).1
def M0(w:Wk)(L:List (List Int)):Tb:=(L.filter λc=>Z4 w c).foldl (λM c=>putD M c 0) []
theorem ZnD{w:Wk}{ls:List Int}{L:List (List Int)}:Zhr w ls L 0 (M0 w L):=by
 refine⟨λc=>?_⟩;unfold M0;rw[Zgl,ZiD];have e:ZcO w ls 0 c=if Z4 w c then some 0 else none:=by unfold ZcO;show Zzo _ (([0]:List Nat).find? λn=>Win w ls n c)=_;rw[ZyH];show Zzo _ (match Win w ls 0 c with | true=>some 0 | false=>_)=_;have:Win w ls 0 c=Z4 w c:=rfl;rw[this];cases Z4 w c<;>rfl
 rw[e]
 by_cases hc:c∈L
 ·rw[if_pos hc]
  cases ht:Z4 w c with
  | true=>rw[if_pos (Zyt.mpr ⟨hc,ht⟩)]; rfl
  | false=>rw[if_neg (λh=>by have:=(Zyt.mp h).2; rw[ht]at this; cases this)]; rfl
 ·rw[if_neg hc,if_neg λh=>hc (Zyt.mp h).1]
end HG5
namespace HG5
open PySem HM HG HG4
def Zs7(w:Wk)(ls:List Int)(n:Nat):Prop:=∀p∈ZE w ls w.beg,Win w ls n p=true
def Few(w:Wk)(ls:List Int)(d:D):Prop:=(∃n:Nat,d=.int n/\Zs7 w ls n/\∀m,m<n->¬Zs7 w ls m)\/(d=.none/\∀n,¬Zs7 w ls n)
end HG5
namespace HG5
open PySem HM HG
def Zow:SF :=
 (ZC (eIx (Zr 0) (eC (.int 3))))
def ZaV:List D->Option D:=fnOf 1 1 Zow
def ZpO:SF :=
 (ZC (eIx (Zr 0) (eC (.int 4))))
def Zdk:List D->Option D:=fnOf 1 1 ZpO
def Zjr:SF :=
 (ZC (Zio (ZR (Zah (bOf (Zd 1))) Zam (Zm9 (Zd 0) (bOf (Zj Zdk (Zb (Zd 1) Zk)))))))
def Zbz:List D->Option D:=fnOf 2 2 Zjr
def Zic:SF :=
 (ZC (eOf (ZR (Zah (bOf (Zd 0))) Zam (eIx (Zr 0) (eC (.int 1))))))
def ZD:List D->Option D:=fnOf 1 1 Zic
def ZbX(ap:AP):SF :=
 (Zi9 3 (ZiQ ZD (Zb (eIx (Zr 5) (eC (.int 1))) Zk)))
def Zbu(ap:AP):SF :=
 (Zo (Zth 4 3)
  (sIf (tV (Zcb (Zd 4) (Zr 2))) (Zo (ZhT 2 (Zd 4) (ZfV ap 1 (Zb (Zd 4) Zk)))
  (ZbF 5 (Zah (bOf (Zav (Zr 2) (Zd 4)))) (ZbX ap))) ZaJ))
def Zc4(ap:AP):SF :=
 (Zo (Z8 2 fDt)
  (Zo (Z8 3 (Zi2 (Zr 0)))
  (Zo (Zn3 100000 (tV (op2 gGt (Zbg (Zr 3)) (eC (.int 0)))) (Zbu ap))
  (ZgO 2 (ZC (Zd 2))))))
def ZbH(ap:AP):List D->Option D:=fnOf 2 6 (Zc4 ap)
def Ze7(ap:AP):SF :=
 (Zo (Z8 3 (ZR (Zah (bOf (Zd 0))) Zam (ZfV ap 3 (Zb (Zd 0) (Zb (Zd 2) Zk)))))
  (ZgO 3 (ZC (Zfq (ZR (Zah (bOf (Zd 3))) (tV (op2 Zfu (Zd 0) (eC .none))) (Zd 0))))))
def ZbK(ap:AP):List D->Option D:=fnOf 3 4 (Ze7 ap)
def Z6(ap:AP):SF :=
 (sIf (tV (Zcb (Zd 4) (Zr 1))) (Zo (Zai 5 (Zj (ZbK ap) (Zb (Zav (Zr 0) (Zd 4)) (Zb (Zd 1) (Zb (Zd 2) Zk)))))
  (sIf (tV (op2 Zfu (Zd 5) (eC .none))) (ZhT 3 (Zd 4) (Zd 5)) ZaJ)) ZaJ)
def Zbq(ap:AP):List D->Option (List (List Ky × D)):=newOf 3 6
 (ZjY (Z8 3 fDt)
 (ZjY (ZeA 0 (ZbF 4 (Za4 0) (Z6 ap)))
 (Znx 3)))
def Zc8(ap:AP):SF :=
 (ZhT 3 (Zd 6) (Zd 4))
def Zc9(ap:AP):SF :=
 (Zo (ZgO 5 (ZbF 6 (Zah (bOf (Zd 5))) (Zc8 ap)))
  (Zo (Z8 7 (ZiF (Zbq ap) (Zb (Zd 1) (Zb (Zqb (Zr 3)) (Zb (Zd 2) Zk)))))
  (Zo (ZgO 7 (ZeA 7 (Zai 4 (Zfq (ZR (Za4 7) Zam (Zav (Zr 8) (Zd 0)))))))
  (ZgO 7 (ZeA 7 (Z8 5 (ZR (Za4 7) (tV (op2 gEq (Zav (Zr 8) (Zd 0)) (Zd 5))) (Zd 0))))))))
def ZeT(ap:AP):SF :=
 (Zo (Z8 3 fDt)
  (Zo (Zai 4 (eC (.int 0)))
  (Zo (ZeA 1 (Z8 5 (ZR (Za4 1) (tV (Zj Zbz (Zb (Zd 1) (Zb (Zd 0) Zk)))) (Zd 0))))
  (Zo (Zn3 100000 (tV (op2 gGt (Zbg (Zr 5)) (eC (.int 0)))) (Zc9 ap))
  (ZgO 3 (ZC (Zd 3)))))))
def ZcV(ap:AP):List D->Option D:=fnOf 3 8 (ZeT ap)
def ZdE:SF :=
 (Zo (Z8 2 (ZR (Zah (bOf (Zj ZD (Zb (Zd 0) Zk)))) (tV (Zm8 (Zd 0) (Zr 2))) (Zav (Zr 2) (Zd 0))))
  (ZC (eIf (tV (op2 gEq (Zbg (Zr 2)) (Zbg (Zr 0)))) (ZkJ (Zr 2)) (eC .none))))
def ZO:List D->Option D:=fnOf 2 3 ZdE
def Zid:SF :=
 (ZC (eOf (ZR (Zah (bOf (Zj Zbp (Zb (Zd 0) (Zb (Zd 2) Zk))))) Zam (ZdK (Zb (Zd 0) (Zb (Zj Zar (Zb (Zd 1) (Zb (Zd 2) (Zb (Zj Zcg (Zb (Zd 1) (Zb (Zd 3) (Zb (Zd 0) Zk)))) Zk)))) Zk))))))
def Za9:List D->Option D:=fnOf 3 3 Zid
def ZeF(ap:AP):SF :=
 (ZC (ZhC (ZbH ap) 1 [0,1] (Zj ZD (Zb (Zj Zar (Zb (Zd 0) (Zb (Zd 1) (Zb (Zd 2) Zk)))) Zk))))
def Zaf(ap:AP):List D->Option D:=fnOf 3 3 (ZeF ap)
def Zgr:SF :=
 (Zo (Zai 2 (Zj ZO (Zb (eIx (Zr 0) (eC (.int 1))) (Zb (Zd 1) Zk))))
  (ZC (eIf (tV (op2 ZqA (Zd 2) (eC .none))) (eC .none) (op2 Zbb (Zd 2) (eC (.int 1))))))
def ZcW:List D->Option D:=fnOf 2 3 Zgr
def ZfG(ap:AP):SF :=
 (ZC (Zj (ZcV ap) (Zb (Zd 0) (Zb (Zd 1) (Zb (eC (fnD 0 [])) Zk)))))
def Zaz(ap:AP):List D->Option D:=fnOf 2 2 (ZfG ap)
def Zie(ap:AP):SF :=
 (Zo (Zcj (Zj Zaa (Zb (Zd 0) Zk)))
  (Zo (Zcj (Zj ZN (Zb (Zd 0) (Zb (Zd 1) Zk))))
  (Zo (Zai 2 (Zj ZaV (Zb (Zd 0) Zk)))
  (Zo (Zai 3 (Zj (Zaz ap) (Zb (Zd 0) (Zb (Zj (Zaf ap) (Zb (Zd 0) (Zb (Zd 1) (Zb (Zd 2) Zk)))) Zk))))
  (ZC (Zj ZO (Zb (Zj Zar (Zb (Zd 0) (Zb (Zd 1) (Zb (Zd 2) Zk)))) (Zb (Zd 3) Zk))))))))
def Zda(ap:AP):List D->Option D:=fnOf 2 4 (Zie ap)
end HG5
namespace HG5
open PySem HM HG HG4
theorem ZxO(w:Wk):Zcm (.pl w.d)=some [ZyI w.many,.tuple (w.deeds.map Z3),.tuple (w.looks.map tupI),tupI w.beg,tupI w.goal]:=rfl
theorem ZgI(w:Wk):ZaV [w.d]=some (tupI w.beg):=rfl
theorem Zp4(w:Wk):Zdk [w.d]=some (tupI w.goal):=rfl
theorem ZsR{α:Type}(xs:List α)(p:α->Bool):Ze2 (xs.map λx=>Zzg (p x))=some (xs.map p):=by
 have:=Zfw (xs.map p)
 rwa [Zyg]at this
theorem ZoV{w:Wk}{c:List Int}(hc:c.length<1000):Zbz [w.d,tupI c]=some (.bool (Z4 w c)):=by
 have hb:c.length<1000000:=by omega
 have e:∀r:HM.Env,r[0]?=some (some (.pl w.d))->ZaK Zam (Zm9 (Zd 0) (bOf (Zj Zdk (Zb (Zd 1) Zk)))) r (c.map dI)=some (c.map λs=>Zzg (w.goal.contains s)):=λr r0=>by
  rw[Zbl dI (λs=>Zzg (w.goal.contains s))]
  ·intro s _
   simp[r0,Zp4,ZnG,ZcJ,-ZzL]
 simp[Zbz,Zjr,hb,e,ZsR,Z4,-ZzL]
theorem Zew(g:Gs)(h:g.length<1000000):ZD [.list (g.map Zap)]=some (.list ((g.map (·.2)).map tupI)):=by
 have e:∀r:HM.Env,ZaK Zam (eIx (Zr 0) (eC (.int 1))) r (g.map Zap)=some ((g.map (·.2)).map tupI):=λr=>by
  rw[Zbl Zap (λp=>tupI p.2),Zyg]
  ·rfl
  ·intro p _
   rfl
 simp[ZD,Zic,h,e]
def ZjX(w:Wk)(ls c:List Int)(d:Int):D:=.tuple [dI d,.list ((ZZ w ls (ZY w c d)).map Zap)]
def Zkz(w:Wk)(ls c:List Int):D:=.list ((doV w c).map (ZjX w ls c))
theorem split_len{w:Wk}{ls c:List Int}:(ZZ w ls c).length<=c.length:=by unfold ZZ;rw[ZxS,(Zci _).length_eq,ZxS];exact Zqg _ _ _ (Zg6 (ZS w ls) c)
theorem Zg7(w:Wk)(c:List Int):(doV w c).length<=w.deeds.length:=by
 unfold doV;rw[ZxS];have:=Zy8 (λ(d:Nat)=>ZbO w c (d:Int)) (ZxZ w.deeds.length)
 rwa [Zz2]at this
theorem Zpt{w:Wk}{c:List Int}{d:Nat}(hd:d<w.deeds.length)(hc:ZbO w c d=true):(d:Int)∈doV w c:=by unfold doV;exact Zx3.mpr ⟨d,Zyt.mpr ⟨Zyh.mpr hd,hc⟩,rfl⟩
section
variable{w:Wk}(hv:Wk.V w){ls:List Int}(hl:Cr w.looks.length ls)
include hv hl
theorem Zoj{c:List Int}(hc:Cr w.many c):Za9 [w.d,tupI ls,tupI c]=some (Zkz w ls c):=by
 have hdo:=Zh2 hv hc;have hb:(doV w c).length<1000000:=by have:=Zg7 w c; have:=hv.d2; omega
 have e:∀r:HM.Env,r[0]?=some (some (.pl w.d))->r[1]?=some (some (.pl (tupI ls)))->r[2]?=some (some (.pl (tupI c))) ->
   ZaK Zam (ZdK (Zb (Zd 0) (Zb (Zj Zar (Zb (Zd 1) (Zb (Zd 2) (Zb (Zj Zcg (Zb (Zd 1) (Zb (Zd 3) (Zb (Zd 0) Zk)))) Zk)))) Zk))) r ((doV w c).map dI)=some ((doV w c).map (ZjX w ls c)):=λr r0 r1 r2=>by
  rw[Zbl dI (ZjX w ls c)];intro d hd;obtain⟨d0,d1,_⟩:=Zcn hd;have h1:=Zlx hv hc d0 d1;have h2:=Zgn hv hl (ZeQ hv hc d0 d1);simp[r0,r1,r2,h1,h2,ZjX]
 simp[Za9,Zid,hdo,hb,e,Zkz]
end
end HG5
namespace HG5
open PySem HM HG HG4
abbrev Wy:=D × Gs
def wyD(y:Wy):D:=.tuple [y.1,.list (y.2.map Zap)]
def wyP(y:Wy):List (List Int):=y.2.map (·.2)
abbrev Wf:=List Int->List Wy
inductive Zk3(wf:Wf)(B:List (List Int)):List Int->Prop where
 | beg {p:List Int} (h:p∈B):Zk3 wf B p
 | step {c p:List Int} {y:Wy} (r:Zk3 wf B c) (hy:y∈wf c) (h:p∈wyP y):Zk3 wf B p
structure ZgL(wf:Wf)(Ok:List Int->Prop)(B C W:List (List Int)):Prop where
 nd:C.Nodup
 cr:∀c∈C,Ok c
 wr:∀c∈W,Ok c
 rc:∀c∈C,Zk3 wf B c
 rw:∀c∈W,Zk3 wf B c
 cl:∀c∈C,∀y∈wf c,∀p∈wyP y,p∈C\/p∈W
 bg:∀p∈B,p∈C\/p∈W
def Zv(wf:Wf)(C:List (List Int)):List (List Ky × D):=C.map λc=>(Zac c,.list ((wf c).map wyD))
theorem Zgq(wf:Wf)(C:List (List Int))(k:List Int):Zn (Zv wf C) (Zac k)=if k∈C then some (.list ((wf k).map wyD))else none:=by
 unfold Zn Zv
 induction C with
 | nil=>rfl
 | cons c C ih =>
  rw[ZxY,ZyH]
  by_cases h:c=k
  ·subst h
   rw[if_pos (ZxU ..)];simp
  ·have h':decide ((Zac c,(ZBs ((wf c).map wyD))).1=Zac k)=false:=decide_eq_false λe=>h (ZdP e)
   rw[h'];dsimp only;rw[ih]
   by_cases q:k∈C
   ·rw[if_pos q,if_pos (ZxW _ q)]
   ·rw[if_neg q,if_neg λz=>by
     rcases Zye.mp z with e | e
     ·exact h e.symm
     ·exact q e]
theorem Zsn{wf:Wf}{C:List (List Int)}{k:List Int}(h:k ∉ C):putD (Zv wf C) (Zac k) (.list ((wf k).map wyD))=Zv wf (C++[k]):=by
 unfold putD;rw[if_neg]
 ·unfold Zv
  rw[Zyr];rfl
 ·intro z
  obtain⟨p,hp,e⟩:=ZyM.mp z;unfold Zv at hp;obtain⟨c,hc,rfl⟩:=Zx3.mp hp;have e:=ZdP (of_decide_eq_true e);subst e;exact h hc
theorem Ziq(wf:Wf)(L:List (List Int)):((Zv wf L).map λp=>Zyv (p.1.map ZaL))=L.map tupI:=by unfold Zv;rw[Zyg];refine Zzx λc _=>?_;show Zyv ((c.map ZzC).map ZaL)=Zyv (c.map dI);rw[Zyg];rfl
def Zlg(wf:Wf)(c:List Int):List (List Int):=(wf c).flatMap wyP
theorem ZgL.old{wf:Wf}{Ok:List Int->Prop}{B C V:List (List Int)}{p:List Int}(I:ZgL wf Ok B C (V++[p]))(hp:p∈C):ZgL wf Ok B C V:=by
 have key:∀q,q∈C\/q∈V++[p]->q∈C\/q∈V:=λq h=>by
  rcases h with h | h
  ·exact .inl h
  ·rcases Zyq.mp h with h | h
   ·exact .inr h
   ·rw[Zyb.mp h]; exact .inl hp
 exact⟨I.nd,I.cr,λc h=>I.wr c (ZyT _ h),I.rc,λc h=>I.rw c (ZyT _ h),λc hc y hy q hq=>key q (I.cl c hc y hy q hq),λq hq=>key q (I.bg q hq)⟩
structure ZqP(wf:Wf)(Ok:List Int->Prop):Prop where
 ok:∀c,Ok c->∀y∈wf c,∀p∈wyP y,Ok p
 ys:∀c,Ok c->(wf c).length<=10
 ps:∀c,Ok c->∀y∈wf c,y.2.length<=8
 cs:∀C:List (List Int),C.Nodup->(∀c∈C,Ok c)->C.length<=128
theorem ZgL.new{wf:Wf}{Ok:List Int->Prop}(O:ZqP wf Ok){B C V:List (List Int)}{p:List Int}(I:ZgL wf Ok B C (V++[p]))(hp:p ∉ C):ZgL wf Ok B (C++[p]) (V++Zlg wf p):=by
 have hpc:=I.wr p (Zyn _ (Zyb.mpr rfl));have hpr:=I.rw p (Zyn _ (Zyb.mpr rfl));have key:∀q,q∈C\/q∈V++[p]->q∈C++[p]\/q∈V++Zlg wf p:=λq h=>by
  rcases h with h | h
  ·exact .inl (ZyT _ h)
  ·rcases Zyq.mp h with h | h
   ·exact .inr (ZyT _ h)
   ·exact .inl (Zyn _ h)
 refine⟨?_,λc h=>?_,λc h=>?_,λc h=>?_,λc h=>?_,λc h y hy q hq=>?_,λq hq=>key q (I.bg q hq)⟩
 ·rw[Zz3]
  refine⟨I.nd,by simp,λx hx y hy e=>?_⟩;rw[Zyb.mp hy]at e;exact hp (e▸hx)
 ·rcases Zyq.mp h with h | h
  ·exact I.cr c h
  ·rw[Zyb.mp h]; exact hpc
 ·rcases Zyq.mp h with h | h
  ·exact I.wr c (ZyT _ h)
  ·obtain⟨y,hy,hq⟩:=Zz9.mp h
   exact O.ok p hpc y hy c hq
 ·rcases Zyq.mp h with h | h
  ·exact I.rc c h
  ·rw[Zyb.mp h]; exact hpr
 ·rcases Zyq.mp h with h | h
  ·exact I.rw c (ZyT _ h)
  ·obtain⟨y,hy,hq⟩:=Zz9.mp h
   exact .step hpr hy hq
 ·rcases Zyq.mp h with h | h
  ·exact key q (I.cl c h y hy q hq)
  ·rw[Zyb.mp h]at hy
   exact .inr (Zyn _ (Zz9.mpr ⟨y,hy,hq⟩))
theorem ZsB{wf:Wf}{Ok:List Int->Prop}(O:ZqP wf Ok){c:List Int}(hc:Ok c):(Zlg wf c).length<=80:=by
 have key:∀ys:List Wy,(∀y∈ys,y∈wf c)->(ys.flatMap wyP).length<=8*ys.length:=by
  intro ys
  induction ys with
  | nil=>intro _; exact Zx2 0
  | cons y ys ih =>
   intro h;rw[List.flatMap_cons,Zyc,Zx8];have h1:=ih λx hx=>h x (ZxW _ hx);have h2:=O.ps c hc y (h y (ZxU ..));have h3:(wyP y).length=y.2.length:=by unfold wyP; rw[ZxS]
   omega
 have h1:=key (wf c) λ_ h=>h;have h2:=O.ys c hc;unfold Zlg;omega
theorem ZrI(ap:AP)(e0 e1 e2 e4:Option B):∀(ys:List Wy) (W:List (List Int)) (o:Option B),(∀y∈ys,y.2.length<=8)->W.length+8*ys.length<900000 ->
  ∃o',ZaG 5 (ZbX ap) (ys.map wyD) [e0,e1,e2,some (.ol (W.map tupI)),e4,o]=some (.nx [e0,e1,e2,some (.ol ((W++ys.flatMap wyP).map tupI)),e4,o'])
 | [],W,o,_,_=>⟨o,by rw[List.flatMap_nil,Zyu]; rfl⟩
 | y::ys,W,o,hds,hlen=>by
  rw[Zx8]at hlen;have hb:=hds y (ZxU ..);have hci:=Zew y.2 (by omega);have hpl:(wyP y).length<=8:=by unfold wyP; rw[ZxS]; exact hb
  have body:ZbX ap [e0,e1,e2,some (.ol (W.map tupI)),e4,some (.pl (wyD y))]=some (.nx [e0,e1,e2,some (.ol ((W++wyP y).map tupI)),e4,some (.pl (wyD y))]):=by
   have h1:ZiQ ZD (Zb (eIx (Zr 5) (eC (.int 1))) Zk) [e0,e1,e2,some (.ol (W.map tupI)),e4,some (.pl (wyD y))]=some (.ol ((wyP y).map tupI)):=by unfold ZiQ;show(match ZD [.list (y.2.map Zap)]with | some (.list ys)=>some (B.ol ys) | _=>none)=_;rw[hci];rfl
   unfold ZbX Zi9;rw[h1];show(if _ then _ else _)=_;rw[if_pos (by rw[ZxS,ZxS]; show _<1000000; omega),Zyr];rfl
  obtain⟨o',ih⟩:=ZrI ap e0 e1 e2 e4 ys (W++wyP y) (some (.pl (wyD y))) (λx hx=>hds x (ZxW _ hx)) (by rw[Zyc]; omega);refine⟨o',?_⟩;rw[List.flatMap_cons,<-Zzv,<-ih,ZxY];show(match ZbX ap [e0,e1,e2,some (.ol (W.map tupI)),e4,some (.pl (wyD y))]with | some (.nx r')=>_ | some (.ct r')=>_ | some (.bk r')=>_ | some (.rt d)=>_ | none=>_)=_;rw[body]
theorem ZjA(wf:Wf)(C:List (List Int))(p:List Int)(r:HM.Env)(i j:Nat)(h1:r[i]?=some (some (.pl (tupI p))))(h2:r[j]?=some (some (.ot (Zv wf C)))):tV (Zcb (Zd i) (Zr j)) r=some (!decide (p∈C)):=by
 have hk:Zbx (tupI p)=some (Zac p):=Zbk p;have hlk:=Zgq wf C p
 by_cases hp:p∈C
 ·rw[if_pos hp]at hlk
  simp[h1,h2,hk,hlk,hp]
 ·rw[if_neg hp]at hlk
  simp[h1,h2,hk,hlk,hp]
theorem Zpv(t:Nat)(cs:List D):Zk8 (fnD t cs)=some (t,cs):=rfl
section
variable{ap:AP}{wf:Wf}{Ok:List Int->Prop}(O:ZqP wf Ok){t:Nat}{cs:List D}(ha:∀c,Ok c->ap t cs [tupI c]=some (.list ((wf c).map wyD)))
include O ha
omit ha O in
theorem ZsP{C V:List (List Int)}{p:List Int}(e0 e1 o4 o5:Option B)(hp:p∈C) :
  Zbu ap [e0,e1,some (.ot (Zv wf C)),some (.ol ((V++[p]).map tupI)),o4,o5]=some (.nx [e0,e1,some (.ot (Zv wf C)),some (.ol (V.map tupI)),some (.pl (tupI p)),o5]):=by
 unfold Zbu;refine Z1 (P:=λq=>q=_) (r':=[e0,e1,some (.ot (Zv wf C)),some (.ol (V.map tupI)),some (.pl (tupI p)),o5]) ?_ ?_
 ·rw[Zyr]
  simp
 ·have ht:=ZjA wf C p [e0,e1,some (.ot (Zv wf C)),some (.ol (V.map tupI)),some (.pl (tupI p)),o5] 4 2 rfl rfl
  rw[decide_eq_true hp]at ht;unfold sIf;rw[ht];rfl
theorem Ztg{C V:List (List Int)}{p:List Int}(e0 o4 o5:Option B)(hp:p ∉ C)(hc:Ok p)(hC:C.length<1000)(hV:V.length<100000) :
  ∃o5',Zbu ap [e0,some (.pl (fnD t cs)),some (.ot (Zv wf C)),some (.ol ((V++[p]).map tupI)),o4,o5]=some (.nx [e0,some (.pl (fnD t cs)),some (.ot (Zv wf (C++[p]))),some (.ol ((V++Zlg wf p).map tupI)),some (.pl (tupI p)),o5']):=by
 have hdl:=O.ys p hc;obtain⟨o5',go⟩:=ZrI ap e0 (some (.pl (fnD t cs))) (some (.ot (Zv wf (C++[p])))) (some (.pl (tupI p))) (wf p) V o5 (λy hy=>O.ps p hc y hy) (by omega);refine⟨o5',?_⟩;unfold Zbu;refine Z1 (P:=λq=>q=_) (r':=[e0,some (.pl (fnD t cs)),some (.ot (Zv wf C)),some (.ol (V.map tupI)),some (.pl (tupI p)),o5]) ?_ ?_
 ·rw[Zyr]
  simp
 ·have ht:=ZjA wf C p [e0,some (.pl (fnD t cs)),some (.ot (Zv wf C)),some (.ol (V.map tupI)),some (.pl (tupI p)),o5] 4 2 rfl rfl
  rw[decide_eq_false hp]at ht;unfold sIf;rw[ht];show Zo _ _ _=_;have hk:Zbx (tupI p)=some (Zac p):=Zbk p;have hww:=ha p hc;have hcl:(Zv wf C).length<1000000:=by unfold Zv; rw[ZxS]; omega
  refine Z1 (P:=λq=>q=_) (r':=[e0,some (.pl (fnD t cs)),some (.ot (Zv wf (C++[p]))),some (.ol (V.map tupI)),some (.pl (tupI p)),o5]) ?_ ?_
  ·rw[<-Zsn hp]
   have hv:ZfV ap 1 (Zb (Zd 4) Zk) [e0,some (.pl (fnD t cs)),some (.ot (Zv wf C)),some (.ol (V.map tupI)),some (.pl (tupI p)),o5]=some (.list ((wf p).map wyD)):=by unfold ZfV;show(match Zk8 (fnD t cs)with | some (t,cs)=>_ | none=>none)=_;rw[Zpv];exact hww
   unfold ZhT;rw[hv];show(match Zbx (tupI p)with | some y=>_ | none=>none)=_;rw[hk];dsimp only;rw[if_pos (show _<big from hcl)];rfl
  ·have hlk:=Zgq wf (C++[p]) p
   rw[if_pos (Zyn _ (Zyb.mpr rfl))]at hlk;have hi:Zah (bOf (Zav (Zr 2) (Zd 4))) [e0,some (.pl (fnD t cs)),some (.ot (Zv wf (C++[p]))),some (.ol (V.map tupI)),some (.pl (tupI p)),o5]=some ((wf p).map wyD):=by simp[hk,hlk]
   unfold ZbF;rw[hi];dsimp only;rw[if_pos (by rw[ZxS]; show _<1000000; omega)];exact go
theorem ZeM(B:List (List Int))(e0:Option HM.B):∀(fuel:Nat) (C W:List (List Int)) (o4 o5:Option HM.B),ZgL wf Ok B C W->(128-C.length)*81+W.length<fuel->(128-C.length)*81+W.length<60000 ->
  ∃C' o4' o5',ZbI (tV (op2 gGt (Zbg (Zr 3)) (eC (.int 0)))) (Zbu ap) fuel [e0,some (.pl (fnD t cs)),some (.ot (Zv wf C)),some (.ol (W.map tupI)),o4,o5]=some (.nx [e0,some (.pl (fnD t cs)),some (.ot (Zv wf C')),some (.ol []),o4',o5'])/\ZgL wf Ok B C' []
 | 0,C,W,o4,o5,I,h,_=>by omega
 | fuel+1,C,W,o4,o5,I,h,hW=>by
  have hlen:=O.cs C I.nd I.cr
  by_cases hw:W=[]
  ·subst hw
   refine⟨C,o4,o5,?_,I⟩;unfold ZbI;have ht:(tV (op2 gGt (Zbg (Zr 3)) (eC (.int 0)))) [e0,some (.pl (fnD t cs)),some (.ot (Zv wf C)),some (.ol (([]:List (List Int)).map tupI)),o4,o5]=some false:=by simp
   rw[ht];rfl
  ·obtain⟨V,p,rfl⟩:∃V p,W=V++[p]:=⟨W.dropLast,W.getLast hw,(List.dropLast_concat_getLast hw).symm⟩
   rw[Zyc,Zy7]at h hW;have ht:(tV (op2 gGt (Zbg (Zr 3)) (eC (.int 0)))) [e0,some (.pl (fnD t cs)),some (.ot (Zv wf C)),some (.ol ((V++[p]).map tupI)),o4,o5]=some true:=by simp
   by_cases hp:p∈C
   ·obtain⟨C',o4',o5',g,J⟩:=ZeM B e0 fuel C V (some (.pl (tupI p))) o5 (I.old hp) (by omega) (by omega)
    refine⟨C',o4',o5',?_,J⟩;unfold ZbI;rw[ht];dsimp only;rw[ZsP e0 _ o4 o5 hp];exact g
   ·have hpc:=I.wr p (Zyn _ (Zyb.mpr rfl))
    have J0:=I.new O hp;have hl2:=O.cs _ J0.nd J0.cr;rw[Zyc,Zy7]at hl2;have hbl:=ZsB O hpc;obtain⟨q5,e⟩:=Ztg O ha (V:=V) e0 o4 o5 hp hpc (by omega) (by omega);obtain⟨C',o4',o5',g,J⟩:=ZeM B e0 fuel (C++[p]) (V++Zlg wf p) (some (.pl (tupI p))) q5 J0 (by rw[Zyc,Zyc,Zy7]; omega) (by rw[Zyc,Zyc,Zy7]; omega);refine⟨C',o4',o5',?_,J⟩;unfold ZbI;rw[ht];dsimp only;rw[e];exact g
theorem Zqr{B:List (List Int)}(hB:∀c∈B,Ok c)(hl:B.length<=100):∃L,ZbH ap [.list (B.map tupI),fnD t cs]=some (.dict (Zi (Zv wf L)))/\ZgL wf Ok B L []:=by
 have I0:ZgL wf Ok B [] B:=⟨.nil,λc h=>(by simp at h),hB,λc h=>(by simp at h),λc h=>.beg h,λc h=>(by simp at h),λp h=>.inr h⟩;obtain⟨L,o4,o5,g,J⟩:=ZeM O ha B (some (.pl (.list (B.map tupI)))) 100000 [] B none none I0 (by simp; omega) (by simp; omega);refine⟨L,?_,J⟩;show Zal (Zc4 ap [some (.pl (.list (B.map tupI))),some (.pl (fnD t cs)),none,none,none,none])=_;have e:Zc4 ap [some (.pl (.list (B.map tupI))),some (.pl (fnD t cs)),none,none,none,none]=some (.rt (.dict (Zi (Zv wf L)))):=by unfold Zc4;refine Z1 (P:=λq=>q=_) (r':=[some (.pl (.list (B.map tupI))),some (.pl (fnD t cs)),some (.ot (Zv wf [])),none,none,none]) rfl ?_;refine Z1 (P:=λq=>q=_) (r':=[some (.pl (.list (B.map tupI))),some (.pl (fnD t cs)),some (.ot (Zv wf [])),some (.ol (B.map tupI)),none,none]) rfl ?_;refine Z1 (P:=λq=>q=_) g ?_;simp
 rw[e];rfl
end
theorem Zd0(n:Nat)(p:List Int):noF (n+1) (tupI p)=true:=by show(p.map dI).all (noF n)=true;rw[List.all_map];exact Zx0.mpr λx _=>by cases n<;>rfl
theorem Zur(n:Nat)(i:Int):noF n (.int i)=true:=by cases n<;>rfl
theorem Zd1{n:Nat}{ds:List D}(h:∀d∈ds,noF n d=true):noF (n+1) (.tuple ds)=true:=Zx0.mpr h
theorem Zn9{n:Nat}{ds:List D}(h:∀d∈ds,noF n d=true):noF (n+1) (.list ds)=true:=Zx0.mpr h
theorem Zsq(n:Nat)(p:List Int × List Int):noF (n+2) (Zap p)=true:=Zd1 λd hd=>by
 rcases Zye.mp hd with e | hd
 ·subst e; exact Zd0 n _
 ·rw[Zyb.mp hd]; exact Zd0 n _
theorem Zvo{n:Nat}{y:Wy}(h:noF (n+3) y.1=true):noF (n+4) (wyD y)=true:=Zd1 λd hd=>by
 rcases Zye.mp hd with e | hd
 ·subst e; exact h
 ·rw[Zyb.mp hd]
  exact Zn9 λd hd=>by obtain⟨p,_,rfl⟩:=Zx3.mp hd;exact Zsq n p
theorem ZwP{wf:Wf}{n:Nat}{L:List (List Int)}(h:∀c∈L,∀y∈wf c,noF (n+3) y.1=true):noF (n+6) (.dict (Zi (Zv wf L)))=true:=by show(Zi (Zv wf L)).all _=true;refine Zx0.mpr λp hp=>?_;unfold Zi Zv at hp;rw[Zyg]at hp;obtain⟨c,hc,rfl⟩:=Zx3.mp hp;show noF (n+5) (.list ((wf c).map wyD))=true;exact Zn9 λd hd=>by obtain⟨y,hy,rfl⟩:=Zx3.mp hd;exact Zvo (h c hc y hy)
theorem Zwy(w:Wk):noF 20 w.d=true:=by
 refine Zd1 λd hd=>?_;have h:∀x:List (List Int),∀d∈x.map tupI,noF 17 d=true:=λx d hd=>by obtain⟨p,_,rfl⟩:=Zx3.mp hd;exact Zd0 16 p
 have hd:=Zye.mp hd;rcases hd with e | hd
 ·subst e; rfl
 rcases Zye.mp hd with e | hd
 ·subst e
  exact Zd1 λd hd=>by obtain⟨x,_,rfl⟩:=Zx3.mp hd;exact Zd1 (h x)
 rcases Zye.mp hd with e | hd
 ·subst e
  exact Zd1 λd hd=>by obtain⟨x,_,rfl⟩:=Zx3.mp hd;exact Zd0 17 x
 rcases Zye.mp hd with e | hd
 ·subst e; exact Zd0 18 _
 ·rw[Zyb.mp hd]; exact Zd0 18 _
end HG5
namespace HG5
open PySem HM HG HG4
def oI:Option Int->D
 | some k=>.int k
 | none=>.none
abbrev Cb:=Wy->Tb->Option Int
def ZcB(cb:Cb)(ys:List Wy)(M:Tb):Option Int:=(ys.filterMap λy=>cb y M).min?
def Za3(wf:Wf)(cb:Cb)(L:List (List Int))(M:Tb):Tb:=L.filterMap λc=>if Zy M c then none else(ZcB cb (wf c) M).map λk=>(c,k)
def Zb7(T:Tb):Option Int:=(T.map (·.2)).min?
def Zff(T:Tb):List (List Int):=(T.filter λp=>some p.2==Zb7 T).map (·.1)
def Zbs(found:List (List Int))(k:Int)(M:Tb):Tb:=found.foldl (λM c=>putD M c k) M
inductive Zj3(wf:Wf)(cb:Cb)(L:List (List Int)):Tb->Option Int->List (List Int)->Tb->Prop where
 | done {M:Tb} {k:Option Int}:Zj3 wf cb L M k [] M
 | step {M R:Tb} {k:Int} {found:List (List Int)} (hf:found≠[]) (h:Zj3 wf cb L (Zbs found k M) (Zb7 (Za3 wf cb L (Zbs found k M))) (Zff (Za3 wf cb L (Zbs found k M))) R):Zj3 wf cb L M (some k) found R
theorem Zn1:∀os:List (Option Int),ZaO ((os.filter ZAy).map oI)=some (os.filterMap id)
 | []=>rfl
 | none::os=>Zn1 os
 | some k::os=>by show(ZaO ((os.filter ZAy).map oI)).map (k::·)=_;rw[Zn1 os];rfl
theorem Zmi{ap:AP}{t:Nat}{cs:List D}{cb:Cb}{ys:List Wy}{M:Tb}(hy:ys.length<1000)(ha:∀y∈ys,ap t cs [wyD y,.dict (Zi (encM M))]=some (oI (cb y M))) :
  ZbK ap [.list (ys.map wyD),.dict (Zi (encM M)),fnD t cs]=some (oI (ZcB cb ys M)):=by
 show Zal (Ze7 ap [some (.pl (.list (ys.map wyD))),some (.pl (.dict (Zi (encM M)))),some (.pl (fnD t cs)),none])=_;have hb:ys.length<big:=by show _<1000000; omega
 have e1:ZaK Zam (ZfV ap 3 (Zb (Zd 0) (Zb (Zd 2) Zk))) [some (.pl (.list (ys.map wyD))),some (.pl (.dict (Zi (encM M)))),some (.pl (fnD t cs)),none] (ys.map wyD)=some ((ys.map λy=>cb y M).map oI):=by
  rw[Zbl wyD (λy=>oI (cb y M)),Zyg]
  ·rfl
  ·intro y h
   show(match Zk8 (fnD t cs)with | some (t,cs)=>_ | none=>none)=_;rw[Zpv];exact ha y h
 have e2:ZaK (tV (op2 Zfu (Zd 0) (eC .none))) (Zd 0) [some (.pl (.list (ys.map wyD))),some (.pl (.dict (Zi (encM M)))),some (.pl (fnD t cs)),some (.pl (.list ((ys.map λy=>cb y M).map oI)))] ((ys.map λy=>cb y M).map oI)=some (((ys.map λy=>cb y M).filter ZAy).map oI):=by
  rw[Zb5 oI ZAy oI]
  ·intro o _
   cases o<;>rfl
  ·intro o _ _
   rfl
 unfold Ze7;refine Z1 (P:=λq=>Zal q=_) (r':=[some (.pl (.list (ys.map wyD))),some (.pl (.dict (Zi (encM M)))),some (.pl (fnD t cs)),some (.ol ((ys.map λy=>cb y M).map oI))]) ?_ ?_
 ·unfold Z8 ZR
  show Zzo _ (if(ys.map wyD).length<big then _ else _)=_;rw[if_pos (by rw[ZxS]; exact hb),e1];rfl
 ·show Zal (Zzo Out.rt (Zfq _ [some (.pl (.list (ys.map wyD))),some (.pl (.dict (Zi (encM M)))),some (.pl (fnD t cs)),some (.pl (.list ((ys.map λy=>cb y M).map oI)))]))=_
  have e3:ZR (Zah (bOf (Zd 3))) (tV (op2 Zfu (Zd 0) (eC .none))) (Zd 0) [some (.pl (.list (ys.map wyD))),some (.pl (.dict (Zi (encM M)))),some (.pl (fnD t cs)),some (.pl (.list ((ys.map λy=>cb y M).map oI)))]=some (.ol (((ys.map λy=>cb y M).filter ZAy).map oI)):=by unfold ZR;show(if((ys.map λy=>cb y M).map oI).length<big then _ else none)=_;rw[if_pos (by rw[ZxS,ZxS]; exact hb),e2];rfl
  unfold Zfq;rw[e3];show Zal (Zzo Out.rt (match ZaO (((ys.map λy=>cb y M).filter ZAy).map oI)with | some ns=>some (match ns.min? with | some i=>ZyI i | none=>.none) | none=>none))=_;rw[Zn1];show some (match((ys.map λy=>cb y M).filterMap id).min? with | some i=>ZyI i | none=>.none)=_;unfold ZcB;rw[List.filterMap_map];show some (match(ys.filterMap λy=>cb y M).min? with | some i=>ZyI i | none=>.none)=_;cases(ys.filterMap λy=>cb y M).min?<;>rfl
theorem Zs0{M:Tb}{c:List Int}{k:Int}(h:Zy M c=false):putD M c k=M++[(c,k)]:=by unfold putD;rw[if_neg];intro z;obtain⟨p,hp,e⟩:=ZyM.mp z;have e:=of_decide_eq_true e;unfold Zy Zn at h;rw[Zzi]at h;have:(M.find? λp=>decide (p.1=c)).isSome=true:=ZBK.mpr ⟨p,hp,decide_eq_true e⟩;rw[h]at this;cases this
theorem Zp3(M N:Tb)(c:List Int):Zy (M++N) c=(Zy M c||Zy N c):=by unfold Zy Zn;rw[ZBH,Zzi,Zzi,Zzi,Option.isSome_or]
theorem Zum{M:Tb}{c:List Int}:Zy M c=true↔∃k,(c,k)∈M:=by
 unfold Zy Zn;rw[Zzi,ZBK]
 constructor
 ·rintro ⟨⟨c',k⟩,h,e⟩
  have e:=of_decide_eq_true e;exact⟨k,by rw[<-e]; exact h⟩
 ·rintro ⟨k,h⟩
  exact⟨_,h,decide_eq_true rfl⟩
theorem ZtY{wf:Wf}{cb:Cb}{L:List (List Int)}{M:Tb}{c:List Int}{k:Int}:(c,k)∈Za3 wf cb L M↔c∈L/\Zy M c=false/\ZcB cb (wf c) M=some k:=by
 unfold Za3;rw[Zza]
 constructor
 ·rintro ⟨c',h1,h2⟩
  split at h2
  ·cases h2
  ·rename_i hn
   obtain⟨k',h3,h4⟩:=ZxT.mp h2;cases h4;exact⟨h1,by simpa using hn,h3⟩
 ·rintro ⟨h1,h2,h3⟩
  exact⟨c,h1,by rw[h2,h3]; rfl⟩
section
variable{ap:AP}{wf:Wf}{L:List (List Int)}{t:Nat}{cs:List D}{cb:Cb}(hnd:L.Nodup)(hlen:L.length<=128)(hys:∀c∈L,(wf c).length<1000)(ha:∀c∈L,∀y∈wf c,∀M,ap t cs [wyD y,.dict (Zi (encM M))]=some (oI (cb y M)))
include hys ha
theorem ZpK{M:Tb}:∀(K:List (List Int)) (acc:Tb) (o4 o5:Option B),(∀c∈K,c∈L)->K.Nodup->(∀c∈K,Zy acc c=false)->Zbr o4=false->Zbr o5=false->acc.length+K.length<100000 ->
  ∃p4 p5,Zbr p4=false/\Zbr p5=false/\ZaG 4 (Z6 ap) (K.map tupI) [some (.hd (Zi (Zv wf L))),some (.pl (.dict (Zi (encM M)))),some (.pl (fnD t cs)),some (.ot (encM acc)),o4,o5] =
   some (.nx [some (.hd (Zi (Zv wf L))),some (.pl (.dict (Zi (encM M)))),some (.pl (fnD t cs)),some (.ot (encM (acc++Za3 wf cb K M))),p4,p5])
 | [],acc,o4,o5,_,_,_,h4,h5,_=>⟨o4,o5,h4,h5,by show some (Out.nx _)=_; rw[show Za3 wf cb [] M=[] from rfl,Zyu]⟩
 | c::K,acc,o4,o5,hK,hn,hacc,h4,h5,hl=>by
  rw[Zx8]at hl;have hc:=hK c (ZxU ..);have hk:Zbx (tupI c)=some (Zac c):=Zbk c;have hlk:=Zd2 M c;have hlr:=Zgq wf L c;rw[if_pos hc]at hlr;have hlc:=Zmi (ap:=ap) (t:=t) (cs:=cs) (cb:=cb) (ys:=wf c) (M:=M) (hys c hc) λy hy=>ha c hc y hy M;have hcons:Za3 wf cb (c::K) M=(if Zy M c then[]else match ZcB cb (wf c) M with | some k=>[(c,k)] | none=>[])++Za3 wf cb K M:=by
   unfold Za3;rw[Zy2];cases Zy M c with
   | true=>rfl
   | false=>cases ZcB cb (wf c) M<;>rfl
  have step:∀(acc':Tb) (p5:Option B),Zbr p5=false->(∀x∈K,Zy acc' x=false)->acc'.length+K.length<100000->Z6 ap [some (.hd (Zi (Zv wf L))),some (.pl (.dict (Zi (encM M)))),some (.pl (fnD t cs)),some (.ot (encM acc)),some (.pl (tupI c)),o5] =
     some (.nx [some (.hd (Zi (Zv wf L))),some (.pl (.dict (Zi (encM M)))),some (.pl (fnD t cs)),some (.ot (encM acc')),some (.pl (tupI c)),p5])->acc'++Za3 wf cb K M=acc++Za3 wf cb (c::K) M ->
    ∃p4 p5,Zbr p4=false/\Zbr p5=false/\ZaG 4 (Z6 ap) ((c::K).map tupI) [some (.hd (Zi (Zv wf L))),some (.pl (.dict (Zi (encM M)))),some (.pl (fnD t cs)),some (.ot (encM acc)),o4,o5] =
     some (.nx [some (.hd (Zi (Zv wf L))),some (.pl (.dict (Zi (encM M)))),some (.pl (fnD t cs)),some (.ot (encM (acc++Za3 wf cb (c::K) M))),p4,p5]):=λacc' p5 hp5 hx hl' e eq=>by
   obtain⟨q4,q5,g4,g5,ih⟩:=ZpK (M:=M) K acc' (some (.pl (tupI c))) p5 (λx hx=>hK x (ZxW _ hx)) (ZyL.mp hn).2 hx rfl hp5 hl';refine⟨q4,q5,g4,g5,?_⟩;rw[<-eq,<-ih,ZxY];show(match Z6 ap [some (.hd (Zi (Zv wf L))),some (.pl (.dict (Zi (encM M)))),some (.pl (fnD t cs)),some (.ot (encM acc)),some (.pl (tupI c)),o5]with | some (.nx r')=>_ | some (.ct r')=>_ | some (.bk r')=>_ | some (.rt d)=>_ | none=>_)=_;rw[e]
  have hKa:∀x∈K,Zy acc x=false:=λx hx=>hacc x (ZxW _ hx);cases hq:Zn M c with
  | some k =>
   have hh:Zy M c=true:=by unfold Zy; rw[hq]; rfl
   rw[hq]at hlk;refine step acc o5 h5 hKa (by omega) ?_ (by rw[hcons,hh]; rfl);have ht:tV (Zcb (Zd 4) (Zr 1)) [some (.hd (Zi (Zv wf L))),some (.pl (.dict (Zi (encM M)))),some (.pl (fnD t cs)),some (.ot (encM acc)),some (.pl (tupI c)),o5]=some false:=by simp[dec_enc,hk,hlk]
   unfold Z6 sIf;rw[ht];rfl
  | none =>
   have hh:Zy M c=false:=by unfold Zy; rw[hq]; rfl
   rw[hq]at hlk;have ht:tV (Zcb (Zd 4) (Zr 1)) [some (.hd (Zi (Zv wf L))),some (.pl (.dict (Zi (encM M)))),some (.pl (fnD t cs)),some (.ot (encM acc)),some (.pl (tupI c)),o5]=some true:=by simp[dec_enc,hk,hlk]
   have hca:Zj (ZbK ap) (Zb (Zav (Zr 0) (Zd 4)) (Zb (Zd 1) (Zb (Zd 2) Zk))) [some (.hd (Zi (Zv wf L))),some (.pl (.dict (Zi (encM M)))),some (.pl (fnD t cs)),some (.ot (encM acc)),some (.pl (tupI c)),o5]=some (oI (ZcB cb (wf c) M)):=by
    have hg:Zav (Zr 0) (Zd 4) [some (.hd (Zi (Zv wf L))),some (.pl (.dict (Zi (encM M)))),some (.pl (fnD t cs)),some (.ot (encM acc)),some (.pl (tupI c)),o5]=some (.list ((wf c).map wyD)):=by simp[dec_enc,hk,hlr]
    unfold Zj Zb;rw[hg];exact hlc
   have hs5:Zai 5 (Zj (ZbK ap) (Zb (Zav (Zr 0) (Zd 4)) (Zb (Zd 1) (Zb (Zd 2) Zk)))) [some (.hd (Zi (Zv wf L))),some (.pl (.dict (Zi (encM M)))),some (.pl (fnD t cs)),some (.ot (encM acc)),some (.pl (tupI c)),o5]=some (.nx [some (.hd (Zi (Zv wf L))),some (.pl (.dict (Zi (encM M)))),some (.pl (fnD t cs)),some (.ot (encM acc)),some (.pl (tupI c)),some (.pl (oI (ZcB cb (wf c) M)))]):=by unfold Zai;rw[hca];rfl
   cases hle:ZcB cb (wf c) M with
   | none=>rw[hle]at hs5;refine step acc (some (.pl .none)) rfl hKa (by omega) ?_ (by rw[hcons,hh,hle]; rfl);unfold Z6 sIf;rw[ht];dsimp only;refine Z1 (P:=λq=>q=_) hs5 ?_;rfl
   | some k =>
    rw[hle]at hs5;have hput:=Zs0 (k:=k) (hacc c (ZxU ..));have hpe:=Zog acc c k;have hal:(encM acc).length<1000000:=by unfold encM; rw[ZxS]; omega
    refine step (acc++[(c,k)]) (some (.pl (.int k))) rfl (λx hx=>?_) (by rw[Zyc,Zy7]; omega) ?_ (by rw[hcons,hh,hle,Zzv]; rfl)
    ·rw[Zp3,hKa x hx,ZCq]
     cases hb:Zy [(c,k)] x with
     | false=>rfl
     | true=>obtain⟨k',hm⟩:=Zum.mp hb;cases Zyb.mp hm;exact absurd hx (ZyL.mp hn).1
    ·unfold Z6 sIf
     rw[ht];dsimp only;refine Z1 (P:=λq=>q=_) hs5 ?_;have h2:tV (op2 Zfu (Zd 5) (eC .none)) [some (.hd (Zi (Zv wf L))),some (.pl (.dict (Zi (encM M)))),some (.pl (fnD t cs)),some (.ot (encM acc)),some (.pl (tupI c)),some (.pl (oI (some k)))]=some true:=rfl;rw[h2,<-hput,<-hpe];show(match Zbx (tupI c)with | some y=>_ | none=>none)=_;rw[hk];show(if(encM acc).length<big then _ else none)=_;rw[if_pos (show _<big from hal)];rfl
include hnd hlen
theorem Zme(M:Tb):Zbq ap [.dict (Zi (Zv wf L)),.dict (Zi (encM M)),fnD t cs]=some (encM (Za3 wf cb L M)):=by
 obtain⟨p4,p5,g4,g5,go⟩:=ZpK hys ha (M:=M) L [] none none (λ_ h=>h) hnd (λ_ _=>rfl) rfl rfl (by simp; omega);have hw:Za4 0 [some (.hd (Zi (Zv wf L))),some (.pl (.dict (Zi (encM M)))),some (.pl (fnD t cs)),some (.ot (encM [])),none,none]=some (L.map tupI):=by show(ZeI (Zi (Zv wf L))).map _=_;rw[dec_enc,<-Ziq wf L];rfl
 have hf:ZbF 4 (Za4 0) (Z6 ap) [some (.hd (Zi (Zv wf L))),some (.pl (.dict (Zi (encM M)))),some (.pl (fnD t cs)),some (.ot (encM [])),none,none]=some (.nx [some (.hd (Zi (Zv wf L))),some (.pl (.dict (Zi (encM M)))),some (.pl (fnD t cs)),some (.ot (encM (Za3 wf cb L M))),p4,p5]):=by unfold ZbF;rw[hw];dsimp only;rw[if_pos (by rw[ZxS]; show _<1000000; omega),go];rfl
 have hh:ZeA 0 (ZbF 4 (Za4 0) (Z6 ap)) [some (.pl (.dict (Zi (Zv wf L)))),some (.pl (.dict (Zi (encM M)))),some (.pl (fnD t cs)),some (.ot (encM [])),none,none]=some (.nx [some (.pl (.dict (Zi (Zv wf L)))),some (.pl (.dict (Zi (encM M)))),some (.pl (fnD t cs)),some (.ot (encM (Za3 wf cb L M))),p4,p5]):=by
  show(match ZbF 4 (Za4 0) (Z6 ap) [some (.hd (Zi (Zv wf L))),some (.pl (.dict (Zi (encM M)))),some (.pl (fnD t cs)),some (.ot (encM [])),none,none]with | some (.nx r')=>_ | some (.rt d)=>_ | _=>none)=_;rw[hf];have a2:([none,some (B.pl (.dict (Zi (encM M)))),some (.pl (fnD t cs)),some (.ot (encM (Za3 wf cb L M))),p4,p5]:HM.Env).all (λq=>!Zbr q)=true:=by simp only[Zy5,ZCC,g4,g5];rfl
  show(if([none,some (B.pl (.dict (Zi (encM M)))),some (.pl (fnD t cs)),some (.ot (encM (Za3 wf cb L M))),p4,p5]:HM.Env).all (λq=>!Zbr q)=true then _ else _)=_;rw[if_pos a2];rfl
 unfold Zbq newOf;rw[if_pos (show([ZCE (Zi (Zv wf L)),ZCE (Zi (encM M)),fnD t cs]:List D).length=3 from rfl)];show(match Z8 3 fDt [some (.pl (.dict (Zi (Zv wf L)))),some (.pl (.dict (Zi (encM M)))),some (.pl (fnD t cs)),none,none,none]with | some (.nx r')=>ZjY (ZeA 0 (ZbF 4 (Za4 0) (Z6 ap))) (Znx 3) r' | _=>none)=_;show ZjY (ZeA 0 (ZbF 4 (Za4 0) (Z6 ap))) (Znx 3) [some (.pl (.dict (Zi (Zv wf L)))),some (.pl (.dict (Zi (encM M)))),some (.pl (fnD t cs)),some (.ot (encM [])),none,none]=_;unfold ZjY;rw[hh];rfl
end
end HG5
namespace HG5
open PySem HM HG HG4
theorem ZpI(ap:AP)(e0 e1 e2 e5 e7:Option B)(v:Int):∀(ms:List (List Int)) (M:Tb) (o:Option B),M.length+ms.length<100000->Zbr o=false ->
  ∃p,Zbr p=false/\ZaG 6 (Zc8 ap) (ms.map tupI) [e0,e1,e2,some (.ot (encM M)),some (.pl (dI v)),e5,o,e7]=some (.nx [e0,e1,e2,some (.ot (encM (Zbs ms v M))),some (.pl (dI v)),e5,p,e7])
 | [],M,o,_,h=>⟨o,h,rfl⟩
 | c::ms,M,o,hlen,_=>by
  rw[Zx8]at hlen;have hml:(encM M).length<1000000:=by unfold encM; rw[ZxS]; omega
  have hk:Zbx (tupI c)=some (Zac c):=Zbk c;have hput:=Zog M c v;have hpl:=Zpd c v M;have e:Zc8 ap [e0,e1,e2,some (.ot (encM M)),some (.pl (dI v)),e5,some (.pl (tupI c)),e7]=some (.nx [e0,e1,e2,some (.ot (encM (putD M c v))),some (.pl (dI v)),e5,some (.pl (tupI c)),e7]):=by rw[<-hput];simp[Zc8,hk,hml]
  obtain⟨p,hp,ih⟩:=ZpI ap e0 e1 e2 e5 e7 v ms (putD M c v) (some (.pl (tupI c))) (by omega) rfl;refine⟨p,hp,?_⟩;show _=some (Out.nx [e0,e1,e2,some (.ot (encM (Zbs ms v (putD M c v)))),some (.pl (dI v)),e5,p,e7]);rw[ZxY,<-ih];show(match Zc8 ap [e0,e1,e2,some (.ot (encM M)),some (.pl (dI v)),e5,some (.pl (tupI c)),e7]with | some (.nx r')=>_ | some (.ct r')=>_ | some (.bk r')=>_ | some (.rt d)=>_ | none=>_)=_;rw[e]
theorem ZlE(T:Tb):((encM T).map λp=>Zyv (p.1.map ZaL))=(T.map (·.1)).map tupI:=by unfold encM;rw[Zyg,Zyg];refine Zzx λp _=>?_;show Zyv ((p.1.map ZzC).map ZaL)=Zyv (p.1.map dI);rw[Zyg];rfl
def NdT(T:Tb):Prop:=(T.map (·.1)).Nodup
theorem Zpr{T:Tb}(h:NdT T){p:List Int × Int}(hp:p∈T):Zn T p.1=some p.2:=by
 induction T with
 | nil=>simp at hp
 | cons q T ih =>
  obtain⟨c,k⟩:=q;rw[ZbM];unfold NdT at h;rw[ZxY,ZyL]at h;rcases Zye.mp hp with e | e
  ·subst e; rw[if_pos rfl]
  ·rw[if_neg λz=>h.1 (by rw[z]; exact Zx3.mpr ⟨p,e,rfl⟩)]
   exact ih h.2 e
theorem ZvF{wf:Wf}{cb:Cb}{M:Tb}:∀{L:List (List Int)},L.Nodup->NdT (Za3 wf cb L M):=by
 intro L h;unfold NdT;have:((Za3 wf cb L M).map (·.1)).Sublist L:=by
  unfold Za3;rw[List.map_filterMap]
  clear h
  induction L with
  | nil=>exact .slnil
  | cons c L ih =>
   rw[Zy2];cases Zy M c with
   | true=>exact ih.cons c
   | false=>cases ZcB cb (wf c) M with
    | none=>exact ih.cons c
    | some k=>exact ih.cons₂ c
 exact h.sublist this
theorem ZpH{wf:Wf}{cb:Cb}{L:List (List Int)}{M:Tb}:(Za3 wf cb L M).length<=L.length:=ZBZ ..
section
variable{T:Tb}(hT:NdT T)(hl:T.length<100000)
include hT hl
theorem Zrk(r:HM.Env)(h7:r[7]?=some (some (.hd (Zi (encM T))))):ZR (Za4 7) Zam (Zav (Zr 8) (Zd 0)) r=some (.ol ((T.map (·.2)).map dI)):=by
 have hw:Za4 7 r=some ((T.map (·.1)).map tupI):=by unfold Za4;rw[h7];show(ZeI (Zi (encM T))).map _=_;rw[dec_enc,<-ZlE T];rfl
 have hg:ZaK Zam (Zav (Zr 8) (Zd 0)) r ((T.map (·.1)).map tupI)=some ((T.map (·.2)).map dI):=by rw[Zyg,Zyg];have:=Zbl (e:=Zav (Zr 8) (Zd 0)) (r:=r) (λp:List Int × Int=>tupI p.1) (λp=>dI p.2) T (λp hp=>by have hk:Zbx (tupI p.1)=some (Zac p.1):=Zbk p.1;have hlk:=Zd2 T p.1;rw[Zpr hT hp]at hlk;simp[h7,dec_enc,hk,hlk]);exact this
 unfold ZR;rw[hw];dsimp only;rw[if_pos (by rw[ZxS,ZxS]; show _<1000000; omega),hg];rfl
theorem ZrB{k:Option Int}(r:HM.Env)(h7:r[7]?=some (some (.hd (Zi (encM T)))))(h4:r[4]?=some (some (.pl (oI k)))):ZR (Za4 7) (tV (op2 gEq (Zav (Zr 8) (Zd 0)) (Zd 5))) (Zd 0) r=some (.ol (((T.filter λp=>some p.2==k).map (·.1)).map tupI)):=by
 have hw:Za4 7 r=some ((T.map (·.1)).map tupI):=by unfold Za4;rw[h7];show(ZeI (Zi (encM T))).map _=_;rw[dec_enc,<-ZlE T];rfl
 have hg:ZaK (tV (op2 gEq (Zav (Zr 8) (Zd 0)) (Zd 5))) (Zd 0) r ((T.map (·.1)).map tupI)=some (((T.filter λp=>some p.2==k).map (·.1)).map tupI):=by
  rw[Zyg,Zyg];have:=Zb5 (c:=tV (op2 gEq (Zav (Zr 8) (Zd 0)) (Zd 5))) (e:=Zd 0) (r:=r) (λp:List Int × Int=>tupI p.1) (λp=>some p.2==k) (λp=>tupI p.1) T (λp hp=>by
   have hk:Zbx (tupI p.1)=some (Zac p.1):=Zbk p.1;have hlk:=Zd2 T p.1;rw[Zpr hT hp]at hlk;have h1:Zav (Zr 8) (Zd 0) (some (.pl (tupI p.1))::r)=some (.int p.2):=by simp[h7,dec_enc,hk,hlk]
   have h2:Zd 5 (some (B.pl (tupI p.1))::r)=some (oI k):=by simp[h4]
   unfold tV op2;rw[h1,h2];cases k with
   | none=>show(match gEq (.int p.2) .none with | some (.bool b)=>some b | _=>none)=_;rw[Zg5 (Ze0 1 _) (ZuH 1) (by decide) (by decide) (by simp)];rfl
   | some k =>
    show(match gEq (.int p.2) (.int k)with | some (.bool b)=>some b | _=>none)=_
    by_cases e:p.2=k
    ·rw[e,Zf9 (Ze0 1 _) (by decide)]
     simp
    ·rw[Zg5 (Ze0 1 _) (Ze0 1 _) (by decide) (by decide) (by simpa using e)]
     simp[e]) (λp _ _=>by simp)
  exact this
 unfold ZR;rw[hw];dsimp only;rw[if_pos (by rw[ZxS,ZxS]; show _<1000000; omega),hg];rfl
end
section
variable{w:Wk}(hv:Wk.V w){ap:AP}{wf:Wf}{L:List (List Int)}{t:Nat}{cs:List D}{cb:Cb}(hnd:L.Nodup)(hlen:L.length<=128)(hcr:∀c∈L,Cr w.many c)(hys:∀c∈L,(wf c).length<1000)(ha:∀c∈L,∀y∈wf c,∀M,ap t cs [wyD y,.dict (Zi (encM M))]=some (oI (cb y M)))
include hnd hlen hys ha
theorem Zqj{M:Tb}{k:Int}{found:List (List Int)}{o6 o7:Option B}(h6:Zbr o6=false)(h7:Zbr o7=false)(hf:found.length<=128)(hM:M.length<50000) :
  ∃p6 p7,Zbr p6=false/\Zbr p7=false/\Zc9 ap [some (.pl w.d),some (.pl (.dict (Zi (Zv wf L)))),some (.pl (fnD t cs)),some (.ot (encM M)),some (.pl (dI k)),some (.ol (found.map tupI)),o6,o7] =
   some (.nx [some (.pl w.d),some (.pl (.dict (Zi (Zv wf L)))),some (.pl (fnD t cs)),some (.ot (encM (Zbs found k M))),some (.pl (oI (Zb7 (Za3 wf cb L (Zbs found k M))))),some (.ol ((Zff (Za3 wf cb L (Zbs found k M))).map tupI)),p6,p7]):=by
 obtain⟨p6,hp6,e1⟩:=ZpI ap (some (.pl w.d)) (some (.pl (.dict (Zi (Zv wf L))))) (some (.pl (fnD t cs))) (some (.pl (.list (found.map tupI)))) o7 k found M o6 (by omega) h6;generalize hM':Zbs found k M=M' at *;have hnx:=Zme hnd hlen hys ha M';have hT:NdT (Za3 wf cb L M'):=ZvF hnd;have hTl:(Za3 wf cb L M').length<100000:=by have:=ZpH (wf:=wf) (cb:=cb) (L:=L) (M:=M'); omega
 generalize hO:Za3 wf cb L M'=T at *;refine⟨p6,some (.pl (.dict (Zi (encM T)))),hp6,rfl,?_⟩;unfold Zc9;refine Z1 (P:=λq=>q=_) (r':=[some (.pl w.d),some (.pl (.dict (Zi (Zv wf L)))),some (.pl (fnD t cs)),some (.ot (encM M')),some (.pl (dI k)),some (.pl (.list (found.map tupI))),p6,o7]) ?_ ?_
 ·unfold ZgO ZkD ZbF
  have hfb:found.length<1000000:=by omega
  simp[hfb];exact e1
 ·refine Z1 (P:=λq=>q=_) (r':=[some (.pl w.d),some (.pl (.dict (Zi (Zv wf L)))),some (.pl (fnD t cs)),some (.ot (encM M')),some (.pl (dI k)),some (.pl (.list (found.map tupI))),p6,some (.ot (encM T))]) ?_ ?_
  ·have hcl:ZiF (Zbq ap) (Zb (Zd 1) (Zb (Zqb (Zr 3)) (Zb (Zd 2) Zk))) [some (.pl w.d),some (.pl (.dict (Zi (Zv wf L)))),some (.pl (fnD t cs)),some (.ot (encM M')),some (.pl (dI k)),some (.pl (.list (found.map tupI))),p6,o7]=some (.ot (encM T)):=by
    unfold ZiF;show(match Zbq ap [.dict (Zi (Zv wf L)),.dict (Zi (encM M')),fnD t cs]with | some kvs=>if kvs.all (λp=>ZkB p.2)then some (B.ot kvs)else none | none=>none)=_;rw[hnx];have hfl:(encM T).all (λp=>ZkB p.2)=true:=by unfold encM;rw[List.all_map];exact Zx0.mpr λp _=>rfl
    dsimp only;rw[if_pos hfl]
   unfold Z8;rw[hcl];rfl
  ·have a1:∀x4 x5:D,([some (B.pl w.d),some (.pl (.dict (Zi (Zv wf L)))),some (.pl (fnD t cs)),some (.ot (encM M')),some (.pl x4),some (.pl x5),p6,some (.pl (.dict (Zi (encM T))))]:HM.Env).all (λq=>!Zbr q)=true:=λx4 x5=>by
    simp only[Zy5,ZCC,hp6];rfl
   have a2:∀x4:D,∀x5:B,Zbr (some x5)=false->([some (B.pl w.d),some (.pl (.dict (Zi (Zv wf L)))),some (.pl (fnD t cs)),some (.ot (encM M')),some (.pl x4),some x5,p6,none]:HM.Env).all (λq=>!Zbr q)=true:=λx4 x5 hx=>by simp only[Zy5,ZCC,hp6,hx];rfl
   have hv1:=Zrk hT hTl [some (.pl w.d),some (.pl (.dict (Zi (Zv wf L)))),some (.pl (fnD t cs)),some (.ot (encM M')),some (.pl (dI k)),some (.pl (.list (found.map tupI))),p6,some (.hd (Zi (encM T)))] rfl;have hm1:Zai 4 (Zfq (ZR (Za4 7) Zam (Zav (Zr 8) (Zd 0)))) [some (.pl w.d),some (.pl (.dict (Zi (Zv wf L)))),some (.pl (fnD t cs)),some (.ot (encM M')),some (.pl (dI k)),some (.pl (.list (found.map tupI))),p6,some (.hd (Zi (encM T)))]=some (.nx [some (.pl w.d),some (.pl (.dict (Zi (Zv wf L)))),some (.pl (fnD t cs)),some (.ot (encM M')),some (.pl (oI (Zb7 T))),some (.pl (.list (found.map tupI))),p6,some (.hd (Zi (encM T)))]):=by
    have:Zfq (ZR (Za4 7) Zam (Zav (Zr 8) (Zd 0))) [some (.pl w.d),some (.pl (.dict (Zi (Zv wf L)))),some (.pl (fnD t cs)),some (.ot (encM M')),some (.pl (dI k)),some (.pl (.list (found.map tupI))),p6,some (.hd (Zi (encM T)))]=some (oI (Zb7 T)):=by unfold Zfq;rw[hv1];show(match ZaO ((T.map (·.2)).map dI)with | some ns=>some (match ns.min? with | some i=>ZyI i | none=>.none) | none=>none)=_;rw[ZcJ];show some (match(T.map (·.2)).min? with | some i=>ZyI i | none=>.none)=_;unfold Zb7;cases(T.map (·.2)).min?<;>rfl
    unfold Zai;rw[this];rfl
   refine Z1 (P:=λq=>q=_) (r':=[some (.pl w.d),some (.pl (.dict (Zi (Zv wf L)))),some (.pl (fnD t cs)),some (.ot (encM M')),some (.pl (oI (Zb7 T))),some (.pl (.list (found.map tupI))),p6,some (.pl (.dict (Zi (encM T))))]) ?_ ?_
   ·show(if([some (B.pl w.d),some (.pl (.dict (Zi (Zv wf L)))),some (.pl (fnD t cs)),some (.ot (encM M')),some (.pl (dI k)),some (.pl (.list (found.map tupI))),p6,some (.pl (.dict (Zi (encM T))))]:HM.Env).all (λq=>!Zbr q)=true then _ else _)=_
    rw[if_pos (a1 _ _)];show(match Zai 4 _ [some (.pl w.d),some (.pl (.dict (Zi (Zv wf L)))),some (.pl (fnD t cs)),some (.ot (encM M')),some (.pl (dI k)),some (.pl (.list (found.map tupI))),p6,some (.hd (Zi (encM T)))]with | some (.nx r')=>_ | some (.rt d)=>_ | _=>none)=_;rw[hm1];show(if([some (B.pl w.d),some (.pl (.dict (Zi (Zv wf L)))),some (.pl (fnD t cs)),some (.ot (encM M')),some (.pl (oI (Zb7 T))),some (.pl (.list (found.map tupI))),p6,none]:HM.Env).all (λq=>!Zbr q)=true then _ else _)=_;rw[if_pos (a2 _ _ rfl)];rfl
   ·have hk1:=ZrB hT hTl (k:=Zb7 T) [some (.pl w.d),some (.pl (.dict (Zi (Zv wf L)))),some (.pl (fnD t cs)),some (.ot (encM M')),some (.pl (oI (Zb7 T))),some (.pl (.list (found.map tupI))),p6,some (.hd (Zi (encM T)))] rfl rfl
    have hm2:Z8 5 (ZR (Za4 7) (tV (op2 gEq (Zav (Zr 8) (Zd 0)) (Zd 5))) (Zd 0)) [some (.pl w.d),some (.pl (.dict (Zi (Zv wf L)))),some (.pl (fnD t cs)),some (.ot (encM M')),some (.pl (oI (Zb7 T))),some (.pl (.list (found.map tupI))),p6,some (.hd (Zi (encM T)))]=some (.nx [some (.pl w.d),some (.pl (.dict (Zi (Zv wf L)))),some (.pl (fnD t cs)),some (.ot (encM M')),some (.pl (oI (Zb7 T))),some (.ol ((Zff T).map tupI)),p6,some (.hd (Zi (encM T)))]):=by unfold Z8;rw[hk1];rfl
    show(if([some (B.pl w.d),some (.pl (.dict (Zi (Zv wf L)))),some (.pl (fnD t cs)),some (.ot (encM M')),some (.pl (oI (Zb7 T))),some (.pl (.list (found.map tupI))),p6,some (.pl (.dict (Zi (encM T))))]:HM.Env).all (λq=>!Zbr q)=true then _ else _)=_;rw[if_pos (a1 _ _)];show(match Z8 5 _ [some (.pl w.d),some (.pl (.dict (Zi (Zv wf L)))),some (.pl (fnD t cs)),some (.ot (encM M')),some (.pl (oI (Zb7 T))),some (.pl (.list (found.map tupI))),p6,some (.hd (Zi (encM T)))]with | some (.nx r')=>_ | some (.rt d)=>_ | _=>none)=_;rw[hm2];show(if([some (B.pl w.d),some (.pl (.dict (Zi (Zv wf L)))),some (.pl (fnD t cs)),some (.ot (encM M')),some (.pl (oI (Zb7 T))),some (.ol ((Zff T).map tupI)),p6,none]:HM.Env).all (λq=>!Zbr q)=true then _ else _)=_;rw[if_pos (a2 _ _ rfl)];rfl
omit hnd hlen hys ha in
theorem ZsK{M:Tb}{c:List Int}(h:c∈Zff (Za3 wf cb L M)):c∈L/\Zy M c=false:=by obtain⟨⟨c',k⟩,h1,rfl⟩:=Zx3.mp h;have:=ZtY.mp (Zyt.mp h1).1;exact⟨this.1,this.2.1⟩
omit hnd hlen hys ha in
theorem Zrv{T:Tb}(h:Zff T≠[]):∃k,Zb7 T=some k:=by
 cases hq:Zb7 T with
 | some k=>exact⟨k,rfl⟩
 | none=>refine absurd ?_ h;unfold Zb7 at hq;rw[ZCm]at hq;have:=ZBl.mp hq;subst this;rfl
theorem ZiO:∀(fuel n:Nat) (M:Tb) (k:Option Int) (found:List (List Int)) (o6 o7:Option B),Zbr o6=false->Zbr o7=false->(∀c∈found,c∈L/\Zy M c=false)->found.length<=128->M.length<=128*n->n<=(L.filter λc=>Zy M c).length->130<=n+fuel->(found≠[]->∃i,k=some i) ->
  ∃R p4 p5 p6 p7,ZbI (tV (op2 gGt (Zbg (Zr 5)) (eC (.int 0)))) (Zc9 ap) fuel [some (.pl w.d),some (.pl (.dict (Zi (Zv wf L)))),some (.pl (fnD t cs)),some (.ot (encM M)),some (.pl (oI k)),some (.ol (found.map tupI)),o6,o7]=some (.nx [some (.pl w.d),some (.pl (.dict (Zi (Zv wf L)))),some (.pl (fnD t cs)),some (.ot (encM R)),p4,p5,p6,p7])/\Zj3 wf cb L M k found R
 | 0,n,M,k,found,o6,o7,_,_,_,_,_,ht,hfu,_=>by have:=Zy8 (λc=>Zy M c) L;omega
 | fuel+1,n,M,k,found,o6,o7,h6,h7,hfo,hfl,hM,ht,hfu,hks=>by
  have htl:=Zy8 (λc=>Zy M c) L
  by_cases hf:found=[]
  ·subst hf
   refine⟨M,some (.pl (oI k)),some (.ol []),o6,o7,?_,.done⟩;unfold ZbI;have e:(tV (op2 gGt (Zbg (Zr 5)) (eC (.int 0)))) [some (.pl w.d),some (.pl (.dict (Zi (Zv wf L)))),some (.pl (fnD t cs)),some (.ot (encM M)),some (.pl (oI k)),some (.ol (([]:List (List Int)).map tupI)),o6,o7]=some false:=by simp
   rw[e];rfl
  ·obtain⟨i,rfl⟩:=hks hf
   have e:(tV (op2 gGt (Zbg (Zr 5)) (eC (.int 0)))) [some (.pl w.d),some (.pl (.dict (Zi (Zv wf L)))),some (.pl (fnD t cs)),some (.ot (encM M)),some (.pl (oI (some i))),some (.ol (found.map tupI)),o6,o7]=some true:=by have:0<found.length:=ZAD.mpr hf;simp;omega
   obtain⟨p6,p7,g6,g7,ht1⟩:=Zqj hnd hlen hys ha (w:=w) (M:=M) (k:=i) (found:=found) h6 h7 hfl (by omega);have hml:(Zbs found i M).length<=M.length+found.length:=Zlw i found M;have hlk:∀k,Zn (Zbs found i M) k=if k∈found then some i else Zn M k:=λk=>Zgl i k found M
   have hcnt:(L.filter λc=>Zy M c).length<(L.filter λc=>Zy (Zbs found i M) c).length:=by
    refine Zh0 (λx _ hx=>?_) ?_
    ·unfold Zy at hx ⊢
     rw[hlk];split
     ·rfl
     ·exact hx
    ·obtain⟨c,cs,rfl⟩:=ZBE hf
     refine⟨c,(hfo c (ZxU ..)).1,?_,(hfo c (ZxU ..)).2⟩;unfold Zy;rw[hlk,if_pos (ZxU ..)];rfl
   have hol:(Zff (Za3 wf cb L (Zbs found i M))).length<=128:=by
    have h1:(Zff (Za3 wf cb L (Zbs found i M))).length<=(Za3 wf cb L (Zbs found i M)).length:=by unfold Zff;rw[ZxS];exact Zy8 ..
    have h2:=ZpH (wf:=wf) (cb:=cb) (L:=L) (M:=Zbs found i M);omega
   obtain⟨R,q4,q5,q6,q7,g,J⟩:=ZiO fuel (n+1) (Zbs found i M) (Zb7 (Za3 wf cb L (Zbs found i M))) (Zff (Za3 wf cb L (Zbs found i M))) p6 p7 g6 g7 (λc hc=>ZsK hc) hol (by omega) (by omega) (by omega) Zrv;refine⟨R,q4,q5,q6,q7,?_,.step hf J⟩;unfold ZbI;rw[e];dsimp only;show(match Zc9 ap [some (.pl w.d),some (.pl (.dict (Zi (Zv wf L)))),some (.pl (fnD t cs)),some (.ot (encM M)),some (.pl (dI i)),some (.ol (found.map tupI)),o6,o7]with | some (.nx r')=>_ | some (.ct r')=>_ | some (.bk r')=>_ | some (.rt d)=>_ | none=>_)=_;rw[ht1];exact g
include hv hcr
theorem Zo4:∃R,ZcV ap [w.d,.dict (Zi (Zv wf L)),fnD t cs]=some (.dict (Zi (encM R)))/\Zj3 wf cb L [] (some 0) (L.filter λc=>Z4 w c) R:=by
 have hlb:L.length<1000000:=by omega
 have hfl:(L.filter λc=>Z4 w c).length<=128:=ZyG (Zy8 _ _) hlen;obtain⟨R,p4,p5,p6,p7,g,J⟩:=ZiO hnd hlen hys ha (w:=w) 100000 0 [] (some 0) (L.filter λc=>Z4 w c) none none rfl rfl (λc hc=>⟨(Zyt.mp hc).1,rfl⟩) hfl (by simp) (Zzu _) (by omega) λ_=>⟨0,rfl⟩;refine⟨R,?_,J⟩;have hw:Za4 1 [some (.pl w.d),some (.hd (Zi (Zv wf L))),some (.pl (fnD t cs)),some (.ot (encM [])),some (.pl (dI 0)),none,none,none]=some (L.map tupI):=by show(ZeI (Zi (Zv wf L))).map _=_;rw[dec_enc,<-Ziq wf L];rfl
 have hgo:∀r:HM.Env,r[0]?=some (some (.pl w.d))->ZaK (tV (Zj Zbz (Zb (Zd 1) (Zb (Zd 0) Zk)))) (Zd 0) r (L.map tupI)=some ((L.filter λc=>Z4 w c).map tupI):=λr r0=>by
  rw[Zb5 tupI (λc=>Z4 w c) tupI]
  ·intro c hc
   have:=ZoV (w:=w) (c:=c) (by have:=(hcr c hc).len; have:=hv.m2; omega);simp[r0,this]
  ·intro c _ _
   simp
 have hc:ZR (Za4 1) (tV (Zj Zbz (Zb (Zd 1) (Zb (Zd 0) Zk)))) (Zd 0) [some (.pl w.d),some (.hd (Zi (Zv wf L))),some (.pl (fnD t cs)),some (.ot (encM [])),some (.pl (dI 0)),none,none,none]=some (.ol ((L.filter λc=>Z4 w c).map tupI)):=by unfold ZR;rw[hw];dsimp only;rw[if_pos (by rw[ZxS]; exact hlb),hgo _ rfl];rfl
 have hh:ZeA 1 (Z8 5 (ZR (Za4 1) (tV (Zj Zbz (Zb (Zd 1) (Zb (Zd 0) Zk)))) (Zd 0))) [some (.pl w.d),some (.pl (.dict (Zi (Zv wf L)))),some (.pl (fnD t cs)),some (.ot (encM [])),some (.pl (dI 0)),none,none,none]=some (.nx [some (.pl w.d),some (.pl (.dict (Zi (Zv wf L)))),some (.pl (fnD t cs)),some (.ot (encM [])),some (.pl (dI 0)),some (.ol ((L.filter λc=>Z4 w c).map tupI)),none,none]):=by show(match Z8 5 _ [some (.pl w.d),some (.hd (Zi (Zv wf L))),some (.pl (fnD t cs)),some (.ot (encM [])),some (.pl (dI 0)),none,none,none]with | some (.nx r')=>_ | some (.rt d)=>_ | _=>none)=_;unfold Z8;rw[hc];rfl
 show Zal (ZeT ap [some (.pl w.d),some (.pl (.dict (Zi (Zv wf L)))),some (.pl (fnD t cs)),none,none,none,none,none])=_;have e:ZeT ap [some (.pl w.d),some (.pl (.dict (Zi (Zv wf L)))),some (.pl (fnD t cs)),none,none,none,none,none]=some (.rt (.dict (Zi (encM R)))):=by unfold ZeT;refine Z1 (P:=λq=>q=_) (r':=[some (.pl w.d),some (.pl (.dict (Zi (Zv wf L)))),some (.pl (fnD t cs)),some (.ot (encM [])),none,none,none,none]) rfl ?_;refine Z1 (P:=λq=>q=_) (r':=[some (.pl w.d),some (.pl (.dict (Zi (Zv wf L)))),some (.pl (fnD t cs)),some (.ot (encM [])),some (.pl (dI 0)),none,none,none]) rfl ?_;refine Z1 (P:=λq=>q=_) hh ?_;refine Z1 (P:=λq=>q=_) g ?_;simp
 rw[e];rfl
end
end HG5
namespace HG5
open PySem HM HG
def ap:AP:=λt cs ds=>match t with
 | 0=>if cs.isEmpty then ZcW ds else none
 | 1=>ZkG 1 2 (Zj Za9 (Zb (Zd 1) (Zb (Zd 2) (Zb (Zd 0) Zk)))) cs ds
 | _=>none
end HG5
namespace HG5
open PySem HM HG HG4
inductive Zla(w:Wk)(ls b:List Int):List Int->Prop where
 | beg {p:List Int} (h:p∈ZE w ls b):Zla w ls b p
 | step {c p:List Int} {d:Nat} (r:Zla w ls b c) (hd:d<w.deeds.length) (hc:ZbO w c d=true) (h:p∈ZE w ls (ZY w c d)):Zla w ls b p
def Zk7(w:Wk)(ls c:List Int)(d:Int):Wy:=(dI d,ZZ w ls (ZY w c d))
def wfV(w:Wk)(ls:List Int):Wf:=λc=>(doV w c).map (Zk7 w ls c)
abbrev Zbw(w:Wk)(ls:List Int)(L:List (List Int)):List (List Ky × D):=Zv (wfV w ls) L
theorem ZlK(w:Wk)(ls c:List Int):Zkz w ls c=.list ((wfV w ls c).map wyD):=by unfold Zkz wfV;rw[Zyg];rfl
theorem ZxF(w:Wk)(ls c:List Int)(d:Int):wyP (Zk7 w ls c d)=ZE w ls (ZY w c d):=rfl
abbrev OkC(w:Wk)(c:List Int):Prop:=Cr w.many c/\c≠[]
structure ApD(ap:AP):Prop where
 d0:∀ds,ap 0 [] ds=ZcW ds
 l1:∀cs ds,ap 1 cs ds=ZkG 1 2 (Zj Za9 (Zb (Zd 1) (Zb (Zd 2) (Zb (Zd 0) Zk)))) cs ds
section
variable{w:Wk}(hv:Wk.V w)(h7:w.many<=7){ls:List Int}(hl:Cr w.looks.length ls)
include hv h7
theorem Zww:ZqP (wfV w ls) (OkC w):=by
 refine⟨λc hc y hy p hp=>?_,λc hc=>?_,λc hc y hy=>?_,λC hn hC=>?_⟩
 ·obtain⟨d,hd,rfl⟩:=Zx3.mp hy
  obtain⟨d0,d1,_⟩:=Zcn hd;have:=Zk2 (ZeQ hv hc.1 d0 d1) (show p∈ZE w ls (ZY w c d) from hp);exact⟨this.1,this.2.1⟩
 ·unfold wfV
  rw[ZxS];have:=Zg7 w c;have:=hv.d2;omega
 ·obtain⟨d,hd,rfl⟩:=Zx3.mp hy
  obtain⟨d0,d1,_⟩:=Zcn hd;have:=split_len (w:=w) (ls:=ls) (c:=ZY w c d);have:=(ZeQ hv hc.1 d0 d1).len;show(ZZ w ls (ZY w c d)).length<=8;omega
 ·have h1:=ZkA hn λc hc=>(hC c hc).1
  have h2:2 ^ w.many<=2 ^ 7:=Nat.pow_le_pow_right (by decide) h7;have h3:2 ^ 7=128:=rfl;omega
omit hv h7 in
theorem Zvv{b c:List Int}(r:Zk3 (wfV w ls) (ZE w ls b) c):Zla w ls b c:=by
 induction r with
 | beg h=>exact .beg h
 | @step c p y _ hy hp ih=>obtain⟨d,hd,rfl⟩:=Zx3.mp hy;obtain⟨d0,d1,d2⟩:=Zcn hd;have e:((d.toNat:Nat):Int)=d:=ZAd d0;exact .step (d:=d.toNat) ih (by omega) (by rw[e]; exact d2) (by rw[e]; exact hp)
include hl
theorem Zlj{ap:AP}(A:ApD ap){b:List Int}(hb:Cr w.many b):∃L,Zaf ap [w.d,tupI ls,tupI b]=some (.dict (Zi (Zbw w ls L)))/\L.Nodup/\L.length<=128/\(∀c∈L,Cr w.many c/\c≠[])/\(∀c∈L,Zla w ls b c)/\Zeu w ls L/\∀p∈ZE w ls b,p∈L:=by
 have hp:=Zgn hv hl hb;have hsl:=split_len (w:=w) (ls:=ls) (c:=b);have hbl:=hb.len;have hci:=Zew (ZZ w ls b) (by omega);have hpl:(ZE w ls b).length<=100:=by unfold ZE; rw[ZxS]; omega
 have O:=Zww hv h7 (ls:=ls);have ha:∀c,OkC w c->ap 1 [w.d,tupI ls] [tupI c]=some (.list ((wfV w ls c).map wyD)):=λc hc=>by rw[A.l1,<-ZlK];unfold ZkG;rw[if_pos ⟨rfl,rfl,by rw[Zy5,Zd0 19]; rfl⟩];exact Zoj hv hl hc.1
 obtain⟨L,e,J⟩:=Zqr O ha (B:=ZE w ls b) (λc h=>⟨(Zk2 hb h).1,(Zk2 hb h).2.1⟩) hpl;refine⟨L,?_,J.nd,O.cs L J.nd J.cr,J.cr,λc hc=>Zvv (J.rc c hc),λc hc d hd can p hp=>?_,λp hp=>?_⟩
 ·show Zal (ZeF ap [some (.pl w.d),some (.pl (tupI ls)),some (.pl (tupI b))])=_
  have h1:Zj ZD (Zb (Zj Zar (Zb (Zd 0) (Zb (Zd 1) (Zb (Zd 2) Zk)))) Zk) [some (.pl w.d),some (.pl (tupI ls)),some (.pl (tupI b))]=some (.list ((ZE w ls b).map tupI)):=by unfold Zj Zb;show(match(match Zar [w.d,tupI ls,tupI b]with | some x=>(Zk _).map (x::·) | none=>none)with | some ds=>ZD ds | none=>none)=_;rw[hp];exact hci
  have hn1:[w.d,tupI ls].all (noF 20)=true:=by rw[Zy5,Zy5,Zwy,Zd0 19];rfl
  have hn2:noF 20 (.dict (Zi (Zbw w ls L)))=true:=ZwP (n:=14) λc _ y hy=>by obtain⟨d,_,rfl⟩:=Zx3.mp hy;exact Zur _ _
  unfold ZeF ZC ZhC;rw[h1];show Zal (Zzo Out.rt (if[w.d,tupI ls].all (noF 20)=true then(match ZbH ap [.list ((ZE w ls b).map tupI),fnD 1 [w.d,tupI ls]]with | some d=>if noF 20 d=true then some d else none | none=>none)else none))=_;rw[if_pos hn1,e];dsimp only;rw[if_pos hn2];rfl
 ·rcases J.cl c hc (Zk7 w ls c d) (Zx3.mpr ⟨(d:Int),Zpt hd can,rfl⟩) p hp with h | h
  ·exact h
  ·simp at h
 ·rcases J.bg p hp with h | h
  ·exact h
  ·simp at h
end
def Zb0(ps:List (List Int))(M:Tb):Option Int:=if ps.all (Zy M)then(ps.filterMap λp=>Zn M p).max? else none
def cbD:Cb:=λy M=>(Zb0 (wyP y) M).map (·+1)
theorem Zh1{α β:Type}{f:α->Option β}:∀{xs:List α},((xs.filterMap f).length=xs.length↔xs.all (λx=>(f x).isSome)=true)
 | []=>by simp
 | x::xs=>by
  have ih:=Zh1 (f:=f) (xs:=xs);have hl:(xs.filterMap f).length<=xs.length:=ZBZ f xs;rw[Zy2,Zy5];cases h:f x with
  | none=>simp; omega
  | some y=>simpa using ih
theorem Zf0{g:Gs}(hg:g.length<1000)(h0:g≠[]){M:Tb}:ZO [.list (g.map Zap),.dict (Zi (encM M))]=some (oI (Zb0 (g.map (·.2)) M)):=by
 have hci:=Zew g (by omega);have hlen:((g.map (·.2)).map tupI).length<big:=by rw[ZxS,ZxS]; show _<1000000; omega
 have h1:Zah (bOf (Zj ZD (Zb (Zd 0) Zk))) [some (.pl (.list (g.map Zap))),some (.pl (.dict (Zi (encM M)))),none]=some ((g.map (·.2)).map tupI):=by unfold Zah bOf;show(match Zzo B.pl (ZD [.list (g.map Zap)])with | some x=>Zcm x | none=>none)=_;rw[hci];rfl
 have h2:ZaK (tV (Zm8 (Zd 0) (Zr 2))) (Zav (Zr 2) (Zd 0)) [some (.pl (.list (g.map Zap))),some (.pl (.dict (Zi (encM M)))),none] ((g.map (·.2)).map tupI)=some (((g.map (·.2)).filterMap λp=>Zn M p).map dI):=by
  rw[Zb5 tupI (Zy M) (λp=>dI ((Zn M p).getD 0))]
  ·congr 1
   generalize g.map (·.2)=ps
   induction ps with
   | nil=>rfl
   | cons p ps ih =>
    rw[ZzP,Zy2];unfold Zy at ih ⊢;cases hq:Zn M p with
    | none=>rw[if_neg (by simp)]; exact ih
    | some k=>rw[if_pos (by rfl),ZxY,ZxY,ih,hq]; rfl
  ·intro p _
   have hk:Zbx (tupI p)=some (Zac p):=Zbk p;simp[dec_enc,hk,Zd2,Zy]
  ·intro p _ hp
   have hk:Zbx (tupI p)=some (Zac p):=Zbk p;unfold Zy at hp;obtain⟨k,hk'⟩:=Zys.mp hp;have hlk:=Zd2 M p;rw[hk']at hlk;simp[dec_enc,hk,hlk,hk']
 have hfl:=Zh1 (f:=λp=>Zn M p) (xs:=g.map (·.2));rw[ZxS]at hfl;have hall:(g.map (·.2)).all (λx=>(Zn M x).isSome)=(g.map (·.2)).all (Zy M):=rfl;rw[hall]at hfl;generalize hN:(g.map (·.2)).filterMap (λp=>Zn M p)=ns at *;show Zal (ZdE [some (.pl (.list (g.map Zap))),some (.pl (.dict (Zi (encM M)))),none])=_;unfold ZdE;refine Z1 (P:=λq=>Zal q=_) (r':=[some (.pl (.list (g.map Zap))),some (.pl (.dict (Zi (encM M)))),some (.ol (ns.map dI))]) ?_ ?_
 ·unfold Z8 ZR
  rw[h1];dsimp only;rw[if_pos hlen,h2];rfl
 ·have h3:op2 gEq (Zbg (Zr 2)) (Zbg (Zr 0)) [some (.pl (.list (g.map Zap))),some (.pl (.dict (Zi (encM M)))),some (.ol (ns.map dI))]=some (.bool (decide (ns.length=g.length))):=by
   show gEq (.int ((ns.map dI).length:Int)) (.int ((g.map Zap).length:Int))=_;rw[ZxS,ZxS]
   by_cases e:ns.length=g.length
   ·rw[e,Zf9 (Ze0 1 _) (by decide)]
    simp
   ·rw[Zg5 (Ze0 1 _) (Ze0 1 _) (by decide) (by decide) (λz=>e (by injection z with z; omega))]
    simp[e]
  have h4:ZkJ (Zr 2) [some (.pl (.list (g.map Zap))),some (.pl (.dict (Zi (encM M)))),some (.ol (ns.map dI))]=ns.max?.map λi=>ZyI i:=by show(match ZaO (ns.map dI)with | some ns=>ns.max?.map λi=>ZyI i | none=>none)=_;rw[ZcJ]
  unfold ZC eIf tV;rw[h3];unfold Zb0;rw[hN]
  by_cases e:ns.length=g.length
  ·rw[if_pos (hfl.mp e),decide_eq_true e]
   show Zal (Zzo Out.rt (ZkJ (Zr 2) _))=_;rw[h4];have hne:ns≠[]:=λz=>by rw[z]at e;exact h0 (ZAo e.symm)
   cases hq:ns.max? with
   | none=>rw[ZCn]at hq; exact absurd hq hne
   | some m=>rfl
  ·rw[if_neg λz=>e (hfl.mpr z),decide_eq_false e]
   rfl
theorem ZoZ{y:Wy}(hy:y.2.length<1000)(h0:y.2≠[])(M:Tb):ZcW [wyD y,.dict (Zi (encM M))]=some (oI (cbD y M)):=by
 have h:=Zf0 hy h0 (M:=M);have h':ZO [.list (y.2.map Zap),.dict (Zi (encM M))]=some (oI (Zb0 (wyP y) M)):=h;show Zal (Zgr [some (.pl (wyD y)),some (.pl (.dict (Zi (encM M)))),none])=_;unfold Zgr cbD;refine Z1 (P:=λq=>Zal q=_) (r':=[some (.pl (wyD y)),some (.pl (.dict (Zi (encM M)))),some (.pl (oI (Zb0 (wyP y) M)))]) ?_ ?_
 ·unfold Zai Zj
  show Zzo _ (ZO [.list (y.2.map Zap),.dict (Zi (encM M))])=_;rw[h'];rfl
 ·cases Zb0 (wyP y) M<;>rfl
def ZhE(w:Wk)(ls:List Int)(L:List (List Int))(M:Tb):Prop:=∃t,Zhr w ls L t M/\Zfp w ls L M=[]
theorem Zqq{ps:List (List Int)}{M:Tb}{m:Int}(h:Zb0 ps M=some m):(∀p∈ps,∃k,Zn M p=some k/\k<=m)/\∃p∈ps,Zn M p=some m:=by
 unfold Zb0 at h;split at h
 ·rename_i ha
  obtain⟨m1,m2⟩:=ZCk.mp h;refine⟨λp hp=>?_,?_⟩
  ·have hh:=Zx0.mp ha p hp
   unfold Zy at hh;obtain⟨k,hk⟩:=Zys.mp hh;exact⟨k,hk,m2 _ (Zza.mpr ⟨p,hp,hk⟩)⟩
  ·obtain⟨p,hp,e⟩:=Zza.mp m1
   exact⟨p,hp,e⟩
 ·cases h
theorem Zku{ps:List (List Int)}{M:Tb}(h0:ps≠[])(h:Zb0 ps M=none):ps.all (Zy M)=false:=by
 cases hq:ps.all (Zy M)with
 | false=>rfl
 | true=>unfold Zb0 at h;rw[hq,if_pos rfl,ZCn]at h;obtain⟨p,r,rfl⟩:=ZBE h0;have hh:=Zx0.mp hq p (ZxU ..);unfold Zy at hh;obtain⟨k,hk⟩:=Zys.mp hh;rw[Zy2,hk]at h;cases h
section
variable{w:Wk}{ls:List Int}{L:List (List Int)}(hL:Zeu w ls L)(hne:∀c∈L,c≠[])
include hL hne
theorem Zqm{t:Nat}{M:Tb}(T:Zhr w ls L t M){c:List Int}(hc:c∈L)(hn:Zy M c=false):ZcB cbD (wfV w ls c) M=if Zfh w ls c M then some ((t+1:Nat):Int)else none:=by
 have known:∀{p:List Int} {k:Int},Zn M p=some k->∃n:Nat,k=(n:Int)/\n<=t/\Win w ls n p=true:=λ{p k} h=>by
  rw[T.look]at h;split at h
  ·obtain⟨n,h1,h2,h3,_⟩:=Zky h
   exact⟨n,h1,h2,h3⟩
  ·cases h
 have val:∀y∈wfV w ls c,∀k,cbD y M=some k->k=((t+1:Nat):Int)/\Zfh w ls c M=true:=λy hy k hk=>by
  obtain⟨d,hd,rfl⟩:=Zx3.mp hy;obtain⟨d0,d1,d2⟩:=Zcn hd;have e:((d.toNat:Nat):Int)=d:=ZAd d0;obtain⟨m,h1,h2⟩:=ZxT.mp hk;have h1:Zb0 (ZE w ls (ZY w c d)) M=some m:=h1;obtain⟨w1,p,hp,w2⟩:=Zqq h1;obtain⟨n,rfl,hnt,_⟩:=known w2;refine⟨?_,ZyM.mpr ⟨d.toNat,Zyh.mpr (by omega),?_⟩⟩
  ·subst h2
   by_cases hlt:n<t
   ·-- then the crowd would be known already
    have hw:Win w ls (n+1) c=true:=by show(Z4 w c||_)=true;rw[Zzm];refine .inr (ZyM.mpr ⟨d.toNat,Zyh.mpr (by omega),?_⟩);rw[e,d2,ZCt];refine Zx0.mpr λq hq=>?_;obtain⟨k,k1,k2⟩:=w1 q hq;obtain⟨n',rfl,_,hw'⟩:=known k1;exact ZfX (by omega) hw'
    have:Zy M c=true:=by unfold Zy;rw[T.look,if_pos hc,ZcK];exact ZfX (by omega) hw
    rw[hn]at this;cases this
   ·show(n:Int)+1=_
    omega
  ·rw[e,d2,ZCt]
   refine Zx0.mpr λq hq=>?_;obtain⟨k,k1,_⟩:=w1 q hq;unfold Zy;rw[k1];rfl
 have all_eq:∀k∈(wfV w ls c).filterMap (λy=>cbD y M),k=((t+1:Nat):Int)/\Zfh w ls c M=true:=λk hk=>by obtain⟨y,hy,e⟩:=Zza.mp hk;exact val y hy k e
 unfold ZcB;cases hcan:Zfh w ls c M with
 | false =>
  have:(wfV w ls c).filterMap (λy=>cbD y M)=[]:=List.eq_nil_iff_forall_not_mem.mpr λk hk=>by have:=(all_eq k hk).2;rw[hcan]at this;cases this
  rw[this];rfl
 | true =>
  obtain⟨d,hd,hq⟩:=ZyM.mp hcan;rw[Zyd]at hq;have hd':=Zyh.mp hd;have hy:Zk7 w ls c (d:Int)∈wfV w ls c:=Zx3.mpr ⟨(d:Int),Zpt hd' hq.1,rfl⟩;have hpn:ZE w ls (ZY w c d)≠[]:=ZhM (Zkq (hne c hc) hq.1);have hk:∃k,cbD (Zk7 w ls c d) M=some k:=by
   unfold cbD;cases hw:Zb0 (wyP (Zk7 w ls c d)) M with
   | none=>have:=Zku hpn hw;rw[show(ZE w ls (ZY w c d)).all (Zy M)=true from hq.2]at this;cases this
   | some m=>exact⟨m+1,rfl⟩
  obtain⟨k,hk⟩:=hk;have hm:k∈(wfV w ls c).filterMap (λy=>cbD y M):=Zza.mpr ⟨_,hy,hk⟩;cases hmin:((wfV w ls c).filterMap λy=>cbD y M).min? with
  | none=>rw[ZCm]at hmin; rw[hmin]at hm; simp at hm
  | some m=>have:=(ZBb.mp hmin).1;rw[(all_eq m this).1];rfl
theorem Ztw{t:Nat}{M:Tb}(T:Zhr w ls L t M):Za3 (wfV w ls) cbD L M=(Zfp w ls L M).map λc=>(c,((t+1:Nat):Int)):=by
 unfold Za3 Zfp;have key:∀K:List (List Int),(∀c∈K,c∈L)->(K.filterMap λc=>if Zy M c then none else(ZcB cbD (wfV w ls c) M).map λk=>(c,k))=(K.filter λc=>!Zy M c&&Zfh w ls c M).map λc=>(c,((t+1:Nat):Int)):=by
  intro K
  induction K with
  | nil=>intro _; rfl
  | cons c K ih =>
   intro hK;have ih:=ih λx hx=>hK x (ZxW _ hx);rw[Zy2,ZzP];cases hh:Zy M c with
   | true=>simpa using ih
   | false =>
    have hle:=Zqm hL hne T (hK c (ZxU ..)) hh;rw[hle];cases hcan:Zfh w ls c M with
    | false=>simpa [hcan]using ih
    | true=>simpa [hcan]using ih
 exact key L λ_ h=>h
theorem Zt3{M R:Tb}{k:Option Int}{found:List (List Int)}(r:Zj3 (wfV w ls) cbD L M k found R):∀t:Nat,(found=[]->Zhr w ls L t M/\Zfp w ls L M=[])->(found≠[]->k=some (t:Int)/\Zhr w ls L t (Zbs found t M))->ZhE w ls L R:=by
 induction r with
 | done=>intro t h _; exact⟨t,h rfl⟩
 | @step M R k found hf _ ih =>
  intro t _ h;obtain⟨hk,T⟩:=h hf;cases hk;have ho:=Ztw hL hne T;have hmin:∀ms:List (List Int),Zff (ms.map λc=>(c,((t+1:Nat):Int)))=ms/\(ms≠[]->Zb7 (ms.map λc=>(c,((t+1:Nat):Int)))=some ((t+1:Nat):Int)):=λms=>by
   cases ms with
   | nil=>exact⟨rfl,λz=>absurd rfl z⟩
   | cons c ms =>
    have hO:Zb7 ((c::ms).map λc=>(c,((t+1:Nat):Int)))=some ((t+1:Nat):Int):=by unfold Zb7;rw[Zyg];refine ZBb.mpr ⟨Zx3.mpr ⟨c,ZxU ..,rfl⟩,λb hb=>?_⟩;obtain⟨c',_,rfl⟩:=Zx3.mp hb;exact Int.le_refl _
    refine⟨?_,λ_=>hO⟩;unfold Zff;rw[hO];have:∀xs:List (List Int),((xs.map λc=>(c,((t+1:Nat):Int))).filter λp=>some p.2==some ((t+1:Nat):Int)).map (·.1)=xs:=by
     intro xs
     induction xs with
     | nil=>rfl
     | cons x xs ih=>simp at ih ⊢; exact ih
    exact this _
  obtain⟨m1,m2⟩:=hmin (Zfp w ls L (Zbs found t M));rw[ho,m1]at ih;refine ih (if Zfp w ls L (Zbs found t M)=[]then t else t+1) (λe=>?_) λe=>?_
  ·rw[if_pos e]
   exact⟨T,e⟩
  ·rw[if_neg e]
   exact⟨m2 e,ZnQ hL T⟩
theorem Zsr(hv:Wk.V w){R:Tb}(r:Zj3 (wfV w ls) cbD L [] (some 0) (L.filter λc=>Z4 w c) R):ZhE w ls L R:=by
 refine Zt3 hL hne r 0 (λe=>?_) λ_=>⟨rfl,ZnD⟩;have T:Zhr w ls L 0 (M0 w L):=ZnD;have e0:M0 w L=[]:=by unfold M0; rw[e]; rfl
 rw[e0]at T;refine⟨T,ZAn.mpr λc hc h=>?_⟩;rw[Zyd]at h;obtain⟨d,hd,hq⟩:=ZyM.mp h.2;rw[Zyd]at hq;obtain⟨p,hp⟩:=List.exists_mem_of_ne_nil _ (ZhM (w:=w) (ls:=ls) (Zkq (hne c hc) hq.1));have:=Zx0.mp hq.2 p hp;cases this
end
theorem ZnC{w:Wk}(hv:Wk.V w){ap:AP}(A:ApD ap){ls:List Int}{L:List (List Int)}(hnd:L.Nodup)(hcr:∀c∈L,Cr w.many c/\c≠[])(hlen:L.length<=128)(hL:Zeu w ls L):∃M,Zaz ap [w.d,.dict (Zi (Zbw w ls L))]=some (.dict (Zi (encM M)))/\ZhE w ls L M:=by
 have hys:∀c∈L,(wfV w ls c).length<1000:=λc hc=>by unfold wfV;rw[ZxS];have:=Zg7 w c;have:=hv.d2;omega
 obtain⟨R,e,r⟩:=Zo4 hv (ap:=ap) (wf:=wfV w ls) (t:=0) (cs:=[]) (cb:=cbD) hnd hlen (λc hc=>(hcr c hc).1) hys λc hc y hy M=>by
  rw[A.d0];obtain⟨d,hd,rfl⟩:=Zx3.mp hy;obtain⟨d0,d1,d2⟩:=Zcn hd;refine ZoZ ?_ ?_ M
  ·have:=split_len (w:=w) (ls:=ls) (c:=ZY w c d)
   have:=(ZeQ hv (hcr c hc).1 d0 d1).len;have:=hv.m2;show(ZZ w ls (ZY w c d)).length<1000;omega
  ·exact λz=>ZhM (w:=w) (ls:=ls) (Zkq (hcr c hc).2 d2) (by unfold ZE; rw[show ZZ w ls (ZY w c d)=[] from z]; rfl)
 refine⟨R,?_,Zsr hL (λc hc=>(hcr c hc).2) hv r⟩;show Zal (ZfG ap [some (.pl w.d),some (.pl (.dict (Zi (Zbw w ls L))))])=_;unfold ZfG ZC Zj;show Zal (Zzo Out.rt (ZcV ap [w.d,.dict (Zi (Zv (wfV w ls) L)),fnD 0 []]))=_;rw[e];rfl
end HG5
namespace HG5
open PySem HM HG HG4
theorem ZhE.cost{w:Wk}{ls:List Int}{L:List (List Int)}{M:Tb}(F:ZhE w ls L M){c:List Int}{k:Int}(h:Zn M c=some k):c∈L/\∃n:Nat,k=(n:Int)/\Win w ls n c=true/\∀m,m<n->Win w ls m c=false:=by
 obtain⟨t,T,_⟩:=F;rw[T.look]at h;split at h
 ·rename_i hc
  obtain⟨n,h1,_,h2,h3⟩:=Zky h;exact⟨hc,n,h1,h2,h3⟩
 ·cases h
theorem ZhE.all{w:Wk}{ls:List Int}{L:List (List Int)}(hL:Zeu w ls L){M:Tb}(F:ZhE w ls L M){c:List Int}(hc:c∈L){n:Nat}(h:Win w ls n c=true):Zy M c=true:=by
 obtain⟨t,T,hm⟩:=F;have T':=ZnQ hL T;rw[hm]at T';have st:∀c∈L,Win w ls (t+1) c=true->Win w ls t c=true:=λc hc q=>by have e1:=T.look c;have e2:=T'.look c;rw[if_pos hc]at e1 e2;have e3:ZcO w ls t c=ZcO w ls (t+1) c:=e1.symm.trans e2;rw[<-ZcK,e3,ZcK];exact q
 have:=Zkv hL st n c hc h;unfold Zy;rw[T.look,if_pos hc,ZcK];exact this
def ZxN(w:Wk)(ls:List Int)(P:List (List Int))(d:D):Prop:=(∃n:Nat,d=.int n/\(∀p∈P,Win w ls n p=true)/\∀m,m<n->¬∀p∈P,Win w ls m p=true)\/(d=.none/\∀n,¬∀p∈P,Win w ls n p=true)
theorem Zxz:ApD ap:=⟨λ_=>rfl,λ_ _=>rfl⟩
end HG5
namespace HGT
open PySem HM
open HG
open HG5
def ZdF:SF :=
 (ZeA 0 (ZC (eOf (ZR (Za4 0) (tV (Zcb (Zd 0) (Zr 2))) (Zd 0)))))
def ZH:List D->Option D:=fnOf 2 2 ZdF
def ZlO:SF :=
 (ZC (eIx (bOf (Zj ZH (Zb (Zj ZD (Zb (Zd 0) Zk)) (Zb (Zd 1) Zk)))) (eC (.int 0))))
def ZaA:List D->Option D:=fnOf 2 2 ZlO
def ZjC(ap:AP):SF :=
 (Zo (Zcj (Zj Zaa (Zb (Zd 0) Zk)))
  (Zo (Zcj (Zj ZN (Zb (Zd 0) (Zb (Zd 1) Zk))))
  (Zo (Zai 2 (Zj (Zaf ap) (Zb (Zd 0) (Zb (Zd 1) (Zb (Zj ZaV (Zb (Zd 0) Zk)) Zk)))))
  (ZC (eOf (Zc2 (bOf (Zj ZH (Zb (Zd 2) (Zb (Zj (Zaz ap) (Zb (Zd 0) (Zb (Zd 2) Zk))) Zk))))))))))
def ZfH(ap:AP):List D->Option D:=fnOf 2 3 (ZjC ap)
def Zdv(ap:AP):SF :=
 (Zo (Zcj (Zj Zaa (Zb (Zd 0) Zk)))
  (Zo (Zcj (Zj ZN (Zb (Zd 0) (Zb (Zd 1) Zk))))
  (Zo (Zai 2 (Zj Zar (Zb (Zd 0) (Zb (Zd 1) (Zb (Zj ZaV (Zb (Zd 0) Zk)) Zk)))))
  (Zo (Zai 3 (Zj (Zaf ap) (Zb (Zd 0) (Zb (Zd 1) (Zb (Zj ZaV (Zb (Zd 0) Zk)) Zk)))))
  (Zo (Zai 4 (Zj (Zaz ap) (Zb (Zd 0) (Zb (Zd 3) Zk))))
  (Zo (sIf (tV (op2 Zfu (Zj ZO (Zb (Zd 2) (Zb (Zd 4) Zk))) (eC .none))) (ZC (eC .none)) ZaJ)
  (ZC (ZdK (Zb (Zj ZaA (Zb (Zd 2) (Zb (Zd 4) Zk))) (Zb (eOf (Zc2 (bOf (Zj ZH (Zb (Zd 3) (Zb (Zd 4) Zk)))))) Zk))))))))))
def ZcX(ap:AP):List D->Option D:=fnOf 2 5 (Zdv ap)
end HGT
namespace HGT
open PySem HM HG4
open HG
open HG5
theorem Zud{w:Wk}{ls:List Int}{L:List (List Int)}(hL:Zeu w ls L)(hb:∀p∈ZE w ls w.beg,p∈L){c:List Int}(h:Rch w ls c):c∈L:=by
 induction h with
 | beg h=>exact hb _ h
 | step _ hd hc h ih=>exact hL _ ih _ hd hc _ h
theorem Zs9{w:Wk}{ls:List Int}{c:List Int}(h:Zla w ls w.beg c):Rch w ls c:=by
 induction h with
 | beg h=>exact .beg h
 | step _ hd hc h ih=>exact .step ih hd hc h
def ZdJ(w:Wk)(ls c:List Int):Prop:=Rch w ls c/\∀n,Win w ls n c=false
theorem Zey{w:Wk}{ls:List Int}{L:List (List Int)}(hL:Zeu w ls L){M:Tb}(F:ZhE w ls L M){c:List Int}(hc:c∈L):(!Zy M c)=true↔∀n,Win w ls n c=false:=by
 constructor
 ·intro h n
  cases q:Win w ls n c with
  | false=>rfl
  | true=>rw[F.all hL hc q]at h; cases h
 ·intro h
  cases q:Zy M c with
  | false=>rfl
  | true=>unfold Zy at q;obtain⟨k,hk⟩:=Zys.mp q;obtain⟨_,n,_,h2,_⟩:=F.cost hk;rw[h n]at h2;cases h2
theorem Zez(w:Wk)(ls:List Int){L:List (List Int)}(hL:L.length<1000000)(M:Tb):ZH [.dict (Zi (Zbw w ls L)),.dict (Zi (encM M))]=some (.list ((L.filter λc=>!Zy M c).map tupI)):=by
 show Zal (ZdF [some (.pl (.dict (Zi (Zbw w ls L)))),some (.pl (.dict (Zi (encM M))))])=_;have hw:Za4 0 [some (.hd (Zi (Zbw w ls L))),some (.pl (.dict (Zi (encM M))))]=some (L.map tupI):=by show(ZeI (Zi (Zbw w ls L))).map _=_;rw[dec_enc,<-Ziq (wfV w ls) L];rfl
 have hc:=without_go (L:=L) (M:=M) [some (.hd (Zi (Zbw w ls L))),some (.pl (.dict (Zi (encM M))))] rfl;have hb:(L.map tupI).length<big:=by rw[ZxS]; exact hL
 show Zal (match ZC _ [some (.hd (Zi (Zbw w ls L))),some (.pl (.dict (Zi (encM M))))]with | some (.nx r')=>_ | some (.rt d)=>_ | _=>none)=_;unfold ZC eOf ZR;rw[hw];dsimp only;rw[if_pos hb,hc];rfl
where
 without_go {L:List (List Int)} {M:Tb} (r:HM.Env) (h:r[1]?=some (some (.pl (.dict (Zi (encM M)))))):ZaK (tV (Zcb (Zd 0) (Zr 2))) (Zd 0) r (L.map tupI)=some ((L.filter λc=>!Zy M c).map tupI):=by
  rw[Zb5 tupI (λc=>!Zy M c) tupI]
  ·intro c _
   have hk:Zbx (tupI c)=some (Zac c):=Zbk c;have hlk:=Zd2 M c;unfold Zy;cases hq:Zn M c with
   | none=>rw[hq]at hlk; simp[h,dec_enc,hk,hlk]
   | some k=>rw[hq]at hlk; simp[h,dec_enc,hk,hlk]
  ·intro c _ _
   simp
theorem Zok{L:List (List Int)}(hL:L.length<1000000)(M:Tb):ZH [.list (L.map tupI),.dict (Zi (encM M))]=some (.list ((L.filter λc=>!Zy M c).map tupI)):=by
 show Zal (ZdF [some (.pl (.list (L.map tupI))),some (.pl (.dict (Zi (encM M))))])=_;have hc:=Zez.without_go (L:=L) (M:=M) [some (.pl (.list (L.map tupI))),some (.pl (.dict (Zi (encM M))))] rfl;have hb:(L.map tupI).length<big:=by rw[ZxS]; exact hL
 show Zal (ZC _ [some (.pl (.list (L.map tupI))),some (.pl (.dict (Zi (encM M))))])=_;have hw:Za4 0 [some (.pl (.list (L.map tupI))),some (.pl (.dict (Zi (encM M))))]=some (L.map tupI):=rfl;unfold ZC eOf ZR;rw[hw];dsimp only;rw[if_pos hb,hc];rfl
theorem ZhX{g:Gs}(hg:g.length<1000000)(M:Tb){p:List Int}{ps:List (List Int)}(h:(g.map (·.2)).filter (λc=>!Zy M c)=p::ps):ZaA [.list (g.map Zap),.dict (Zi (encM M))]=some (tupI p):=by
 have h1:=Zew g hg;have h2:=Zok (L:=g.map (·.2)) (by rw[ZxS]; exact hg) M;rw[h]at h2;show Zal (ZC (eIx (bOf (Zj ZH (Zb (Zj ZD (Zb (Zd 0) Zk)) (Zb (Zd 1) Zk)))) (eC (.int 0))) [some (.pl (.list (g.map Zap))),some (.pl (.dict (Zi (encM M))))])=_;have h3:Zj ZH (Zb (Zj ZD (Zb (Zd 0) Zk)) (Zb (Zd 1) Zk)) [some (.pl (.list (g.map Zap))),some (.pl (.dict (Zi (encM M))))]=some (.list ((p::ps).map tupI)):=by show(match(match ZD [.list (g.map Zap)]with | some x=>(some [ZCE (Zi (encM M))]).map (x::·) | none=>none)with | some ds=>ZH ds | none=>none)=_;rw[h1];exact h2
 have h4:atD ((p::ps).map tupI) ((0:Nat):Int)=some (tupI p):=Zdr rfl;unfold ZC eIx bOf;rw[h3];show Zal (Zzo Out.rt (atD ((p::ps).map tupI) ((0:Nat):Int)))=_;rw[h4];rfl
structure Known(ap:AP)(w:Wk)(ls:List Int)(L:List (List Int))(M:Tb):Prop where
 co:Zaf ap [w.d,tupI ls,tupI w.beg]=some (.dict (Zi (Zbw w ls L)))
 de:Zaz ap [w.d,.dict (Zi (Zbw w ls L))]=some (.dict (Zi (encM M)))
 nd:L.Nodup
 len:L.length<=128
 cr:∀c∈L,Cr w.many c/\c≠[]
 mem:∀c,c∈L↔Rch w ls c
 cl:Zeu w ls L
 fin:ZhE w ls L M
section
variable{ap:AP}{w:Wk}(hv:Wk.V w)(h7:w.many<=7){ls:List Int}(hl:Cr w.looks.length ls)
include hv h7 hl
theorem known(A:ApD ap):∃L M,Known ap w ls L M:=by obtain⟨L,hco,hnd,hlen,hcr,hrc,hL,hbg⟩:=Zlj hv h7 hl A hv.bc;obtain⟨M,hde,F⟩:=ZnC hv A hnd hcr hlen hL;exact⟨L,M,hco,hde,hnd,hlen,hcr,λc=>⟨λh=>Zs9 (hrc c h),λh=>Zud hL hbg h⟩,hL,F⟩
omit h7 hl in
theorem Known.len5{L:List (List Int)}{M:Tb}(K:Known ap w ls L M)(h5:w.many<=5):L.length<=32:=by have h1:=ZkA K.nd λc hc=>(K.cr c hc).1;have h2:2 ^ w.many<=2 ^ 5:=Nat.pow_le_pow_right (by decide) h5;have h3:2 ^ 5=32:=rfl;omega
omit hv h7 hl in
theorem Known.trap{L:List (List Int)}{M:Tb}(K:Known ap w ls L M)(c:List Int):c∈L.filter (λc=>!Zy M c)↔ZdJ w ls c:=by
 rw[Zyt]
 constructor
 ·rintro ⟨h1,h2⟩
  exact⟨(K.mem c).mp h1,(Zey K.cl K.fin h1).mp h2⟩
 ·rintro ⟨h1,h2⟩
  have:=(K.mem c).mpr h1;exact⟨this,(Zey K.cl K.fin this).mpr h2⟩
def ZV(L:List (List Int))(M:Tb):List (List Int):=Zex (L.filter λc=>!Zy M c)
omit h7 hl in
theorem Known.sorted{L:List (List Int)}{M:Tb}(K:Known ap w ls L M)(h5:w.many<=5):ZdC ((L.filter λc=>!Zy M c).map tupI)=some ((ZV L M).map tupI):=by have h1:=K.len5 hv h5;have h2:=Zy8 (λc=>!Zy M c) L;exact Zkp _ (by omega) (.inr λk hk=>(K.cr k (Zyt.mp hk).1).2)
omit h7 in
theorem Ztd{L:List (List Int)}{M:Tb}(K:Known ap w ls L M)(h5:w.many<=5):ZfH ap [w.d,tupI ls]=some (.list ((ZV L M).map tupI)):=by have hc1:=Zdo hv;have hc2:=ZcN hv hl;have hb:=ZgI w;have h1:=K.co;have h2:=K.de;have h3:=Zez w ls (L:=L) (by have:=K.len; omega) M;have h4:=K.sorted hv h5;show Zal (ZjC ap [some (.pl w.d),some (.pl (tupI ls)),none])=_;simp[ZjC,hc1,hc2,hb,h1,h2,h3,h4,Zal,-Zyg,-ZB9]
omit h7 in
theorem Zo3{L:List (List Int)}{M:Tb}(K:Known ap w ls L M)(h5:w.many<=5):((ZE w ls w.beg).all (Zy M)=true->ZcX ap [w.d,tupI ls]=some .none/\∃n:Int,Zda ap [w.d,tupI ls]=some (.int n)) /\
  ∀p ps,(ZE w ls w.beg).filter (λc=>!Zy M c)=p::ps->ZcX ap [w.d,tupI ls]=some (.tuple [tupI p,.list ((ZV L M).map tupI)])/\Zda ap [w.d,tupI ls]=some .none:=by
 have hc1:=Zdo hv;have hc2:=ZcN hv hl;have hb:=ZgI w;have h1:=K.co;have h2:=K.de;have h3:=Zez w ls (L:=L) (by have:=K.len; omega) M;have h4:=K.sorted hv h5;have hpa:=Zgn hv hl hv.bc;have hsl:=split_len (w:=w) (ls:=ls) (c:=w.beg);have hbl:=hv.bc.len;have hm2:=hv.m2;have hsn:ZZ w ls w.beg≠[]:=λe=>ZhM (w:=w) (ls:=ls) hv.b1 (by unfold ZE; rw[e]; rfl);have hmd:=Zf0 (g:=ZZ w ls w.beg) (by omega) hsn (M:=M);have hf:Zda ap [w.d,tupI ls]=ZO [.list ((ZZ w ls w.beg).map Zap),.dict (Zi (encM M))]:=by
  show Zal (Zie ap [some (.pl w.d),some (.pl (tupI ls)),none,none])=_;have:∀q:Option D,Zal (q.map Out.rt)=q:=λq=>by cases q<;>rfl
  simp[Zie,hc1,hc2,hb,h1,h2,hpa,this]
 constructor
 ·intro hall
  have hne:((ZZ w ls w.beg).map (·.2))≠[]:=λe=>hsn (ZBl.mp e);obtain⟨m,hm⟩:∃m,Zb0 ((ZZ w ls w.beg).map (·.2)) M=some m:=by
   cases q:Zb0 ((ZZ w ls w.beg).map (·.2)) M with
   | none=>have:=Zku hne q; rw[show((ZZ w ls w.beg).map (·.2)).all (Zy M)=true from hall]at this; cases this
   | some m=>exact⟨m,rfl⟩
  rw[hm]at hmd;have hmd:ZO [.list ((ZZ w ls w.beg).map Zap),.dict (Zi (encM M))]=some (.int m):=hmd;refine⟨?_,m,by rw[hf,hmd]⟩;show Zal (Zdv ap [some (.pl w.d),some (.pl (tupI ls)),none,none,none])=_;simp[Zdv,hc1,hc2,hb,h1,h2,hpa,hmd,Zal]
 ·intro p ps hfl
  have hall:((ZZ w ls w.beg).map (·.2)).all (Zy M)=false:=by
   cases q:((ZZ w ls w.beg).map (·.2)).all (Zy M)with
   | false=>rfl
   | true =>
    have hp:p∈(ZE w ls w.beg).filter λc=>!Zy M c:=by rw[hfl]; exact ZxU ..
    obtain⟨a1,a2⟩:=Zyt.mp hp;rw[Zx0.mp q p a1]at a2;cases a2
  have hmd:ZO [.list ((ZZ w ls w.beg).map Zap),.dict (Zi (encM M))]=some .none:=by rw[hmd];unfold Zb0;rw[hall];rfl
  have hft:=ZhX (g:=ZZ w ls w.beg) (by omega) M hfl;refine⟨?_,by rw[hf,hmd]⟩;show Zal (Zdv ap [some (.pl w.d),some (.pl (tupI ls)),none,none,none])=_;simp[Zdv,hc1,hc2,hb,h1,h2,hpa,hmd,hft,h3,h4,Zal,-Zyg,-ZB9]
end
end HGT
namespace HG13
open PySem HM
open HG
open HG5
open HGT
def Zdw(ap:AP):SF :=
 (ZdW 4 (ZdK (Zb (Zd 5) (Zb (eOf (Zdc (Zah (bOf (Zav (Zr 2) (Zd 5)))) Zam (ZdK (Zb (Zd 0) (Zb (Zj ZaA (Zb (Zd 1) (Zb (Zd 5) Zk))) Zk))))) Zk))))
def Zfk(ap:AP):SF :=
 (Zo (Zcj (Zj Zaa (Zb (Zd 0) Zk)))
  (Zo (Zcj (Zj ZN (Zb (Zd 0) (Zb (Zd 1) Zk))))
  (Zo (Zai 2 (Zj (Zaf ap) (Zb (Zd 0) (Zb (Zd 1) (Zb (Zj ZaV (Zb (Zd 0) Zk)) Zk)))))
  (Zo (Zai 3 (Zj (Zaz ap) (Zb (Zd 0) (Zb (Zd 2) Zk))))
  (Zo (Z8 4 (Zdg Zk))
  (Zo (ZbF 5 (Zah (bOf (eOf (Zc2 (bOf (Zj ZH (Zb (Zd 2) (Zb (Zd 3) Zk)))))))) (Zdw ap))
  (ZgO 4 (ZC (Zd 4)))))))))
def Zeb(ap:AP):List D->Option D:=fnOf 2 6 (Zfk ap)
def ZbS(ap:AP):SF :=
 (Zo (sIf (tOr (tV (Zj ZbD (Zb (Zd 1) (Zb (Zd 6) Zk)))) (tV (Zcb (Zd 6) (Zr 5)))) (ZC (eC (.bool false))) ZaJ)
  (Zo (sIf (tV (op2 gEq (Zav (Zr 5) (Zd 6)) (eOf (Zdg Zk)))) (ZC (eC (.bool true))) ZaJ)
  (Zai 6 (eIx (bOf (eIx (ZeN 5 (Zd 6)) (op2 ZjQ (Zj ZB (Zb (op2 Zbb (Zj ZM (Zb (Zd 0) (Zb (eC (.int 0)) Zk))) (op2 Zb4 (eC (.int 17)) (Zd 12))) (Zb (eC (.int 9829)) (Zb (eC (.int 997)) Zk)))) (Zbg (ZeN 5 (Zd 6)))))) (eC (.int 1))))))
def ZgW(ap:AP):SF :=
 (Zo (Z8 10 (Zdc (Zah (bOf (Zj ZdD (Zb (Zd 1) (Zb (Zd 2) (Zb (Zj ZcG (Zb (Zd 1) (Zb (Zd 6) (Zb (Zd 8) Zk)))) Zk)))))) (tV (Zoi (Zd 1) (Zr 5))) (Zd 1)))
  (ZgO 10 (sIf (tOr (tV (op2 gEq (Zd 10) (eOf (Zdg Zk)))) (tV (op2 gNe (Zd 9) (eIx (Zr 10) (eC (.int 0)))))) (ZC (eC (.bool false))) ZaJ)))
def ZgX(ap:AP):SF :=
 (Zo (sIf (tOr (tV (Zj ZbD (Zb (Zd 1) (Zb (Zd 6) Zk)))) (tOr (Zdd (tV (Zfi (Zd 7) .list))) (tV (op2 gNe (eOf (ZR (Zah (bOf (Zd 7))) Zam (eIx (Zr 0) (eC (.int 0))))) (Zj ZdU (Zb (Zd 1) (Zb (Zd 6) Zk))))))) (ZC (eC (.bool false))) ZaJ)
  (Zo (Zi0 8 9 (Zah (bOf (Zd 7))) (ZgW ap))
  (ZhT 5 (Zd 6) (Zd 7))))
def ZmD(ap:AP):SF :=
 (Zo (Zai 1 (Zj Za8 (Zb (Zd 0) (Zb (eC (.int 1)) Zk))))
  (Zo (Zai 2 (Zj Zcw (Zb (Zd 1) (Zb (Zj ZM (Zb (Zd 0) (Zb (eC (.int 0)) Zk))) Zk))))
  (Zo (Zai 3 (Zj (ZfH ap) (Zb (Zd 1) (Zb (Zd 2) Zk))))
  (Zo (Zai 4 (Zj (Zeb ap) (Zb (Zd 1) (Zb (Zd 2) Zk))))
  (Zo (sIf (tOr (Zdd (tV (Zfi (Zd 4) .list))) (tV (op2 gNe (eOf (ZR (Zah (bOf (Zd 4))) Zam (eIx (Zr 0) (eC (.int 0))))) (Zd 3)))) (ZC (eC (.bool false))) ZaJ)
  (Zo (Z8 5 fDt)
  (Zo (Zi0 6 7 (Zah (bOf (Zd 4))) (ZgX ap))
  (Zo (Zai 11 (Zj (ZcX ap) (Zb (Zd 1) (Zb (Zd 2) Zk))))
  (Zo (sIf (tV (op2 ZqA (Zd 11) (eC .none))) (ZC (op2 Zfu (Zj (Zda ap) (Zb (Zd 1) (Zb (Zd 2) Zk))) (eC .none))) ZaJ)
  (Zo (Zai 6 (eIx (Zr 11) (eC (.int 0))))
  (Zo (ZbF 12 (Zb6 (eC (.int 9))) (ZbS ap))
  (ZC (eC (.bool true))))))))))))))
def ZfI(ap:AP):List D->Option D:=fnOf 1 13 (ZmD ap)
end HG13
namespace HG13
open PySem HM HG4
open HG
open HG5
open HGT
theorem Znd{w:Wk}{ls:List Int}:∀(P:List (List Int)),(∀p∈P,∃n,Win w ls n p=true)->∃n,∀p∈P,Win w ls n p=true
 | [],_=>⟨0,λp h=>(by simp at h)⟩
 | p::P,h=>by
  obtain⟨n,hn⟩:=h p (ZxU ..);obtain⟨m,hm⟩:=Znd P λq hq=>h q (ZxW _ hq);refine⟨n+m,λq hq=>?_⟩;rcases Zye.mp hq with e | hq
  ·rw[e]; exact ZfX (by omega) hn
  ·exact ZfX (by omega) (hm q hq)
section
variable{ap:AP}{w:Wk}{ls:List Int}{L:List (List Int)}{M:Tb}
def ftV(M:Tb)(w:Wk)(ls c:List Int)(d:Int):List Int:=((ZE w ls (ZY w c d)).filter λp=>!Zy M p).headD []
theorem Zpl(K:Known ap w ls L M){c:List Int}(hc:c∈L){d:Int}(hd:d∈doV w c){p:List Int}(hp:p∈ZE w ls (ZY w c d)):p∈L:=by obtain⟨d0,d1,d2⟩:=Zcn hd;have e:((d.toNat:Nat):Int)=d:=ZAd d0;exact K.cl c hc d.toNat (by omega) (by rw[e]; exact d2) p (by rw[e]; exact hp)
theorem ZhF(K:Known ap w ls L M){c:List Int}(ht:ZdJ w ls c){d:Int}(hd:d∈doV w c):∃ps,(ZE w ls (ZY w c d)).filter (λp=>!Zy M p)=ftV M w ls c d::ps/\ZdJ w ls (ftV M w ls c d):=by
 have hc:=(K.mem c).mpr ht.1;obtain⟨d0,d1,d2⟩:=Zcn hd;have e:((d.toNat:Nat):Int)=d:=ZAd d0;unfold ftV;cases q:(ZE w ls (ZY w c d)).filter (λp=>!Zy M p)with
 | cons p ps =>
  have hp:p∈(ZE w ls (ZY w c d)).filter (λp=>!Zy M p):=by rw[q]; exact ZxU ..
  obtain⟨h1,h2⟩:=Zyt.mp hp;have hpl:=Zpl K hc hd h1;exact⟨ps,rfl,(K.mem p).mp hpl,(Zey K.cl K.fin hpl).mp h2⟩
 | nil =>
  exfalso;obtain⟨n,hn⟩:=Znd (w:=w) (ls:=ls) (ZE w ls (ZY w c d)) λp hp=>by
   have h1:=ZAn.mp q p hp;have h2:Zy M p=true:=by
    cases hq:Zy M p with
    | true=>rfl
    | false=>rw[hq]at h1; exact absurd rfl h1
   unfold Zy at h2;obtain⟨k,hk⟩:=Zys.mp h2;obtain⟨_,n,_,h3,_⟩:=K.fin.cost hk;exact⟨n,h3⟩
  have hw:Win w ls (n+1) c=true:=by
   show(Z4 w c||(ZxZ w.deeds.length).any λd=>ZbO w c d&&(ZE w ls (ZY w c d)).all λp=>Win w ls n p)=true;rw[Zzm]
   right
   refine ZyM.mpr ⟨d.toNat,Zyh.mpr (by omega),?_⟩;rw[e,Zyd];exact⟨d2,Zx0.mpr hn⟩
  rw[ht.2]at hw;cases hw
def Zz(M:Tb)(w:Wk)(ls c:List Int):List D:=(doV w c).map λd=>.tuple [dI d,tupI (ftV M w ls c d)]
def ZaE(M:Tb)(w:Wk)(ls c:List Int):D:=.tuple [tupI c,.list (Zz M w ls c)]
variable(hv:Wk.V w)(h7:w.many<=7)(hl:Cr w.looks.length ls)
include hv
theorem Zr7(K:Known ap w ls L M){c:List Int}(ht:ZdJ w ls c){acc:List D}(ha:acc.length<1000000)(e0 e1:Option B) :
  (Zdw ap) [e0,e1,some (.pl (.dict (Zi (Zbw w ls L)))),some (.pl (.dict (Zi (encM M)))),some (.ol acc),some (.pl (tupI c))]=some (.nx [e0,e1,some (.pl (.dict (Zi (Zbw w ls L)))),some (.pl (.dict (Zi (encM M)))),some (.ol (acc++[ZaE M w ls c])),some (.pl (tupI c))]):=by
 have hc:=(K.mem c).mpr ht.1;have hcr:=(K.cr c hc).1;have hk:Zbx (tupI c)=some (Zac c):=Zbk c;have hlk:=Zgq (wfV w ls) L c;rw[if_pos hc]at hlk;have hi:Zah (bOf (Zav (Zr 2) (Zd 5))) [e0,e1,some (.pl (.dict (Zi (Zbw w ls L)))),some (.pl (.dict (Zi (encM M)))),some (.ol acc),some (.pl (tupI c))]=some ((doV w c).map (ZjX w ls c)):=by
  have hwd:=ZlK w ls c;unfold Zkz at hwd;injection hwd with hwd
  simp[dec_enc,hk,hlk,hwd]
 have e:=ZiR (c:=Zam) (e:=ZdK (Zb (Zd 0) (Zb (Zj ZaA (Zb (Zd 1) (Zb (Zd 5) Zk))) Zk))) (r:=[e0,e1,some (.pl (.dict (Zi (Zbw w ls L)))),some (.pl (.dict (Zi (encM M)))),some (.ol acc),some (.pl (tupI c))]) dI (λd=>ZBs ((ZZ w ls (ZY w c d)).map Zap)) (λ_=>true) (λd=>Zyv [dI d,tupI (ftV M w ls c d)]) (doV w c) (λ_ _=>rfl) (λd hd _=>by obtain⟨d0,d1,_⟩:=Zcn hd;obtain⟨ps,hf,_⟩:=ZhF K ht hd;have:=split_len (w:=w) (ls:=ls) (c:=ZY w c d);have:=(ZeQ hv hcr d0 d1).len;have:=hv.m2;have hft:=ZhX (g:=ZZ w ls (ZY w c d)) (by omega) M hf;simp[hft]);rw[ZAC.mpr λ_ _=>rfl]at e;have hb:((doV w c).map (ZjX w ls c)).length<big:=by rw[ZxS];have:=Zg7 w c;have:=hv.d2;show _<1000000;omega
 have hf:Zdc (Zah (bOf (Zav (Zr 2) (Zd 5)))) Zam (ZdK (Zb (Zd 0) (Zb (Zj ZaA (Zb (Zd 1) (Zb (Zd 5) Zk))) Zk))) [e0,e1,some (.pl (.dict (Zi (Zbw w ls L)))),some (.pl (.dict (Zi (encM M)))),some (.ol acc),some (.pl (tupI c))]=some (.ol (Zz M w ls c)):=by unfold Zdc;rw[hi];dsimp only;rw[if_pos hb];have e':((doV w c).map λx=>Zyv [dI x,.list ((ZZ w ls (ZY w c x)).map Zap)])=(doV w c).map (ZjX w ls c):=rfl;rw[<-e',e];rfl
 have hE:eOf (Zdc (Zah (bOf (Zav (Zr 2) (Zd 5)))) Zam (ZdK (Zb (Zd 0) (Zb (Zj ZaA (Zb (Zd 1) (Zb (Zd 5) Zk))) Zk)))) [e0,e1,some (.pl (.dict (Zi (Zbw w ls L)))),some (.pl (.dict (Zi (encM M)))),some (.ol acc),some (.pl (tupI c))]=some (.list (Zz M w ls c)):=by unfold eOf;rw[hf];rfl
 unfold Zdw;generalize eOf (Zdc (Zah (bOf (Zav (Zr 2) (Zd 5)))) Zam (ZdK (Zb (Zd 0) (Zb (Zj ZaA (Zb (Zd 1) (Zb (Zd 5) Zk))) Zk))))=E at hE ⊢;simp[hE,ha,ZaE]
theorem Zpw(K:Known ap w ls L M)(e0 e1:Option B):∀(cs:List (List Int)) (acc:List D) (o:Option B),(∀c∈cs,ZdJ w ls c)->acc.length+cs.length<100000 ->
  ∃o',ZaG 5 (Zdw ap) (cs.map tupI) [e0,e1,some (.pl (.dict (Zi (Zbw w ls L)))),some (.pl (.dict (Zi (encM M)))),some (.ol acc),o]=some (.nx [e0,e1,some (.pl (.dict (Zi (Zbw w ls L)))),some (.pl (.dict (Zi (encM M)))),some (.ol (acc++cs.map (ZaE M w ls))),o'])
 | [],acc,o,_,_=>⟨o,by rw[ZzI,ZzI,Zyu]; rfl⟩
 | c::cs,acc,o,h,hlen=>by rw[Zx8]at hlen;obtain⟨o',ih⟩:=Zpw K e0 e1 cs (acc++[ZaE M w ls c]) (some (.pl (tupI c))) (λx hx=>h x (ZxW _ hx)) (by rw[Zyc,Zy7]; omega);refine⟨o',?_⟩;rw[ZxY,ZxY,show acc++ZaE M w ls c::cs.map (ZaE M w ls)=(acc++[ZaE M w ls c])++cs.map (ZaE M w ls) by simp,<-ih];show(match(Zdw ap) [e0,e1,some (.pl (.dict (Zi (Zbw w ls L)))),some (.pl (.dict (Zi (encM M)))),some (.ol acc),some (.pl (tupI c))]with | some (.nx r')=>_ | some (.ct r')=>_ | some (.bk r')=>_ | some (.rt d)=>_ | none=>_)=_;rw[Zr7 hv K (h c (ZxU ..)) (by omega) e0 e1]
omit hv in
theorem Zhz(K:Known ap w ls L M)(c:List Int):c∈ZV L M↔ZdJ w ls c:=by unfold ZV;rw[(Zci _).mem_iff];exact K.trap c
omit hv in
theorem Zof(K:Known ap w ls L M):(ZV L M).length<=128:=by unfold ZV;rw[(Zci _).length_eq];exact ZyG (Zy8 _ _) K.len
omit hv in
theorem ZuR(K:Known ap w ls L M):(ZV L M).Nodup:=(Zci _).nodup_iff.mpr (K.nd.filter _)
include hl
theorem Zqe(K:Known ap w ls L M)(h5:w.many<=5):Zeb ap [w.d,tupI ls]=some (.list ((ZV L M).map (ZaE M w ls))):=by
 have hc1:=Zdo hv;have hc2:=ZcN hv hl;have hb:=ZgI w;have h1:=K.co;have h2:=K.de;have h3:=Zez w ls (L:=L) (by have:=K.len; omega) M;have h4:=K.sorted hv h5;have htl:=Zof K;obtain⟨o',g⟩:=Zpw hv K (some (.pl w.d)) (some (.pl (tupI ls))) (ZV L M) [] none (λc hc=>(Zhz K c).mp hc) (by simp; omega);rw[ZzW]at g;show Zal (Zfk ap [some (.pl w.d),some (.pl (tupI ls)),none,none,none,none])=_;have e:Zfk ap [some (.pl w.d),some (.pl (tupI ls)),none,none,none,none]=some (.rt (.list ((ZV L M).map (ZaE M w ls)))):=by
  unfold Zfk;refine Z1 (P:=λq=>q=_) (r':=[some (.pl w.d),some (.pl (tupI ls)),none,none,none,none]) (by simp[hc1]) ?_;refine Z1 (P:=λq=>q=_) (r':=[some (.pl w.d),some (.pl (tupI ls)),none,none,none,none]) (by simp[hc2]) ?_;refine Z1 (P:=λq=>q=_) (r':=[some (.pl w.d),some (.pl (tupI ls)),some (.pl (.dict (Zi (Zbw w ls L)))),none,none,none]) (by simp[hb,h1]) ?_;refine Z1 (P:=λq=>q=_) (r':=[some (.pl w.d),some (.pl (tupI ls)),some (.pl (.dict (Zi (Zbw w ls L)))),some (.pl (.dict (Zi (encM M)))),none,none]) (by simp[h2]) ?_;refine Z1 (P:=λq=>q=_) (r':=[some (.pl w.d),some (.pl (tupI ls)),some (.pl (.dict (Zi (Zbw w ls L)))),some (.pl (.dict (Zi (encM M)))),some (.ol []),none]) (by simp) ?_;have hi:Zah (bOf (eOf (Zc2 (bOf (Zj ZH (Zb (Zd 2) (Zb (Zd 3) Zk))))))) [some (.pl w.d),some (.pl (tupI ls)),some (.pl (.dict (Zi (Zbw w ls L)))),some (.pl (.dict (Zi (encM M)))),some (.ol []),none]=some ((ZV L M).map tupI):=by have hw:Zj ZH (Zb (Zd 2) (Zb (Zd 3) Zk)) [some (.pl w.d),some (.pl (tupI ls)),some (.pl (.dict (Zi (Zbw w ls L)))),some (.pl (.dict (Zi (encM M)))),some (.ol []),none]=some (.list ((L.filter λc=>!Zy M c).map tupI)):=h3;unfold Zah bOf eOf Zc2;dsimp only;rw[hw];show(match Zzo B.pl (Option.bind (Zzo _ (ZdC ((L.filter λc=>!Zy M c).map tupI))) frz)with | some x=>Zcm x | none=>none)=_;rw[h4];rfl
  refine Z1 (P:=λq=>q=_) (r':=[some (.pl w.d),some (.pl (tupI ls)),some (.pl (.dict (Zi (Zbw w ls L)))),some (.pl (.dict (Zi (encM M)))),some (.ol ((ZV L M).map (ZaE M w ls))),o']) ?_ (by simp);unfold ZbF;rw[hi];dsimp only;rw[if_pos (by rw[ZxS]; show _<1000000; omega)];exact g
 rw[e];rfl
end
end HG13
namespace HG13
open PySem HM HG4
open HG
open HG5
open HGT
def Zae(f:List Int->D)(C:List (List Int)):List (List Ky × D):=C.map λc=>(Zac c,f c)
theorem ZrJ(f:List Int->D)(C:List (List Int))(k:List Int):Zn (Zae f C) (Zac k)=if k∈C then some (f k)else none:=by
 unfold Zn Zae
 induction C with
 | nil=>rfl
 | cons c C ih =>
  rw[ZxY,ZyH]
  by_cases h:c=k
  ·subst h
   rw[if_pos (ZxU ..)];simp
  ·have h':decide ((Zac c,f c).1=Zac k)=false:=decide_eq_false λe=>h (ZdP e)
   rw[h'];dsimp only;rw[ih]
   by_cases q:k∈C
   ·rw[if_pos q,if_pos (ZxW _ q)]
   ·rw[if_neg q,if_neg λz=>by
     rcases Zye.mp z with e | e
     ·exact h e.symm
     ·exact q e]
theorem Zte{f:List Int->D}{C:List (List Int)}{k:List Int}(h:k ∉ C):putD (Zae f C) (Zac k) (f k)=Zae f (C++[k]):=by
 unfold putD;rw[if_neg]
 ·unfold Zae
  rw[Zyr];rfl
 ·intro z
  obtain⟨p,hp,e⟩:=ZyM.mp z;unfold Zae at hp;obtain⟨c,hc,rfl⟩:=Zx3.mp hp;have e:=ZdP (of_decide_eq_true e);subst e;exact h hc
theorem Zvl{g:D->D->Option D}{a b:EF}{r:HM.Env}{x y:D}(h1:a r=some x)(h2:b r=some y):op2 g a b r=g x y:=by unfold op2;rw[h1,h2]
abbrev ev(w:Wk)(ls:List Int)(T:List (List Int))(q0 q4 q5 q6 q7 q8 q9 q10 q11 q12:Option B):HM.Env:=[q0,some (.pl w.d),some (.pl (tupI ls)),some (.pl (.list (T.map tupI))),q4,q5,q6,q7,q8,q9,q10,q11,q12]
theorem ZuL(L:List (List Int)):nbD 2 (.list (L.map tupI))=true:=Znw λd hd=>by obtain⟨c,_,rfl⟩:=Zx3.mp hd;exact Zd4 0 c
section
variable{ap:AP}{w:Wk}{ls:List Int}{L:List (List Int)}{M:Tb}(hv:Wk.V w)(hl:Cr w.looks.length ls)(K:Known ap w ls L M)
include hv hl K
theorem Zrs{c:List Int}(ht:ZdJ w ls c){d:Int}(hd:d∈doV w c)(q0 q4 q5 q7 q10 q11 q12:Option B) :
  ∃p10,(ZgW ap) (ev w ls (ZV L M) q0 q4 q5 (some (.pl (tupI c))) q7 (some (.pl (dI d))) (some (.pl (tupI (ftV M w ls c d)))) q10 q11 q12)=some (.nx (ev w ls (ZV L M) q0 q4 q5 (some (.pl (tupI c))) q7 (some (.pl (dI d))) (some (.pl (tupI (ftV M w ls c d)))) p10 q11 q12)):=by
 have hc:=(K.mem c).mpr ht.1;have hcr:=K.cr c hc;obtain⟨d0,d1,d2⟩:=Zcn hd;obtain⟨ps,hf,_⟩:=ZhF K ht hd;have ha:=ZsV hv hcr.1 hcr.2 d0 d1 d2;have hlc:=ZeQ hv hcr.1 d0 d1;have hp:=Zsw hv hl hlc (Zkq hcr.2 d2);have hsl:=split_len (w:=w) (ls:=ls) (c:=ZY w c d);have hll:=hlc.len;have hm2:=hv.m2;have hmt:=Zhz K;generalize ZV L M=T at hmt ⊢;have hi:Zah (bOf (Zj ZdD (Zb (Zd 1) (Zb (Zd 2) (Zb (Zj ZcG (Zb (Zd 1) (Zb (Zd 6) (Zb (Zd 8) Zk)))) Zk))))) (ev w ls T q0 q4 q5 (some (.pl (tupI c))) q7 (some (.pl (dI d))) (some (.pl (tupI (ftV M w ls c d)))) q10 q11 q12)=some ((ZZ w ls (ZY w c d)).map Zap):=by have e1:Zj ZcG (Zb (Zd 1) (Zb (Zd 6) (Zb (Zd 8) Zk))) (ev w ls T q0 q4 q5 (some (.pl (tupI c))) q7 (some (.pl (dI d))) (some (.pl (tupI (ftV M w ls c d)))) q10 q11 q12)=some (tupI (ZY w c d)):=ha;have ha':ZcG [w.d,tupI c,dI d]=some (tupI (ZY w c d)):=ha;simp[ha',hp]
 have e:=ZiR (c:=tV (Zoi (Zd 1) (Zr 5))) (e:=Zd 1) (r:=ev w ls T q0 q4 q5 (some (.pl (tupI c))) q7 (some (.pl (dI d))) (some (.pl (tupI (ftV M w ls c d)))) q10 q11 q12) (λp:List Int × List Int=>tupI p.1) (λp=>tupI p.2) (λp=>T.contains p.2) (λp=>tupI p.2) (ZZ w ls (ZY w c d)) (λp _=>by simp[Zsx,-ZzL]) (λp _ _=>by simp);have e':((ZZ w ls (ZY w c d)).map λp:List Int × List Int=>Zyv [tupI p.1,tupI p.2])=(ZZ w ls (ZY w c d)).map Zap:=rfl;have e2:((ZZ w ls (ZY w c d)).filter λp=>T.contains p.2).map (λp=>tupI p.2)=(ftV M w ls c d::ps).map tupI:=by rw[<-hf];unfold ZE;rw[ZB9,Zyg];congr 1;refine List.filter_congr λp hp=>?_;have hpl:=Zpl K hc hd (show p.2∈ZE w ls (ZY w c d) from Zx3.mpr ⟨p,hp,rfl⟩);show T.contains p.2=!Zy M p.2;apply ZAF.mpr;rw[List.contains_iff_mem,hmt,Zey K.cl K.fin hpl];exact⟨λq=>q.2,λq=>⟨(K.mem _).mp hpl,q⟩⟩
 refine⟨some (.pl (.list ((ftV M w ls c d::ps).map tupI))),?_⟩;unfold ZgW;refine Z1 (P:=λq=>q=_) (r':=ev w ls T q0 q4 q5 (some (.pl (tupI c))) q7 (some (.pl (dI d))) (some (.pl (tupI (ftV M w ls c d)))) (some (.ol ((ftV M w ls c d::ps).map tupI))) q11 q12) ?_ ?_
 ·unfold Z8 Zdc
  rw[hi];dsimp only;rw[if_pos (by rw[ZxS]; show _<1000000; omega),<-e',e,e2];rfl
 ·have hg:gEq (.list ((ftV M w ls c d::ps).map tupI)) (.list [])=some (.bool false):=ZtE _
  have hn:gNe (tupI (ftV M w ls c d)) (tupI (ftV M w ls c d))=some (.bool false):=Zj1 (Zd4 0 _) (by decide);have hat:atD ((ftV M w ls c d::ps).map tupI) ((0:Nat):Int)=some (tupI (ftV M w ls c d)):=Zdr rfl;show sIf _ _ _ (ev w ls T q0 q4 q5 (some (.pl (tupI c))) q7 (some (.pl (dI d))) (some (.pl (tupI (ftV M w ls c d)))) (some (.pl (.list ((ftV M w ls c d::ps).map tupI)))) q11 q12)=_;have h1:tV (op2 gEq (Zd 10) (eOf (Zdg Zk))) (ev w ls T q0 q4 q5 (some (.pl (tupI c))) q7 (some (.pl (dI d))) (some (.pl (tupI (ftV M w ls c d)))) (some (.pl (.list ((ftV M w ls c d::ps).map tupI)))) q11 q12)=some false:=by have:op2 gEq (Zd 10) (eOf (Zdg Zk)) (ev w ls T q0 q4 q5 (some (.pl (tupI c))) q7 (some (.pl (dI d))) (some (.pl (tupI (ftV M w ls c d)))) (some (.pl (.list ((ftV M w ls c d::ps).map tupI)))) q11 q12)=gEq (.list ((ftV M w ls c d::ps).map tupI)) (.list []):=rfl;unfold tV;rw[this,hg]
  have h2:tV (op2 gNe (Zd 9) (eIx (Zr 10) (eC (.int 0)))) (ev w ls T q0 q4 q5 (some (.pl (tupI c))) q7 (some (.pl (dI d))) (some (.pl (tupI (ftV M w ls c d)))) (some (.pl (.list ((ftV M w ls c d::ps).map tupI)))) q11 q12)=some false:=by have e3:eIx (Zr 10) (eC (.int 0)) (ev w ls T q0 q4 q5 (some (.pl (tupI c))) q7 (some (.pl (dI d))) (some (.pl (tupI (ftV M w ls c d)))) (some (.pl (.list ((ftV M w ls c d::ps).map tupI)))) q11 q12)=some (tupI (ftV M w ls c d)):=hat;have e4:Zd 9 (ev w ls T q0 q4 q5 (some (.pl (tupI c))) q7 (some (.pl (dI d))) (some (.pl (tupI (ftV M w ls c d)))) (some (.pl (.list ((ftV M w ls c d::ps).map tupI)))) q11 q12)=some (tupI (ftV M w ls c d)):=rfl;unfold tV op2;rw[e3,e4];dsimp only;rw[hn]
  unfold sIf tOr;rw[h1];dsimp only;rw[h2];rfl
theorem ZpE{c:List Int}(ht:ZdJ w ls c)(q0 q4 q5 q7 q11 q12:Option B):∀(ds:List Int) (q8 q9 q10:Option B),(∀d∈ds,d∈doV w c) ->
  ∃p8 p9 p10,ZeB 8 9 (ZgW ap) (ds.map λd=>.tuple [dI d,tupI (ftV M w ls c d)]) (ev w ls (ZV L M) q0 q4 q5 (some (.pl (tupI c))) q7 q8 q9 q10 q11 q12)=some (.nx (ev w ls (ZV L M) q0 q4 q5 (some (.pl (tupI c))) q7 p8 p9 p10 q11 q12))
 | [],q8,q9,q10,_=>⟨q8,q9,q10,rfl⟩
 | d::ds,q8,q9,q10,h=>by obtain⟨p10,e⟩:=Zrs hv hl K ht (h d (ZxU ..)) q0 q4 q5 q7 q10 q11 q12;obtain⟨r8,r9,r10,ih⟩:=ZpE ht q0 q4 q5 q7 q11 q12 ds (some (.pl (dI d))) (some (.pl (tupI (ftV M w ls c d)))) p10 λx hx=>h x (ZxW _ hx);refine⟨r8,r9,r10,?_⟩;rw[<-ih,ZxY];show(match(ZgW ap) (ev w ls (ZV L M) q0 q4 q5 (some (.pl (tupI c))) q7 (some (.pl (dI d))) (some (.pl (tupI (ftV M w ls c d)))) q10 q11 q12)with | some (.nx r')=>_ | some (.ct r')=>_ | some (.bk r')=>_ | some (.rt d)=>_ | none=>_)=_;rw[e]
theorem Zqo{c:List Int}(ht:ZdJ w ls c){C:List (List Int)}(hn:c ∉ C)(hC:C.length<100000)(q0 q4 q8 q9 q10 q11 q12:Option B) :
  ∃p8 p9 p10,(ZgX ap) (ev w ls (ZV L M) q0 q4 (some (.ot (Zae (λc=>.list (Zz M w ls c)) C))) (some (.pl (tupI c))) (some (.pl (.list (Zz M w ls c)))) q8 q9 q10 q11 q12)=some (.nx (ev w ls (ZV L M) q0 q4 (some (.ot (Zae (λc=>.list (Zz M w ls c)) (C++[c])))) (some (.pl (tupI c))) (some (.pl (.list (Zz M w ls c)))) p8 p9 p10 q11 q12)):=by
 have hc:=(K.mem c).mpr ht.1;have hcr:=K.cr c hc;have hcl:=hcr.1.len;have hm2:=hv.m2;have hth:=Zip hv (c:=c) (by omega);have hthf:Z4 w c=false:=ht.2 0;rw[hthf]at hth;have hdo:=Zq8 hv hcr.1 hcr.2;have hdl:=Zg7 w c;have hd5:=hv.d2;have hrl:(Zz M w ls c).length<1000000:=by unfold Zz; rw[ZxS]; omega
 have hcg:∀r:HM.Env,ZaK Zam (eIx (Zr 0) (eC (.int 0))) r (Zz M w ls c)=some ((doV w c).map dI):=λr=>by unfold Zz;rw[Zbl (λd=>Zyv [dI d,tupI (ftV M w ls c d)]) dI];intro d _;simp
 have hne:gNe (.list ((doV w c).map dI)) (.list ((doV w c).map dI))=some (.bool false):=Zj1 (ZhI 0 _) (by decide);obtain⟨p8,p9,p10,g⟩:=ZpE hv hl K ht q0 q4 (some (.ot (Zae (λc=>.list (Zz M w ls c)) C))) (some (.pl (.list (Zz M w ls c)))) q11 q12 (doV w c) q8 q9 q10 λ_ h=>h;refine⟨p8,p9,p10,?_⟩;generalize ZV L M=T at g ⊢;unfold ZgX;refine Z1 (P:=λq=>q=_) (r':=ev w ls T q0 q4 (some (.ot (Zae (λc=>.list (Zz M w ls c)) C))) (some (.pl (tupI c))) (some (.pl (.list (Zz M w ls c)))) q8 q9 q10 q11 q12) ?_ ?_
 ·simp[hth,hcg,hrl,hdo,hne,-gNe]
 refine Z1 (P:=λq=>q=_) (r':=ev w ls T q0 q4 (some (.ot (Zae (λc=>.list (Zz M w ls c)) C))) (some (.pl (tupI c))) (some (.pl (.list (Zz M w ls c)))) p8 p9 p10 q11 q12) ?_ ?_
 ·have hi:Zah (bOf (Zd 7)) (ev w ls T q0 q4 (some (.ot (Zae (λc=>.list (Zz M w ls c)) C))) (some (.pl (tupI c))) (some (.pl (.list (Zz M w ls c)))) q8 q9 q10 q11 q12)=some (Zz M w ls c):=rfl
  unfold Zi0;rw[hi];dsimp only;rw[if_pos (show(Zz M w ls c).length<big from hrl)];exact g
 ·have hk:Zbx (tupI c)=some (Zac c):=Zbk c
  have hel:(Zae (λc=>ZBs (Zz M w ls c)) C).length<1000000:=by unfold Zae; rw[ZxS]; omega
  rw[<-Zte (f:=λc=>ZBs (Zz M w ls c)) hn];simp[hk,hel]
theorem Zlz(q0 q4 q11 q12:Option B):∀(cs C:List (List Int)) (q6 q7 q8 q9 q10:Option B),(∀c∈cs,ZdJ w ls c)->(C++cs).Nodup->C.length+cs.length<100000 ->
  ∃p6 p7 p8 p9 p10,ZeB 6 7 (ZgX ap) (cs.map (ZaE M w ls)) (ev w ls (ZV L M) q0 q4 (some (.ot (Zae (λc=>.list (Zz M w ls c)) C))) q6 q7 q8 q9 q10 q11 q12)=some (.nx (ev w ls (ZV L M) q0 q4 (some (.ot (Zae (λc=>.list (Zz M w ls c)) (C++cs)))) p6 p7 p8 p9 p10 q11 q12))
 | [],C,q6,q7,q8,q9,q10,_,_,_=>⟨q6,q7,q8,q9,q10,by rw[ZzI,Zyu]; rfl⟩
 | c::cs,C,q6,q7,q8,q9,q10,h,hn,hlen=>by rw[Zx8]at hlen;have hnc:c ∉ C:=λz=>(Zz3.mp hn).2.2 c z c (ZxU ..) rfl;obtain⟨p8,p9,p10,e⟩:=Zqo hv hl K (h c (ZxU ..)) hnc (by omega) q0 q4 q8 q9 q10 q11 q12;obtain⟨r6,r7,r8,r9,r10,ih⟩:=Zlz q0 q4 q11 q12 cs (C++[c]) (some (.pl (tupI c))) (some (.pl (.list (Zz M w ls c)))) p8 p9 p10 (λx hx=>h x (ZxW _ hx)) (by rw[Zzv]; exact hn) (by rw[Zyc,Zy7]; omega);refine⟨r6,r7,r8,r9,r10,?_⟩;rw[show C++c::cs=(C++[c])++cs by simp,<-ih,ZxY];show(match(ZgX ap) (ev w ls (ZV L M) q0 q4 (some (.ot (Zae (λc=>.list (Zz M w ls c)) C))) (some (.pl (tupI c))) (some (.pl (.list (Zz M w ls c)))) q8 q9 q10 q11 q12)with | some (.nx r')=>_ | some (.ct r')=>_ | some (.bk r')=>_ | some (.rt d)=>_ | none=>_)=_;rw[e]
omit hl in
theorem ZiM(ns:List Int){c:List Int}(ht:ZdJ w ls c)(k:Nat)(q4 q7 q8 q9 q10 q11:Option B) :
  (ZbS ap) (ev w ls (ZV L M) (some (.pl (.list (ns.map dI)))) q4 (some (.ot (Zae (λc=>.list (Zz M w ls c)) (ZV L M)))) (some (.pl (tupI c))) q7 q8 q9 q10 q11 (some (.pl (dN k))))=some (.rt (.bool true)) \/
  ∃c',ZdJ w ls c'/\(ZbS ap) (ev w ls (ZV L M) (some (.pl (.list (ns.map dI)))) q4 (some (.ot (Zae (λc=>.list (Zz M w ls c)) (ZV L M)))) (some (.pl (tupI c))) q7 q8 q9 q10 q11 (some (.pl (dN k))))=some (.nx (ev w ls (ZV L M) (some (.pl (.list (ns.map dI)))) q4 (some (.ot (Zae (λc=>.list (Zz M w ls c)) (ZV L M)))) (some (.pl (tupI c'))) q7 q8 q9 q10 q11 (some (.pl (dN k))))):=by
 have hc:=(K.mem c).mpr ht.1;have hcr:=K.cr c hc;have hcl:=hcr.1.len;have hm2:=hv.m2;have hth:=Zip hv (c:=c) (by omega);have hthf:Z4 w c=false:=ht.2 0;rw[hthf]at hth;have hcT:=(Zhz K c).mpr ht;generalize ZV L M=T at hcT ⊢;have hk:Zbx (tupI c)=some (Zac c):=Zbk c;have hlk:=ZrJ (λc=>ZBs (Zz M w ls c)) T c;rw[if_pos hcT]at hlk;have hc0:ZM [.list (ns.map dI),.int 0]=some (.int (Zt ns 0)):=Zdp ns 0;have hmix:=Zb1 (Zt ns 0+17*(k:Int)) 9829 997 (by decide) (by decide);have s1:sIf (tOr (tV (Zj ZbD (Zb (Zd 1) (Zb (Zd 6) Zk)))) (tV (Zcb (Zd 6) (Zr 5)))) (ZC (eC (.bool false))) ZaJ (ev w ls T (some (.pl (.list (ns.map dI)))) q4 (some (.ot (Zae (λc=>.list (Zz M w ls c)) T))) (some (.pl (tupI c))) q7 q8 q9 q10 q11 (some (.pl (dN k))))=some (.nx (ev w ls T (some (.pl (.list (ns.map dI)))) q4 (some (.ot (Zae (λc=>.list (Zz M w ls c)) T))) (some (.pl (tupI c))) q7 q8 q9 q10 q11 (some (.pl (dN k))))):=by simp[hth,hk,hlk]
 have hget:Zav (Zr 5) (Zd 6) (ev w ls T (some (.pl (.list (ns.map dI)))) q4 (some (.ot (Zae (λc=>.list (Zz M w ls c)) T))) (some (.pl (tupI c))) q7 q8 q9 q10 q11 (some (.pl (dN k))))=some (.list (Zz M w ls c)):=by simp[hk,hlk]
 have hnb:∀ds:List Int,nbD 3 (.list (ds.map λd=>Zyv [dI d,tupI (ftV M w ls c d)]))=true:=λds=>Znw λx hx=>by
  obtain⟨d,_,rfl⟩:=Zx3.mp hx;refine Zv8 λy hy=>?_;rcases Zye.mp hy with e | hy
  ·rw[e]; exact Ze0 1 d
  ·rw[Zyb.mp hy]; exact Zd4 0 _
 by_cases hd:doV w c=[]
 ·left
  have hg:gEq (.list (Zz M w ls c)) (.list [])=some (.bool true):=by unfold Zz;rw[hd];exact Zf9 (hnb []) (by decide)
  unfold ZbS;refine Z1 (P:=λq=>q=_) s1 ?_;have h1:tV (op2 gEq (Zav (Zr 5) (Zd 6)) (eOf (Zdg Zk))) (ev w ls T (some (.pl (.list (ns.map dI)))) q4 (some (.ot (Zae (λc=>.list (Zz M w ls c)) T))) (some (.pl (tupI c))) q7 q8 q9 q10 q11 (some (.pl (dN k))))=some true:=by unfold tV op2;rw[hget];show(match gEq (.list (Zz M w ls c)) (.list [])with | some (.bool b)=>some b | _=>none)=_;rw[hg]
  unfold Zo sIf;rw[h1];rfl
 ·right
  have hne:(doV w c).map (λd=>Zyv [dI d,tupI (ftV M w ls c d)])≠[]:=λe=>hd (ZBl.mp e);have hg:gEq (.list (Zz M w ls c)) (.list [])=some (.bool false):=Zg5 (hnb _) (hnb []) (by decide) (by decide) (λe=>hne (by injection e));have hp:0<(doV w c).length:=ZAD.mpr hd;have hll:(Zz M w ls c).length=(doV w c).length:=by unfold Zz; rw[ZxS]
  have h0:0<=ZP (Zt ns 0+17*(k:Int)) 9829 997 % ((doV w c).length:Int):=Int.emod_nonneg _ (by omega);have h1:ZP (Zt ns 0+17*(k:Int)) 9829 997 % ((doV w c).length:Int)<((doV w c).length:Int):=Int.emod_lt_of_pos _ (by omega);generalize hj:ZP (Zt ns 0+17*(k:Int)) 9829 997 % ((doV w c).length:Int)=j at h0 h1;have h2:j.toNat<(doV w c).length:=by omega
  have hat:atD (Zz M w ls c) j=some (.tuple [dI (doV w c)[j.toNat],tupI (ftV M w ls c (doV w c)[j.toNat])]):=Zg1 h0 (by unfold Zz; simp[h2]);obtain⟨_,_,ht'⟩:=ZhF K ht (Zzq h2);refine⟨ftV M w ls c (doV w c)[j.toNat],ht',?_⟩;unfold ZbS;refine Z1 (P:=λq=>q=_) s1 ?_;refine Z1 (P:=λq=>q=_) (r':=ev w ls T (some (.pl (.list (ns.map dI)))) q4 (some (.ot (Zae (λc=>.list (Zz M w ls c)) T))) (some (.pl (tupI c))) q7 q8 q9 q10 q11 (some (.pl (dN k)))) ?_ ?_
  ·have h3:tV (op2 gEq (Zav (Zr 5) (Zd 6)) (eOf (Zdg Zk))) (ev w ls T (some (.pl (.list (ns.map dI)))) q4 (some (.ot (Zae (λc=>.list (Zz M w ls c)) T))) (some (.pl (tupI c))) q7 q8 q9 q10 q11 (some (.pl (dN k))))=some false:=by
    unfold tV op2;rw[hget];show(match gEq (.list (Zz M w ls c)) (.list [])with | some (.bool b)=>some b | _=>none)=_;rw[hg]
   unfold sIf;rw[h3];rfl
  ·have hb:ZeN 5 (Zd 6) (ev w ls T (some (.pl (.list (ns.map dI)))) q4 (some (.ot (Zae (λc=>.list (Zz M w ls c)) T))) (some (.pl (tupI c))) q7 q8 q9 q10 q11 (some (.pl (dN k))))=some (.pl (.list (Zz M w ls c))):=by
    simp[hk,hlk]
   have hlen:Zbg (ZeN 5 (Zd 6)) (ev w ls T (some (.pl (.list (ns.map dI)))) q4 (some (.ot (Zae (λc=>.list (Zz M w ls c)) T))) (some (.pl (tupI c))) q7 q8 q9 q10 q11 (some (.pl (dN k))))=some (.int ((doV w c).length:Int)):=by unfold Zbg;rw[hb];show some (ZyI ((Zz M w ls c).length:Int))=_;rw[hll]
   have hm:Zj ZB (Zb (op2 Zbb (Zj ZM (Zb (Zd 0) (Zb (eC (.int 0)) Zk))) (op2 Zb4 (eC (.int 17)) (Zd 12))) (Zb (eC (.int 9829)) (Zb (eC (.int 997)) Zk))) (ev w ls T (some (.pl (.list (ns.map dI)))) q4 (some (.ot (Zae (λc=>.list (Zz M w ls c)) T))) (some (.pl (tupI c))) q7 q8 q9 q10 q11 (some (.pl (dN k))))=some (.int (ZP (Zt ns 0+17*(k:Int)) 9829 997)):=by simp[hc0,hmix]
   have hmod:op2 ZjQ (Zj ZB (Zb (op2 Zbb (Zj ZM (Zb (Zd 0) (Zb (eC (.int 0)) Zk))) (op2 Zb4 (eC (.int 17)) (Zd 12))) (Zb (eC (.int 9829)) (Zb (eC (.int 997)) Zk)))) (Zbg (ZeN 5 (Zd 6))) (ev w ls T (some (.pl (.list (ns.map dI)))) q4 (some (.ot (Zae (λc=>.list (Zz M w ls c)) T))) (some (.pl (tupI c))) q7 q8 q9 q10 q11 (some (.pl (dN k))))=some (.int j):=by rw[Zvl hm hlen];show(if(0:Int)<((doV w c).length:Int)then some (ZyI (ZP (Zt ns 0+17*(k:Int)) 9829 997 % ((doV w c).length:Int)))else none)=_;rw[if_pos (by omega),hj]
   have hix:eIx (ZeN 5 (Zd 6)) (op2 ZjQ (Zj ZB (Zb (op2 Zbb (Zj ZM (Zb (Zd 0) (Zb (eC (.int 0)) Zk))) (op2 Zb4 (eC (.int 17)) (Zd 12))) (Zb (eC (.int 9829)) (Zb (eC (.int 997)) Zk)))) (Zbg (ZeN 5 (Zd 6)))) (ev w ls T (some (.pl (.list (ns.map dI)))) q4 (some (.ot (Zae (λc=>.list (Zz M w ls c)) T))) (some (.pl (tupI c))) q7 q8 q9 q10 q11 (some (.pl (dN k))))=some (.tuple [dI (doV w c)[j.toNat],tupI (ftV M w ls c (doV w c)[j.toNat])]):=by unfold eIx;rw[hb,hmod];exact hat
   generalize eIx (ZeN 5 (Zd 6)) (op2 ZjQ (Zj ZB (Zb (op2 Zbb (Zj ZM (Zb (Zd 0) (Zb (eC (.int 0)) Zk))) (op2 Zb4 (eC (.int 17)) (Zd 12))) (Zb (eC (.int 9829)) (Zb (eC (.int 997)) Zk)))) (Zbg (ZeN 5 (Zd 6))))=E at hix ⊢;simp[hix]
omit hl in
theorem Zpy(ns:List Int)(q4 q7 q8 q9 q10 q11:Option B):∀(ks:List Nat) (c:List Int) (q12:Option B),ZdJ w ls c ->
  ZaG 12 (ZbS ap) (ks.map dN) (ev w ls (ZV L M) (some (.pl (.list (ns.map dI)))) q4 (some (.ot (Zae (λc=>.list (Zz M w ls c)) (ZV L M)))) (some (.pl (tupI c))) q7 q8 q9 q10 q11 q12)=some (.rt (.bool true)) \/
  ∃r',ZaG 12 (ZbS ap) (ks.map dN) (ev w ls (ZV L M) (some (.pl (.list (ns.map dI)))) q4 (some (.ot (Zae (λc=>.list (Zz M w ls c)) (ZV L M)))) (some (.pl (tupI c))) q7 q8 q9 q10 q11 q12)=some (.nx r')
 | [],c,q12,_=>.inr ⟨_,rfl⟩
 | k::ks,c,q12,ht=>by
  have step:ZaG 12 (ZbS ap) ((k::ks).map dN) (ev w ls (ZV L M) (some (.pl (.list (ns.map dI)))) q4 (some (.ot (Zae (λc=>.list (Zz M w ls c)) (ZV L M)))) (some (.pl (tupI c))) q7 q8 q9 q10 q11 q12)=match(ZbS ap) (ev w ls (ZV L M) (some (.pl (.list (ns.map dI)))) q4 (some (.ot (Zae (λc=>.list (Zz M w ls c)) (ZV L M)))) (some (.pl (tupI c))) q7 q8 q9 q10 q11 (some (.pl (dN k))))with
    | some (.nx r')=>ZaG 12 (ZbS ap) (ks.map dN) r'
    | some (.ct r')=>ZaG 12 (ZbS ap) (ks.map dN) r'
    | some (.bk r')=>some (.nx r')
    | some (.rt d)=>some (.rt d)
    | none=>none:=rfl
  rcases ZiM hv K ns ht k q4 q7 q8 q9 q10 q11 with e | ⟨c',ht',e⟩
  ·left
   rw[step,e]
  ·rw[step,e]
   exact Zpy ns q4 q7 q8 q9 q10 q11 ks c' _ ht'
end
theorem ZjZ(ns:List Int)(h:ns.length<=63):ZfI ap [.list (ns.map dI)]=some (.bool true):=by
 have hv:=Wk.Ok.v (ZvX ns 1);have h5:(wkV ns 1).many<=5:=(Zi8 ns 1).2;have hw:=Ztl ns 1 h;have hc0:=Zdp ns 0;have hlk:=ZsX hv (Zt ns 0);have hl:=Zv2 (wkV ns 1).looks.length (Zt ns 0);generalize wkV ns 1=w at *;generalize lkV w.looks.length (Zt ns 0)=ls at *;have h7:w.many<=7:=by omega
 have hw':Za8 [.list (ns.map dI),.int 1]=some w.d:=hw;have hc':ZM [.list (ns.map dI),.int 0]=some (.int (Zt ns 0)):=hc0;obtain⟨L,M,K⟩:=known hv h7 hl Zxz;have htr:=Ztd hv hl K h5;have hhe:=Zqe hv hl K h5;obtain⟨y1,y2⟩:=Zo3 hv hl K h5;have htl:=Zof K;have hT:=Zhz K;obtain⟨p6,p7,p8,p9,p10,hgo⟩:=Zlz hv hl K (some (.pl (.list (ns.map dI)))) (some (.pl (.list ((ZV L M).map (ZaE M w ls))))) none none (ZV L M) [] none none none none none (λc hc=>(hT c).mp hc) (by rw[ZzW]; exact ZuR K) (by simp; omega);rw[ZzW]at hgo;have hwalk:=λ(c:List Int) (ht:ZdJ w ls c) (q11:Option B)=>Zpy hv K ns (some (.pl (.list ((ZV L M).map (ZaE M w ls))))) p7 p8 p9 p10 q11 (ZxZ 9) c none ht;generalize hTe:ZV L M=T at *;have hbig:T.length<1000000:=by omega
 have hcg:∀r:HM.Env,ZaK Zam (eIx (Zr 0) (eC (.int 0))) r (T.map (ZaE M w ls))=some (T.map tupI):=λr=>by rw[Zbl (ZaE M w ls) tupI];intro c _;simp[ZaE]
 have hne:gNe (.list (T.map tupI)) (.list (T.map tupI))=some (.bool false):=Zj1 (ZuL T) (by decide);show Zal (ZmD ap [some (.pl (.list (ns.map dI))),none,none,none,none,none,none,none,none,none,none,none,none])=_;unfold ZmD;refine Z1 (P:=λq=>Zal q=_) (r':=[some (.pl (.list (ns.map dI))),some (.pl w.d),none,none,none,none,none,none,none,none,none,none,none]) (by simp[hw']) ?_;refine Z1 (P:=λq=>Zal q=_) (r':=[some (.pl (.list (ns.map dI))),some (.pl w.d),some (.pl (tupI ls)),none,none,none,none,none,none,none,none,none,none]) (by simp[hc',hlk]) ?_;refine Z1 (P:=λq=>Zal q=_) (r':=[some (.pl (.list (ns.map dI))),some (.pl w.d),some (.pl (tupI ls)),some (.pl (.list (T.map tupI))),none,none,none,none,none,none,none,none,none]) (by simp[htr]) ?_;refine Z1 (P:=λq=>Zal q=_) (r':=ev w ls T (some (.pl (.list (ns.map dI)))) (some (.pl (.list (T.map (ZaE M w ls))))) none none none none none none none none) (by simp[hhe]) ?_;refine Z1 (P:=λq=>Zal q=_) (r':=ev w ls T (some (.pl (.list (ns.map dI)))) (some (.pl (.list (T.map (ZaE M w ls))))) none none none none none none none none) (by simp[hcg,hbig,hne,-gNe,-Zyg]) ?_;refine Z1 (P:=λq=>Zal q=_) (r':=ev w ls T (some (.pl (.list (ns.map dI)))) (some (.pl (.list (T.map (ZaE M w ls))))) (some (.ot (Zae (λc=>.list (Zz M w ls c)) []))) none none none none none none none) rfl ?_;refine Z1 (P:=λq=>Zal q=_) (r':=ev w ls T (some (.pl (.list (ns.map dI)))) (some (.pl (.list (T.map (ZaE M w ls))))) (some (.ot (Zae (λc=>.list (Zz M w ls c)) T))) p6 p7 p8 p9 p10 none none) ?_ ?_
 ·have hi:Zah (bOf (Zd 4)) (ev w ls T (some (.pl (.list (ns.map dI)))) (some (.pl (.list (T.map (ZaE M w ls))))) (some (.ot (Zae (λc=>.list (Zz M w ls c)) []))) none none none none none none none)=some (T.map (ZaE M w ls)):=rfl
  unfold Zi0;rw[hi];dsimp only;rw[if_pos (by rw[ZxS]; exact hbig)];exact hgo
 by_cases hA:(ZE w ls w.beg).all (Zy M)=true
 ·obtain⟨z1,n,z2⟩:=y1 hA
  refine Z1 (P:=λq=>Zal q=_) (r':=ev w ls T (some (.pl (.list (ns.map dI)))) (some (.pl (.list (T.map (ZaE M w ls))))) (some (.ot (Zae (λc=>.list (Zz M w ls c)) T))) p6 p7 p8 p9 p10 (some (.pl .none)) none) (by simp[z1]) ?_;unfold Zo;simp[z2,Zal]
 ·have hA':∃p ps,(ZE w ls w.beg).filter (λc=>!Zy M c)=p::ps:=by
   cases q:(ZE w ls w.beg).filter (λc=>!Zy M c)with
   | cons p ps=>exact⟨p,ps,rfl⟩
   | nil =>
    exfalso;apply hA;refine Zx0.mpr λp hp=>?_;have:=ZAn.mp q p hp;cases hq:Zy M p with
    | true=>rfl
    | false=>rw[hq]at this; exact absurd rfl this
  obtain⟨p,ps,hf⟩:=hA';obtain⟨z1,z2⟩:=y2 p ps hf;have hpf:p∈(ZE w ls w.beg).filter (λc=>!Zy M c):=by rw[hf]; exact ZxU ..
  obtain⟨g1,g2⟩:=Zyt.mp hpf;have hr:Rch w ls p:=.beg g1;have hpt:ZdJ w ls p:=⟨hr,(Zey K.cl K.fin ((K.mem _).mpr hr)).mp g2⟩;refine Z1 (P:=λq=>Zal q=_) (r':=ev w ls T (some (.pl (.list (ns.map dI)))) (some (.pl (.list (T.map (ZaE M w ls))))) (some (.ot (Zae (λc=>.list (Zz M w ls c)) T))) p6 p7 p8 p9 p10 (some (.pl (.tuple [tupI p,.list (T.map tupI)]))) none) (by simp[z1]) ?_;refine Z1 (P:=λq=>Zal q=_) (r':=ev w ls T (some (.pl (.list (ns.map dI)))) (some (.pl (.list (T.map (ZaE M w ls))))) (some (.ot (Zae (λc=>.list (Zz M w ls c)) T))) p6 p7 p8 p9 p10 (some (.pl (.tuple [tupI p,.list (T.map tupI)]))) none) rfl ?_;refine Z1 (P:=λq=>Zal q=_) (r':=ev w ls T (some (.pl (.list (ns.map dI)))) (some (.pl (.list (T.map (ZaE M w ls))))) (some (.ot (Zae (λc=>.list (Zz M w ls c)) T))) (some (.pl (tupI p))) p7 p8 p9 p10 (some (.pl (.tuple [tupI p,.list (T.map tupI)]))) none) (by simp) ?_;have hi:Zb6 (eC (.int 9)) (ev w ls T (some (.pl (.list (ns.map dI)))) (some (.pl (.list (T.map (ZaE M w ls))))) (some (.ot (Zae (λc=>.list (Zz M w ls c)) T))) (some (.pl (tupI p))) p7 p8 p9 p10 (some (.pl (.tuple [tupI p,.list (T.map tupI)]))) none)=some ((ZxZ 9).map dN):=rfl;have hsf:ZbF 12 (Zb6 (eC (.int 9))) (ZbS ap) (ev w ls T (some (.pl (.list (ns.map dI)))) (some (.pl (.list (T.map (ZaE M w ls))))) (some (.ot (Zae (λc=>.list (Zz M w ls c)) T))) (some (.pl (tupI p))) p7 p8 p9 p10 (some (.pl (.tuple [tupI p,.list (T.map tupI)]))) none)=ZaG 12 (ZbS ap) ((ZxZ 9).map dN) (ev w ls T (some (.pl (.list (ns.map dI)))) (some (.pl (.list (T.map (ZaE M w ls))))) (some (.ot (Zae (λc=>.list (Zz M w ls c)) T))) (some (.pl (tupI p))) p7 p8 p9 p10 (some (.pl (.tuple [tupI p,.list (T.map tupI)]))) none):=by unfold ZbF;rw[hi];rfl
  rcases hwalk p hpt (some (.pl (.tuple [tupI p,.list (T.map tupI)])))with e | ⟨r',e⟩
  ·unfold Zo
   rw[hsf,e];rfl
  ·unfold Zo
   rw[hsf,e];rfl
end HG13
namespace HT
open PySem PySem.Spec PyProof.Rows L2 HP HM
open HG
open HG4
open HG5
open HGT
open HG13
def top(i:Nat):Stmt:=PySem.Challenge.pw_halfseen_k13_whole_a_foe_keeps_in.main.body.getD i (.Pass ⟨0,0,0,0⟩)
abbrev ZfJ:Stmt:=top 11
abbrev Zif:Stmt:=top 12
abbrev ZfK:Stmt:=top 13
abbrev Zfl:Stmt:=top 14
abbrev Zfm:Stmt:=top 15
abbrev Zec:Stmt:=top 16
abbrev Zed:Stmt:=top 17
abbrev Zgs:Stmt:=top 18
abbrev ZfL:Stmt:=top 19
abbrev ZfM:Stmt:=top 20
abbrev Zgt:Stmt:=top 21
abbrev Zgu:Stmt:=top 22
abbrev Zgv:Stmt:=top 23
abbrev Zhg:Stmt:=top 24
abbrev Zhh:Stmt:=top 25
abbrev ZdG:Stmt:=top 26
abbrev ZdH:Stmt:=top 27
abbrev Zfn:Stmt:=top 28
abbrev Zdl:Stmt:=top 30
abbrev ZdA:Stmt:=top 31
abbrev Zig:Stmt:=top 32
abbrev Zgg:Stmt:=top 33
abbrev ZeU:Stmt:=top 34
abbrev Zee:Stmt:=top 35
abbrev Zih:Stmt:=top 36
abbrev ZjD:Stmt:=top 37
abbrev ZjE:Stmt:=top 38
abbrev Zcx:Stmt:=top 40
abbrev Zef:Stmt:=top 41
abbrev ZcQ:Stmt:=top 42
abbrev Ze8:Stmt:=top 43
abbrev ZcY:Stmt:=top 44
abbrev ZcH:Stmt:=top 45
abbrev Zeg:Stmt:=top 46
abbrev ZW:Stmt:=top 47
abbrev ZeV:Stmt:=top 48
abbrev ZfN:Stmt:=top 49
abbrev Zii:Stmt:=top 50
abbrev ZcI:Stmt:=top 52
abbrev Ze9:Stmt:=top 53
abbrev ZjF:Stmt:=top 54
abbrev Zgw:Stmt:=top 55
abbrev Zfo:Stmt:=top 56
abbrev Zgx:Stmt:=top 58
abbrev Zhi:Stmt:=top 59
abbrev Zeh:Stmt:=top 60
abbrev Zgy:Stmt:=top 61
abbrev Zgz:Stmt:=top 62
abbrev Zei:Stmt:=top 63
abbrev Zej:Stmt:=top 64
abbrev Zek:Stmt:=top 65
abbrev Zdx:Stmt:=top 66
structure Txt(K:ZxR)(mg:Str->Option Value):Prop where
 n_len:mg "len" = none
 n_tuple:mg "tuple" = none
 n_list:mg "list" = none
 n_set:mg "set" = none
 n_sorted:mg "sorted" = none
 n_range:mg "range" = none
 n_all:mg "all" = none
 n_isinstance:mg "isinstance" = none
 n_int:mg "int" = none
 n_bool:mg "bool" = none
 n_max:mg "max" = none
 n_min:mg "min" = none
 c_MOST_STATES:∃t,mg "MOST_STATES" = some (.int 8 t)
 c_MOST_DEEDS:∃t,mg "MOST_DEEDS" = some (.int 5 t)
 c_MOST_LOOKS:∃t,mg "MOST_LOOKS" = some (.int 4 t)
 c_MOST_SEEN:∃t,mg "MOST_SEEN" = some (.int 9 t)
section
variable[FX]{P:Program}{w:World}{K:ZxR}{mg:Str->Option Value}{base:Heap}{k:Nat}
theorem ZmE:Zs ["_law_script","_law_k"] ["_law_script","_law_k"] (Zf Zgx):=⟨rfl,rfl,rfl,by decide +kernel,rfl,by decide +kernel,by decide +kernel⟩
theorem ZmF(T:Txt K mg){f:Addr}{fd:FuncData}(Fn:Fun K "_law_cell" "_law_cell" Zgx f fd)(hm:mg "_law_cell" = some (.ref f))(hb:Binds K fd ["_law_script","_law_k"] []):Callee P w K mg base (k+1) "_law_cell" ZM :=
 Zq Fn ZmE hm hb λcdv A outer s H E hr=>by
  have hu:=ZJ hr;exact(Zh (Za0 (ZaP cLt (Zc 1) (ZbV T.n_len (Zx 0))) (Zl (Zw (Zas (Zx 0) (Zc 1)))) Z5)
  (Zl (Zw Zm)))
theorem Zox:Zs ["_law_cell_here","_law_prime","_law_many"] ["_law_cell_here","_law_prime","_law_many"] (Zf Zhi):=⟨rfl,rfl,rfl,by decide +kernel,rfl,by decide +kernel,by decide +kernel⟩
theorem Zoy(T:Txt K mg){f:Addr}{fd:FuncData}(Fn:Fun K "_law_mix" "_law_mix" Zhi f fd)(hm:mg "_law_mix" = some (.ref f))(hb:Binds K fd ["_law_cell_here","_law_prime","_law_many"] []):Callee P w K mg base (k+1) "_law_mix" ZB :=
 Zq Fn Zox hm hb λcdv A outer s H E hr=>by have hu:=ZJ hr;exact(Zl (Zw (ZI oMod (ZI oMod (ZI Zes (Zc 0) Zm) (Zc 1)) (Zc 2))))
theorem Zfa:Zs ["_law_cell_here","_law_many","_law_least","_law_found"] ["_law_cell_here","_law_many","_law_least"] (Zf Zeh):=⟨rfl,rfl,rfl,by decide +kernel,rfl,by decide +kernel,by decide +kernel⟩
theorem ZlP(T:Txt K mg)(ZG:Callee P w K mg base k "_law_mix" ZB){f:Addr}{fd:FuncData}(Fn:Fun K "_law_crowd" "_law_crowd" Zeh f fd)(hm:mg "_law_crowd" = some (.ref f))(hb:Binds K fd ["_law_cell_here","_law_many","_law_least"] []):Callee P w K mg base (k+1) "_law_crowd" ZbC :=
 Zq Fn Zfa hm hb λcdv A outer s H E hr=>by
  have hu:=ZJ hr;exact(Zh (Zd6 3 Zfa.nd rfl rfl (N:=["_law_state","_law_cell_here","_law_many","_law_least","_law_found"]) (ZL (sc:=Zf Zeh) (XN:=["_law_cell_here","_law_many","_law_least","_law_found"])) (Zcd T.n_range (Zc 1)) (λ_ _ _ _ _=>(ZcS (ZaP cLt (Zg ZG hr (Za (ZI ZbN (ZI ZbN (Zc 1) (ZI Zes (ZI Zes Zm (Zc 0)) (Zc 0))) (ZI Zes Zm (Zc 0))) (Za Zm (Za Zm Ze)))) Zm))) (λ_ _ _ _ _=>(Zc 0)))
  (Zh (Za0 (ZaP cLt (ZbV T.n_len (Zx 3)) (Zc 2)) (Zl (Zbd 3 Zfa.nd (Zcq (Za (Zg ZG hr (Za (Zc 0) (Za Zm (Za (Zc 1) Ze)))) Ze)))) Z5)
  (Zl (Zw (Za1 T.n_tuple (Zx 3))))))
theorem Zcy:Zs ["_law_cell_here","_law_many","_law_found","_law_state","_law_seed","_law_way","_law_row"] ["_law_cell_here","_law_many"] (Zf Zgy):=⟨rfl,rfl,rfl,by decide +kernel,rfl,by decide +kernel,by decide +kernel⟩
theorem ZmG(T:Txt K mg)(ZG:Callee P w K mg base k "_law_mix" ZB){f:Addr}{fd:FuncData}(Fn:Fun K "_law_deed" "_law_deed" Zgy f fd)(hm:mg "_law_deed" = some (.ref f))(hb:Binds K fd ["_law_cell_here","_law_many"] []):Callee P w K mg base (k+1) "_law_deed" ZcT :=
 Zq Fn Zcy hm hb λcdv A outer s H E hr=>by
  have hu:=ZJ hr;exact(Zh (Zbd 2 Zcy.nd (Zcq Ze))
  (Zh (Zcr 3 Zcy.nd rfl rfl (Zcd T.n_range (Zc 1)) (Zh (ZT 4 Zcy.nd (ZI ZbN (ZI ZbN (Zc 0) (ZI Zes (ZI Zes Zm (Zc 3)) (Zc 3))) (ZI Zes Zm (Zc 3))))
  (Zh (ZT 5 Zcy.nd (Zg ZG hr (Za (Zc 4) (Za Zm (Za Zm Ze)))))
  (Zh (Zbd 6 Zcy.nd (Zse (Zg ZG hr (Za (Zc 4) (Za Zm (Za (Zc 1) Ze)))) Zbt))
  (Zh (Za0 (ZaP cLt (Zc 5) Zm) (Zl (ZgS hu 6 (Zg ZG hr (Za (Zc 4) (Za Zm (Za (Zc 1) Ze)))) Zbt)) Z5)
  (Zh (ZdS 2 (Za1 T.n_tuple (Zby (ZdT T.n_sorted rfl (Zx 6)))))
  (Zl (Za0 (ZaP (cEq hr) (Zc 5) Zm) (Zl (ZtR 2 ZuT (Zd5 Ze))) Z5))))))))
  (Zl (Zw (Za1 T.n_tuple (Zx 2))))))
theorem ZbY:Zs ["_law_cell_here","_law_many","_law_left","_law_right","_law_state","_law_ahead","_law_behind","_law_slips"] ["_law_cell_here","_law_many"] (Zf Zgz):=⟨rfl,rfl,rfl,by decide +kernel,rfl,by decide +kernel,by decide +kernel⟩
theorem ZmH(T:Txt K mg)(ZG:Callee P w K mg base k "_law_mix" ZB){f:Addr}{fd:FuncData}(Fn:Fun K "_law_walk" "_law_walk" Zgz f fd)(hm:mg "_law_walk" = some (.ref f))(hb:Binds K fd ["_law_cell_here","_law_many"] []):Callee P w K mg base (k+1) "_law_walk" ZcU :=
 Zq Fn ZbY hm hb λcdv A outer s H E hr=>by
  have hu:=ZJ hr;exact(Zh (Zbd 2 ZbY.nd (Zcq Ze))
  (Zh (Zbd 3 ZbY.nd (Zcq Ze))
  (Zh (Zcr 4 ZbY.nd rfl rfl (Zcd T.n_range (Zc 1)) (Zh (ZT 5 ZbY.nd (ZuU T.n_max rfl (ZI Zqw (Zc 4) Zm) Zm))
  (Zh (ZT 6 ZbY.nd (ZuV T.n_min rfl (ZI ZbN (Zc 4) Zm) (ZI Zqw (Zc 1) Zm)))
  (Zh (ZT 7 ZbY.nd (Zh3 (cEq hr) (Zg ZG hr (Za (ZI ZbN (Zc 0) (ZI Zes Zm (Zc 4))) (Za Zm (Za Zm Ze)))) Zm))
  (Zh (ZdS 2 (Za1 T.n_tuple (Zby (Zmx T.n_sorted T.n_set rfl (Zby (ZqQ (Zby (Zcq (Za (Zc 5) Ze))) (Zby (ZuW (Zby (Zcq (Za (Zc 4) Ze))) (Zsd T.n_int (Zc 7))))))))))
  (Zl (ZdS 3 (Zd5 (Za (Zc 6) Ze)))))))))
  (Zl (Zw (Zd5 (Za (Za1 T.n_tuple (Zx 2)) (Za (Za1 T.n_tuple (Zx 3)) Ze))))))))
theorem Z7:Zs ["_law_script","_law_at","_law_cell_here","_law_many","_law_deeds","_law_k","_law_looks_here","_law_seed","_law_most","_law_begin","_law_goal"] ["_law_script","_law_at"] (Zf Zei):=⟨rfl,rfl,rfl,by decide +kernel,rfl,by decide +kernel,by decide +kernel⟩
theorem ZlQ(T:Txt K mg)(ZaW:Callee P w K mg base k "_law_cell" ZM)(Zel:Callee P w K mg base k "_law_crowd" ZbC)(ZG:Callee P w K mg base k "_law_mix" ZB)(ZgA:Callee P w K mg base k "_law_deed" ZcT)(ZgB:Callee P w K mg base k "_law_walk" ZcU){f:Addr}{fd:FuncData}(Fn:Fun K "_law_works" "_law_works" Zei f fd)(hm:mg "_law_works" = some (.ref f))(hb:Binds K fd ["_law_script","_law_at"] []):Callee P w K mg base (k+1) "_law_works" Za8 :=
 Zq Fn Z7 hm hb λcdv A outer s H E hr=>by
  have hu:=ZJ hr;exact(Zh (ZT 2 Z7.nd (Zg ZaW hr (Za (Zc 0) (Za (Zc 1) Ze))))
  (Zh (ZT 3 Z7.nd (ZI ZbN Zm (Zg ZG hr (Za (Zc 2) (Za Zm (Za Zm Ze))))))
  (Zh (Za0 (ZaP cGt (ZbV T.n_len (Zx 0)) Zm) (Zl (ZT 3 Z7.nd (ZI ZbN Zm (Zg ZG hr (Za (Zc 2) (Za Zm (Za Zm Ze))))))) Z5)
  (Zh (Zbd 4 Z7.nd (Zcq Ze))
  (Zh (Zcr 5 Z7.nd rfl rfl (Zcd T.n_range (ZI ZbN Zm (Zg ZG hr (Za (Zc 2) (Za Zm (Za Zm Ze)))))) (Zl (ZdS 4 (Zg ZgA hr (Za (ZI ZbN (Zg ZaW hr (Za (Zc 0) (Za (ZI ZbN (ZI ZbN (Zc 1) Zm) (Zc 5)) Ze))) (ZI Zes Zm (Zc 5))) (Za (Zc 3) Ze))))))
  (Zh (Za0 (ZaP (cEq hr) (Zg ZG hr (Za (Zc 2) (Za Zm (Za Zm Ze)))) Zm) (Zl (Zbd 4 Z7.nd (ZqQ (Zby (Zlk T.n_list (ZbA (Zg ZgB hr (Za (Zg ZaW hr (Za (Zc 0) (Za (ZI ZbN (Zc 1) Zm) Ze))) (Za (Zc 3) Ze)))))) (Zby (ZuX (Zx 4) ZuE (ZuK Zm)))))) Z5)
  (Zh (Zbd 6 Z7.nd (Zcq Ze))
  (Zh (Zcr 5 Z7.nd rfl rfl (Zcd T.n_range (Zg ZG hr (Za (Zc 2) (Za Zm (Za Zm Ze))))) (Zh (ZT 7 Z7.nd (ZI ZbN (Zg ZaW hr (Za (Zc 0) (Za (ZI ZbN (ZI ZbN (Zc 1) Zm) (Zc 5)) Ze))) (ZI Zes Zm (Zc 5))))
  (Zh (ZT 8 Z7.nd (ZI ZbN Zm (Zg ZG hr (Za (Zc 7) (Za Zm (Za Zm Ze))))))
  (Zl (ZdS 6 (Za1 T.n_tuple (Zby (ZaM rfl rfl (N:=["_law_state","_law_script","_law_at","_law_cell_here","_law_many","_law_deeds","_law_k","_law_looks_here","_law_seed","_law_most","_law_begin","_law_goal"]) (ZL (sc:=Zf Zei) (XN:=["_law_script","_law_at","_law_cell_here","_law_many","_law_deeds","_law_k","_law_looks_here","_law_seed","_law_most","_law_begin","_law_goal"])) (Zcd T.n_range (Zc 3)) (λ_ _ _ _ _=>ZbB) (λ_ _ _ _ _=>(Zg ZG hr (Za (ZI ZbN (Zc 8) (ZI Zes (ZI Zes Zm (Zc 0)) (Zc 0))) (Za Zm (Za (Zc 9) Ze)))))))))))))
  (Zh (ZT 9 Z7.nd (Zg Zel hr (Za (Zg ZaW hr (Za (Zc 0) (Za (ZI ZbN (Zc 1) Zm) Ze))) (Za (Zc 3) (Za Zm Ze)))))
  (Zh (Za0 (ZaP (cEq hr) (Zg ZG hr (Za (Zc 2) (Za Zm (Za Zm Ze)))) Zm) (Zl (ZT 9 Z7.nd (Zov T.n_tuple T.n_range rfl (Zc 3)))) Z5)
  (Zh (ZT 10 Z7.nd (Zg Zel hr (Za (Zg ZaW hr (Za (Zc 0) (Za (ZI ZbN (Zc 1) Zm) Ze))) (Za (Zc 3) (Za Zm Ze)))))
  (Zl (Zw (Zd5 (Za (Zc 3) (Za (Za1 T.n_tuple (Zx 4)) (Za (Za1 T.n_tuple (Zx 6)) (Za (Zc 9) (Za (Zc 10) Ze)))))))))))))))))))
theorem ZlR:Zs ["_law_works_here","_law_cell_here"] ["_law_works_here","_law_cell_here"] (Zf Zej):=⟨rfl,rfl,rfl,by decide +kernel,rfl,by decide +kernel,by decide +kernel⟩
theorem ZlS(T:Txt K mg)(ZG:Callee P w K mg base k "_law_mix" ZB){f:Addr}{fd:FuncData}(Fn:Fun K "_law_looks" "_law_looks" Zej f fd)(hm:mg "_law_looks" = some (.ref f))(hb:Binds K fd ["_law_works_here","_law_cell_here"] []):Callee P w K mg base (k+1) "_law_looks" Zcw :=
 Zq Fn ZlR hm hb λcdv A outer s H E hr=>by have hu:=ZJ hr;exact(Zl (Zw (Za1 T.n_tuple (Zby (ZaM rfl rfl (N:=["_law_look","_law_works_here","_law_cell_here"]) (ZL (sc:=Zf Zej) (XN:=["_law_works_here","_law_cell_here"])) (Zcd T.n_range (ZbV T.n_len (ZbA (Zas (Zx 0) Zm)))) (λ_ _ _ _ _=>(ZcS (ZaP cGt (Zg ZG hr (Za (ZI ZbN (Zc 2) (ZI Zes Zm (Zc 0))) (Za Zm (Za Zm Ze)))) Zm))) (λ_ _ _ _ _=>(Zc 0)))))))
theorem ZlT:Zs ["thing","least","most"] ["thing","least","most"] (Zf ZfJ):=⟨rfl,rfl,rfl,by decide +kernel,rfl,by decide +kernel,by decide +kernel⟩
theorem ZlU(T:Txt K mg){f:Addr}{fd:FuncData}(Fn:Fun K "is_number" "is_number" ZfJ f fd)(hm:mg "is_number" = some (.ref f))(hb:Binds K fd ["thing","least","most"] []):Callee P w K mg base (k+1) "is_number" Zax :=
 Zq Fn ZlT hm hb λcdv A outer s H E hr=>by
  have hu:=ZJ hr;exact(Zh (Za0 (ZjB (Zgd (Zbi (Zot T.n_isinstance T.n_bool (Zc 0))) (Zfz (Zcc (Zbi (ZpM T.n_isinstance T.n_int (Zc 0))))))) (Zl (Zw Zbt)) Z5)
  (Zl (Zw (Zmu cLe cLe (Zc 1) (Zc 0) (Zc 2)))))
theorem ZdB:Zs ["thing","many","least","number"] ["thing","many"] (Zf ZfK):=⟨rfl,rfl,rfl,by decide +kernel,rfl,by decide +kernel,by decide +kernel⟩
theorem ZlV(T:Txt K mg)(ZaB:Callee P w K mg base k "is_number" Zax){f:Addr}{fd:FuncData}(Fn:Fun K "is_rising" "is_rising" ZfK f fd)(hm:mg "is_rising" = some (.ref f))(hb:Binds K fd ["thing","many"] []):Callee P w K mg base (k+1) "is_rising" Z9 :=
 Zq Fn ZdB hm hb λcdv A outer s H E hr=>by
  have hu:=ZJ hr;exact(Zh (Za0 (Zcc (Zbi (Zh4 T.n_isinstance T.n_tuple (Zc 0)))) (Zl (Zw Zbt)) Z5)
  (Zh (ZT 2 ZdB.nd Zm)
  (Zh (Zcr 3 ZdB.nd rfl rfl (Zad (Zc 0)) (Zh (Za0 (Zcc (Zbi (Zg ZaB hr (Za (Zc 3) (Za (Zc 2) (Za (ZI Zqw (Zc 1) Zm) Ze)))))) (Zl (Zw Zbt)) Z5)
  (Zl (ZT 2 ZdB.nd (ZI ZbN (Zc 3) Zm)))))
  (Zl (Zw Zbt)))))
theorem ZmI:Zs ["thing","many"] ["thing","many"] (Zf Zgs):=⟨rfl,rfl,rfl,by decide +kernel,rfl,by decide +kernel,by decide +kernel⟩
theorem ZmJ(T:Txt K mg)(ZaC:Callee P w K mg base k "is_rising" Z9){f:Addr}{fd:FuncData}(Fn:Fun K "is_crowd" "is_crowd" Zgs f fd)(hm:mg "is_crowd" = some (.ref f))(hb:Binds K fd ["thing","many"] []):Callee P w K mg base (k+1) "is_crowd" ZbP :=
 Zq Fn ZmI hm hb λcdv A outer s H E hr=>by have hu:=ZJ hr;exact(Zl (Zw (ZfB (Zg ZaC hr (Za (Zc 0) (Za (Zc 1) Ze))) (ZfA (Zh3 cGt (ZbV T.n_len (Zx 0)) Zm)))))
theorem ZpP:Zs ["thing","least","most"] ["thing","least","most"] (Zf Zif):=⟨rfl,rfl,rfl,by decide +kernel,rfl,by decide +kernel,by decide +kernel⟩
theorem ZpQ(T:Txt K mg){f:Addr}{fd:FuncData}(Fn:Fun K "is_row" "is_row" Zif f fd)(hm:mg "is_row" = some (.ref f))(hb:Binds K fd ["thing","least","most"] []):Callee P w K mg base (k+1) "is_row" Za6 :=
 Zq Fn ZpP hm hb λcdv A outer s H E hr=>by have hu:=ZJ hr;exact(Zl (Zw (ZfB (Zh4 T.n_isinstance T.n_tuple (Zc 0)) (ZfA (Zmu cLe cLe (Zc 1) (ZbV T.n_len (Zx 0)) (Zc 2))))))
theorem Zoz:Zs ["thing","many"] ["thing","many"] (Zf Zfl):=⟨rfl,rfl,rfl,by decide +kernel,rfl,by decide +kernel,by decide +kernel⟩
theorem ZoA(T:Txt K mg)(ZaQ:Callee P w K mg base k "is_row" Za6)(ZaC:Callee P w K mg base k "is_rising" Z9){f:Addr}{fd:FuncData}(Fn:Fun K "is_deed" "is_deed" Zfl f fd)(hm:mg "is_deed" = some (.ref f))(hb:Binds K fd ["thing","many"] []):Callee P w K mg base (k+1) "is_deed" Zce :=
 Zq Fn Zoz hm hb λcdv A outer s H E hr=>by have hu:=ZJ hr;exact(Zl (Zw (ZfB (Zg ZaQ hr (Za (Zc 0) (Za (Zc 1) (Za (Zc 1) Ze)))) (ZfA (ZgR T.n_all rfl (Zby (ZaM rfl rfl (N:=["crowd","thing","many"]) (ZL (sc:=Zf Zfl) (XN:=["thing","many"])) (Zad (Zc 0)) (λ_ _ _ _ _=>ZbB) (λ_ _ _ _ _=>(Zg ZaC hr (Za (Zc 0) (Za (Zc 2) Ze)))))))))))
theorem ZlW:Zs ["thing","many"] ["thing","many"] (Zf Zec):=⟨rfl,rfl,rfl,by decide +kernel,rfl,by decide +kernel,by decide +kernel⟩
theorem ZlX(T:Txt K mg)(ZaQ:Callee P w K mg base k "is_row" Za6)(Zhj:Callee P w K mg base k "is_deed" Zce){f:Addr}{fd:FuncData}(Fn:Fun K "are_deeds" "are_deeds" Zec f fd)(hm:mg "are_deeds" = some (.ref f))(hb:Binds K fd ["thing","many"] []):Callee P w K mg base (k+1) "are_deeds" Zcs :=
 Zq Fn ZlW hm hb λcdv A outer s H E hr=>by have hu:=ZJ hr;exact(Zl (Zw (ZfB (Zg ZaQ hr (Za (Zc 0) (Za Zm (Za (ZiU T.c_MOST_DEEDS) Ze)))) (ZfA (ZgR T.n_all rfl (Zby (ZaM rfl rfl (N:=["deed","thing","many"]) (ZL (sc:=Zf Zec) (XN:=["thing","many"])) (Zad (Zc 0)) (λ_ _ _ _ _=>ZbB) (λ_ _ _ _ _=>(Zg Zhj hr (Za (Zc 0) (Za (Zc 2) Ze)))))))))))
theorem ZoB:Zs ["thing","many"] ["thing","many"] (Zf Zfm):=⟨rfl,rfl,rfl,by decide +kernel,rfl,by decide +kernel,by decide +kernel⟩
theorem ZoC(T:Txt K mg)(ZaQ:Callee P w K mg base k "is_row" Za6)(ZaB:Callee P w K mg base k "is_number" Zax){f:Addr}{fd:FuncData}(Fn:Fun K "is_look" "is_look" Zfm f fd)(hm:mg "is_look" = some (.ref f))(hb:Binds K fd ["thing","many"] []):Callee P w K mg base (k+1) "is_look" Zcf :=
 Zq Fn ZoB hm hb λcdv A outer s H E hr=>by have hu:=ZJ hr;exact(Zl (Zw (ZfB (Zg ZaQ hr (Za (Zc 0) (Za (Zc 1) (Za (Zc 1) Ze)))) (ZfA (ZgR T.n_all rfl (Zby (ZaM rfl rfl (N:=["told","thing","many"]) (ZL (sc:=Zf Zfm) (XN:=["thing","many"])) (Zad (Zc 0)) (λ_ _ _ _ _=>ZbB) (λ_ _ _ _ _=>(Zg ZaB hr (Za (Zc 0) (Za Zm (Za (ZiU T.c_MOST_SEEN) Ze))))))))))))
theorem ZlY:Zs ["thing","many"] ["thing","many"] (Zf Zed):=⟨rfl,rfl,rfl,by decide +kernel,rfl,by decide +kernel,by decide +kernel⟩
theorem ZlZ(T:Txt K mg)(ZaQ:Callee P w K mg base k "is_row" Za6)(Zhk:Callee P w K mg base k "is_look" Zcf){f:Addr}{fd:FuncData}(Fn:Fun K "are_looks" "are_looks" Zed f fd)(hm:mg "are_looks" = some (.ref f))(hb:Binds K fd ["thing","many"] []):Callee P w K mg base (k+1) "are_looks" Zct :=
 Zq Fn ZlY hm hb λcdv A outer s H E hr=>by have hu:=ZJ hr;exact(Zl (Zw (ZfB (Zg ZaQ hr (Za (Zc 0) (Za Zm (Za (ZiU T.c_MOST_LOOKS) Ze)))) (ZfA (ZgR T.n_all rfl (Zby (ZaM rfl rfl (N:=["look","thing","many"]) (ZL (sc:=Zf Zed) (XN:=["thing","many"])) (Zad (Zc 0)) (λ_ _ _ _ _=>ZbB) (λ_ _ _ _ _=>(Zg Zhk hr (Za (Zc 0) (Za (Zc 2) Ze)))))))))))
theorem ZhV:Zs ["thing","many"] ["thing"] (Zf ZfL):=⟨rfl,rfl,rfl,by decide +kernel,rfl,by decide +kernel,by decide +kernel⟩
theorem Zl0(T:Txt K mg)(ZcZ:Callee P w K mg base k "is_crowd" ZbP)(ZaC:Callee P w K mg base k "is_rising" Z9)(ZaQ:Callee P w K mg base k "is_row" Za6)(ZaB:Callee P w K mg base k "is_number" Zax)(ZfO:Callee P w K mg base k "are_deeds" Zcs)(ZfP:Callee P w K mg base k "are_looks" Zct){f:Addr}{fd:FuncData}(Fn:Fun K "are_works" "are_works" ZfL f fd)(hm:mg "are_works" = some (.ref f))(hb:Binds K fd ["thing"] []):Callee P w K mg base (k+1) "are_works" Zcu :=
 Zq Fn ZhV hm hb λcdv A outer s H E hr=>by
  have hu:=ZJ hr;exact(Zh (Za0 (ZjB (Zgd (Zcc (Zbi (Zg ZaQ hr (Za (Zc 0) (Za Zm (Za Zm Ze)))))) (Zfz (Zcc (Zbi (Zg ZaB hr (Za (Zas (Zx 0) Zm) (Za Zm (Za (ZiU T.c_MOST_STATES) Ze))))))))) (Zl (Zw Zbt)) Z5)
  (Zh (ZT 1 ZhV.nd (Zas (Zx 0) Zm))
  (Zh (Za0 (ZjB (Zgd (Zcc (Zbi (Zg ZfO hr (Za (Zas (Zx 0) Zm) (Za (Zc 1) Ze))))) (Zfz (Zcc (Zbi (Zg ZfP hr (Za (Zas (Zx 0) Zm) (Za (Zc 1) Ze)))))))) (Zl (Zw Zbt)) Z5)
  (Zl (Zw (ZfB (Zg ZcZ hr (Za (Zas (Zx 0) Zm) (Za (Zc 1) Ze))) (ZfA (Zg ZaC hr (Za (Zas (Zx 0) Zm) (Za (Zc 1) Ze))))))))))
theorem ZoD:Zs ["works"] ["works"] (Zf Zhh):=⟨rfl,rfl,rfl,by decide +kernel,rfl,by decide +kernel,by decide +kernel⟩
theorem ZoE(T:Txt K mg)(ZfQ:Callee P w K mg base k "are_works" Zcu){f:Addr}{fd:FuncData}(Fn:Fun K "checked" "checked" Zhh f fd)(hm:mg "checked" = some (.ref f))(hb:Binds K fd ["works"] []):Callee P w K mg base (k+1) "checked" Zaa :=
 Zq Fn ZoD hm hb λcdv A outer s H E hr=>by
  have hu:=ZJ hr;exact(Zh (Za0 (Zcc (Zbi (Zg ZfQ hr (Za (Zc 0) Ze)))) (Zl ZfC) Z5)
  (Zl (Zw (Zc 0))))
theorem ZmK:Zs ["works"] ["works"] (Zf Zgu):=⟨rfl,rfl,rfl,by decide +kernel,rfl,by decide +kernel,by decide +kernel⟩
theorem ZmL(T:Txt K mg){f:Addr}{fd:FuncData}(Fn:Fun K "looks_of" "looks_of" Zgu f fd)(hm:mg "looks_of" = some (.ref f))(hb:Binds K fd ["works"] []):Callee P w K mg base (k+1) "looks_of" ZbQ :=
 Zq Fn ZmK hm hb λcdv A outer s H E hr=>by have hu:=ZJ hr;exact(Zl (Zw (Zas (Zx 0) Zm)))
theorem Zja:Zs ["works","looks"] ["works","looks"] (Zf ZdG):=⟨rfl,rfl,rfl,by decide +kernel,rfl,by decide +kernel,by decide +kernel⟩
theorem Zjb(T:Txt K mg)(ZaC:Callee P w K mg base k "is_rising" Z9)(Zc0:Callee P w K mg base k "looks_of" ZbQ){f:Addr}{fd:FuncData}(Fn:Fun K "checked_looks" "checked_looks" ZdG f fd)(hm:mg "checked_looks" = some (.ref f))(hb:Binds K fd ["works","looks"] []):Callee P w K mg base (k+1) "checked_looks" ZN :=
 Zq Fn Zja hm hb λcdv A outer s H E hr=>by
  have hu:=ZJ hr;exact(Zh (Za0 (Zcc (Zbi (Zg ZaC hr (Za (Zc 1) (Za (ZbV T.n_len (ZbA (Zg Zc0 hr (Za (Zc 0) Ze)))) Ze))))) (Zl ZfC) Z5)
  (Zl (Zw (Zc 1))))
theorem ZhW:Zs ["rows"] ["rows"] (Zf Zcx):=⟨rfl,rfl,rfl,by decide +kernel,rfl,by decide +kernel,by decide +kernel⟩
theorem ZkN(T:Txt K mg){f:Addr}{fd:FuncData}(Fn:Fun K "crowds_in" "crowds_in" Zcx f fd)(hm:mg "crowds_in" = some (.ref f))(hb:Binds K fd ["rows"] []):ZdX P w K mg base (k+1) "crowds_in" ZD :=
 Zqh Fn ZhW hm hb rfl (λr b h=>Zs1 _ _ _ r b h) λcdv A outer s H E hr=>by have hu:=ZJ hr;exact(ZaM rfl rfl (N:=["row","rows"]) (ZL (sc:=Zf Zcx) (XN:=["rows"])) (Zad (Zc 0)) (λ_ _ _ _ _=>ZbB) (λ_ _ _ _ _=>(Zas (Zx 0) Zm)))
theorem Zl1(T:Txt K mg){f:Addr}{fd:FuncData}(Fn:Fun K "crowds_in" "crowds_in" Zcx f fd)(hm:mg "crowds_in" = some (.ref f))(hb:Binds K fd ["rows"] []):Callee P w K mg base (k+1) "crowds_in" ZD :=
 Zq Fn ZhW hm hb λcdv A outer s H E hr=>by have hu:=ZJ hr;exact(Zl (Zw (Zco (ZaM rfl rfl (N:=["row","rows"]) (ZL (sc:=Zf Zcx) (XN:=["rows"])) (Zad (Zc 0)) (λ_ _ _ _ _=>ZbB) (λ_ _ _ _ _=>(Zas (Zx 0) Zm))))))
theorem Zfj:Zs ["rows","costs","known"] ["rows","costs"] (Zf ZcH):=⟨rfl,rfl,rfl,by decide +kernel,rfl,by decide +kernel,by decide +kernel⟩
theorem Zjc(T:Txt K mg)(ZaR:Callee P w K mg base k "crowds_in" ZD){f:Addr}{fd:FuncData}(Fn:Fun K "cost_at_worst" "cost_at_worst" ZcH f fd)(hm:mg "cost_at_worst" = some (.ref f))(hb:Binds K fd ["rows","costs"] []):Callee P w K mg base (k+1) "cost_at_worst" ZO :=
 Zq Fn Zfj hm hb λcdv A outer s H E hr=>by
  have hu:=ZJ hr;exact(Zh (Zd6 2 Zfj.nd rfl rfl (N:=["part","rows","costs","known"]) (ZL (sc:=Zf ZcH) (XN:=["rows","costs","known"])) (Zad (Zg ZaR hr (Za (Zc 0) Ze))) (λ_ _ _ _ _=>(ZcS (Zu1 hu (Zc 0) (Zx 2)))) (λ_ _ _ _ _=>(ZeE hu (Zx 2) (Zc 0))))
  (Zl (Zw (ZtH (ZaP (cEq hr) (ZbV T.n_len (Zx 2)) (ZbV T.n_len (Zx 0))) (ZtS T.n_max rfl (Zx 2)) Zdi))))
theorem Zij:Zs ["way","depths","most"] ["way","depths"] (Zf ZeV):=⟨rfl,rfl,rfl,by decide +kernel,rfl,by decide +kernel,by decide +kernel⟩
theorem ZmM(T:Txt K mg)(Zat:Callee P w K mg base k "cost_at_worst" ZO){f:Addr}{fd:FuncData}(Fn:Fun K "deeds_by" "deeds_by" ZeV f fd)(hm:mg "deeds_by" = some (.ref f))(hb:Binds K fd ["way","depths"] []):Callee P w K mg base (k+1) "deeds_by" ZcW :=
 Zq Fn Zij hm hb λcdv A outer s H E hr=>by
  have hu:=ZJ hr;exact(Zh (ZT 2 Zij.nd (Zg Zat hr (Za (Zas (Zx 0) Zm) (Za (Zc 1) Ze))))
  (Zl (Zw (ZtH (ZaP Zv0 (Zc 2) Zdi) Zdi (ZI ZbN (Zc 2) Zm)))))
theorem ZoF:Zs ["works","looks","state"] ["works","looks","state"] (Zf Zfn):=⟨rfl,rfl,rfl,by decide +kernel,rfl,by decide +kernel,by decide +kernel⟩
theorem ZoG(T:Txt K mg)(Zc0:Callee P w K mg base k "looks_of" ZbQ){f:Addr}{fd:FuncData}(Fn:Fun K "seen_in" "seen_in" Zfn f fd)(hm:mg "seen_in" = some (.ref f))(hb:Binds K fd ["works","looks","state"] []):Callee P w K mg base (k+1) "seen_in" Zdj :=
 Zq Fn ZoF hm hb λcdv A outer s H E hr=>by have hu:=ZJ hr;exact(Zl (Zw (Za1 T.n_tuple (Zby (ZaM rfl rfl (N:=["look","works","looks","state"]) (ZL (sc:=Zf Zfn) (XN:=["works","looks","state"])) (Zad (Zc 1)) (λ_ _ _ _ _=>ZbB) (λ_ _ _ _ _=>(Zas (ZbA (Zas (ZbA (Zg Zc0 hr (Za (Zc 1) Ze))) (Zc 0))) (Zc 3))))))))
theorem Zhl:Zs ["works","looks","crowd","found","state"] ["works","looks","crowd"] (Zf Zgg):=⟨rfl,rfl,rfl,by decide +kernel,rfl,by decide +kernel,by decide +kernel⟩
theorem ZpR(T:Txt K mg)(Zhm:Callee P w K mg base k "seen_in" Zdj){f:Addr}{fd:FuncData}(Fn:Fun K "parted" "parted" Zgg f fd)(hm:mg "parted" = some (.ref f))(hb:Binds K fd ["works","looks","crowd"] []):Callee P w K mg base (k+1) "parted" Zar :=
 Zq Fn Zhl hm hb λcdv A outer s H E hr=>by
  have hu:=ZJ hr;exact(Zh (Zbd 3 Zhl.nd ZuY)
  (Zh (Zcr 4 Zhl.nd rfl rfl (Zad (Zc 2)) (Zl (Zsg hu 3 (Zg Zhm hr (Za (Zc 0) (Za (Zc 1) (Za (Zc 4) Ze)))) (Zc 4) ⟨rfl,rfl,rfl,rfl⟩)))
  (Zl (Zw (Zco (ZaM rfl rfl (N:=["seen","works","looks","crowd","found","state"]) (ZL (sc:=Zf Zgg) (XN:=["works","looks","crowd","found","state"])) (Zad (Zco (ZdT T.n_sorted rfl (Zx 3)))) (λ_ _ _ _ _=>ZbB) (λ_ _ _ _ _=>(Zd5 (Za (Zc 0) (Za (Za1 T.n_tuple (Zmv hu 4 (Zc 0))) Ze))))))))))
theorem ZmN:Zs ["works"] ["works"] (Zf Zgt):=⟨rfl,rfl,rfl,by decide +kernel,rfl,by decide +kernel,by decide +kernel⟩
theorem ZmO(T:Txt K mg){f:Addr}{fd:FuncData}(Fn:Fun K "deeds_of" "deeds_of" Zgt f fd)(hm:mg "deeds_of" = some (.ref f))(hb:Binds K fd ["works"] []):Callee P w K mg base (k+1) "deeds_of" ZaU :=
 Zq Fn ZmN hm hb λcdv A outer s H E hr=>by have hu:=ZJ hr;exact(Zl (Zw (Zas (Zx 0) Zm)))
theorem Zgh:Zs ["works","crowd","deed","leads"] ["works","crowd","deed"] (Zf Zdl):=⟨rfl,rfl,rfl,by decide +kernel,rfl,by decide +kernel,by decide +kernel⟩
theorem Zkh(T:Txt K mg)(ZaX:Callee P w K mg base k "deeds_of" ZaU){f:Addr}{fd:FuncData}(Fn:Fun K "can_be_done" "can_be_done" Zdl f fd)(hm:mg "can_be_done" = some (.ref f))(hb:Binds K fd ["works","crowd","deed"] []):Callee P w K mg base (k+1) "can_be_done" Zbe :=
 Zq Fn Zgh hm hb λcdv A outer s H E hr=>by
  have hu:=ZJ hr;exact(Zh (ZT 3 Zgh.nd (Zas (ZbA (Zg ZaX hr (Za (Zc 0) Ze))) (Zc 2)))
  (Zl (Zw (ZgR T.n_all rfl (Zby (ZaM rfl rfl (N:=["state","works","crowd","deed","leads"]) (ZL (sc:=Zf Zdl) (XN:=["works","crowd","deed","leads"])) (Zad (Zc 1)) (λ_ _ _ _ _=>ZbB) (λ_ _ _ _ _=>(Zh3 cGt (ZbV T.n_len (ZbA (Zas (Zx 4) (Zc 0)))) Zm))))))))
theorem ZkO:Zs ["works","crowd"] ["works","crowd"] (Zf ZdA):=⟨rfl,rfl,rfl,by decide +kernel,rfl,by decide +kernel,by decide +kernel⟩
theorem ZkP(T:Txt K mg)(ZbT:Callee P w K mg base k "can_be_done" Zbe)(ZaX:Callee P w K mg base k "deeds_of" ZaU){f:Addr}{fd:FuncData}(Fn:Fun K "deeds_with" "deeds_with" ZdA f fd)(hm:mg "deeds_with" = some (.ref f))(hb:Binds K fd ["works","crowd"] []):Callee P w K mg base (k+1) "deeds_with" Zbp :=
 Zq Fn ZkO hm hb λcdv A outer s H E hr=>by have hu:=ZJ hr;exact(Zl (Zw (Zco (ZaM rfl rfl (N:=["deed","works","crowd"]) (ZL (sc:=Zf ZdA) (XN:=["works","crowd"])) (Zcd T.n_range (ZbV T.n_len (ZbA (Zg ZaX hr (Za (Zc 0) Ze))))) (λ_ _ _ _ _=>(ZcS (Zbi (Zg ZbT hr (Za (Zc 1) (Za (Zc 2) (Za (Zc 0) Ze))))))) (λ_ _ _ _ _=>(Zc 0))))))
theorem Zem:Zs ["works","crowd","deed","leads","found","state","target"] ["works","crowd","deed"] (Zf Zig):=⟨rfl,rfl,rfl,by decide +kernel,rfl,by decide +kernel,by decide +kernel⟩
theorem ZpS(T:Txt K mg)(ZaX:Callee P w K mg base k "deeds_of" ZaU){f:Addr}{fd:FuncData}(Fn:Fun K "led_to" "led_to" Zig f fd)(hm:mg "led_to" = some (.ref f))(hb:Binds K fd ["works","crowd","deed"] []):Callee P w K mg base (k+1) "led_to" Zcg :=
 Zq Fn Zem hm hb λcdv A outer s H E hr=>by
  have hu:=ZJ hr;exact(Zh (ZT 3 Zem.nd (Zas (ZbA (Zg ZaX hr (Za (Zc 0) Ze))) (Zc 2)))
  (Zh (Zbd 4 Zem.nd Zwt)
  (Zh (Zcr 5 Zem.nd rfl rfl (Zad (Zc 1)) (Zl (Zcr 6 Zem.nd rfl rfl (Zad (Zas (Zx 3) (Zc 5))) (Zl (ZgS hu 4 (Zc 6) Zbt)))))
  (Zl (Zw (Za1 T.n_tuple (Zby (ZdT T.n_sorted rfl (Zx 4)))))))))
theorem Zl2:Zs ["works","looks","crowd"] ["works","looks","crowd"] (Zf Zeg):=⟨rfl,rfl,rfl,by decide +kernel,rfl,by decide +kernel,by decide +kernel⟩
theorem Zl3(T:Txt K mg)(ZaS:Callee P w K mg base k "parted" Zar)(Zb8:Callee P w K mg base k "deeds_with" Zbp)(ZdV:Callee P w K mg base k "led_to" Zcg){f:Addr}{fd:FuncData}(Fn:Fun K "ways_with" "ways_with" Zeg f fd)(hm:mg "ways_with" = some (.ref f))(hb:Binds K fd ["works","looks","crowd"] []):Callee P w K mg base (k+1) "ways_with" Za9 :=
 Zq Fn Zl2 hm hb λcdv A outer s H E hr=>by have hu:=ZJ hr;exact(Zl (Zw (Zco (ZaM rfl rfl (N:=["deed","works","looks","crowd"]) (ZL (sc:=Zf Zeg) (XN:=["works","looks","crowd"])) (Zad (Zg Zb8 hr (Za (Zc 0) (Za (Zc 2) Ze)))) (λ_ _ _ _ _=>ZbB) (λ_ _ _ _ _=>(Zd5 (Za (Zc 0) (Za (Zg ZaS hr (Za (Zc 1) (Za (Zc 2) (Za (Zg ZdV hr (Za (Zc 1) (Za (Zc 3) (Za (Zc 0) Ze)))) Ze)))) Ze))))))))
theorem ZbZ:Zs ["crowds","ways_for","reach","waiting","crowd","way"] ["crowds","ways_for"] (Zf Zef):=⟨rfl,rfl,rfl,by decide +kernel,rfl,by decide +kernel,by decide +kernel⟩
theorem ZjG(T:Txt K mg)(ZaR:Callee P w K mg base k "crowds_in" ZD)(ZfR:ZdX P w K mg base k "crowds_in" ZD)(CV:Zd3 P w K mg base k ap){f:Addr}{fd:FuncData}(Fn:Fun K "reached_from" "reached_from" Zef f fd)(hm:mg "reached_from" = some (.ref f))(hb:Binds K fd ["crowds","ways_for"] []):Callee P w K mg base (k+1) "reached_from" (ZbH ap) :=
 Zq Fn ZbZ hm hb λcdv A outer s H E hr=>by
  have hu:=ZJ hr;exact(Zh (Zbd 2 ZbZ.nd Zmm)
  (Zh (Zbd 3 ZbZ.nd (Zlk T.n_list (Zx 0)))
  (Zh (Zmy 100000 rfl (ZaP cGt (ZbV T.n_len (Zx 3)) Zm) (Zh (Zu3 4 3 ZbZ.nd)
  (Zl (Za0 (Zge hu (Zc 4) (Zx 2)) (Zh (ZgS hu 2 (Zc 4) (ZmA CV hr 1 (Za (Zc 4) Ze)))
  (Zl (Zcr 5 ZbZ.nd rfl rfl (Zad (ZeE hu (Zx 2) (Zc 4))) (Zl (ZqS 3 (Zby (Zsi ZfR hr (Za (Zas (Zx 5) Zm) Ze)))))))) Z5))))
  (Zl (ZeY 2 (Zw (Zc 2)))))))
theorem Zki:Zs ["works","looks","crowd"] ["works","looks","crowd"] (Zf ZW):=⟨rfl,rfl,rfl,by decide +kernel,rfl,by decide +kernel,by decide +kernel⟩
theorem ZvI:Zp8 ["works","looks","crowd"] (Zf ZW) (Zlc ZW) ["works","looks"] [0,1]=true:=by decide +kernel
theorem Zkj(T:Txt K mg)(Zen:Callee P w K mg base k "reached_from" (ZbH ap))(ZaR:Callee P w K mg base k "crowds_in" ZD)(ZaS:Callee P w K mg base k "parted" Zar)(Zdb:Callee P w K mg base k "ways_with" Za9){c Tl:Addr}(hc:Zzt K c Tl=true)(ht:(Tl,("coming_from.<locals>.<lambda>":Str))∈FX.tl)(hq:∀q,(Tl,q)∈FX.tl->q=("coming_from.<locals>.<lambda>":Str))(bm:BMod base mg)(good:∀F p cs,Clo K F p (Zvy ZW) (ZsE ZW) (Zlc ZW) ["works","looks"] cs->FX.fv 1 cs F p){f:Addr}{fd:FuncData}(Fn:Zp6 K "coming_from" "coming_from" ZW f fd c)(hm:mg "coming_from" = some (.ref f))(hb:Binds K fd ["works","looks","crowd"] []):Callee P w K mg base (k+1) "coming_from" (Zaf ap) :=
 ZqC Fn Zki hm hb λA outer s H E hr=>by have hu:=ZJ hr;exact(Zl (Zw (ZpN Zen hr (Ztb ZvI hc ht hq bm good) (Zg ZaR hr (Za (Zg ZaS hr (Za (Zc 0) (Za (Zc 1) (Za (Zc 2) Ze)))) Ze)))))
theorem ZmP:Zs ["works"] ["works"] (Zf Zgv):=⟨rfl,rfl,rfl,by decide +kernel,rfl,by decide +kernel,by decide +kernel⟩
theorem ZmQ(T:Txt K mg){f:Addr}{fd:FuncData}(Fn:Fun K "begin_of" "begin_of" Zgv f fd)(hm:mg "begin_of" = some (.ref f))(hb:Binds K fd ["works"] []):Callee P w K mg base (k+1) "begin_of" ZaV :=
 Zq Fn ZmP hm hb λcdv A outer s H E hr=>by have hu:=ZJ hr;exact(Zl (Zw (Zas (Zx 0) Zm)))
theorem Zjd:Zs ["crowds","depths"] ["crowds","depths"] (Zf ZcI):=⟨rfl,rfl,rfl,by decide +kernel,rfl,by decide +kernel,by decide +kernel⟩
theorem Zje(T:Txt K mg){f:Addr}{fd:FuncData}(Fn:Fun K "without_depth" "without_depth" ZcI f fd)(hm:mg "without_depth" = some (.ref f))(hb:Binds K fd ["crowds","depths"] []):Callee P w K mg base (k+1) "without_depth" ZH :=
 Zq Fn Zjd hm hb λcdv A outer s H E hr=>by have hu:=ZJ hr;exact(Zl (ZgT 0 (Zw (Zco (ZaM rfl rfl (N:=["crowd","crowds","depths"]) (ZL (sc:=Zf ZcI) (XN:=["crowds","depths"])) (ZgU 0) (λ_ _ _ _ _=>(ZcS (Zge hu (Zc 0) (Zx 2)))) (λ_ _ _ _ _=>(Zc 0)))))))
theorem ZgY:Zs ["ways","costs","cost_by","told"] ["ways","costs","cost_by"] (Zf ZcQ):=⟨rfl,rfl,rfl,by decide +kernel,rfl,by decide +kernel,by decide +kernel⟩
theorem ZkQ(T:Txt K mg)(CV:Zd3 P w K mg base k ap){f:Addr}{fd:FuncData}(Fn:Fun K "least_cost" "least_cost" ZcQ f fd)(hm:mg "least_cost" = some (.ref f))(hb:Binds K fd ["ways","costs","cost_by"] []):Callee P w K mg base (k+1) "least_cost" (ZbK ap) :=
 Zq Fn ZgY hm hb λcdv A outer s H E hr=>by
  have hu:=ZJ hr;exact(Zh (Zd6 3 ZgY.nd rfl rfl (N:=["way","ways","costs","cost_by","told"]) (ZL (sc:=Zf ZcQ) (XN:=["ways","costs","cost_by","told"])) (Zad (Zc 0)) (λ_ _ _ _ _=>ZbB) (λ_ _ _ _ _=>(ZmA CV hr 3 (Za (Zc 0) (Za (Zc 2) Ze)))))
  (Zl (ZeY 3 (Zw (Zpa T.n_min rfl (Zby (ZaM rfl rfl (N:=["cost","ways","costs","cost_by","told"]) (ZL (sc:=Zf ZcQ) (XN:=["ways","costs","cost_by","told"])) (Zad (Zc 3)) (λ_ _ _ _ _=>(ZcS (ZaP Zms (Zc 0) Zdi))) (λ_ _ _ _ _=>(Zc 0)))))))))
theorem Zdm:Zs ["reach","costs","cost_by","found","crowd","cost"] ["reach","costs","cost_by"] (Zf Ze8):=⟨rfl,rfl,rfl,by decide +kernel,rfl,by decide +kernel,by decide +kernel⟩
theorem ZkF(T:Txt K mg)(Zfb:Callee P w K mg base k "least_cost" (ZbK ap)){f:Addr}{fd:FuncData}(Fn:Fun K "next_costs" "next_costs" Ze8 f fd)(hm:mg "next_costs" = some (.ref f))(hb:Binds K fd ["reach","costs","cost_by"] []):ZdY P w K mg base (k+1) "next_costs" (Zbq ap) :=
 ZqJ Fn Zdm hm hb λcdv A outer s H E hr=>by
  have hu:=ZJ hr;exact(ZnK (Zbd 3 Zdm.nd Zmm)
  (ZnK (ZgT 0 (Zcr 4 Zdm.nd rfl rfl (ZgU 0) (Zl (Za0 (Zge hu (Zc 4) (Zx 1)) (Zh (ZT 5 Zdm.nd (Zg Zfb hr (Za (ZeE hu (Zx 0) (Zc 4)) (Za (Zc 1) (Za (Zc 2) Ze)))))
  (Zl (Za0 (ZaP Zms (Zc 5) Zdi) (Zl (ZgS hu 3 (Zc 4) (Zc 5))) Z5))) Z5))))
  (ZtV 3)))
theorem ZoH:Zs ["works"] ["works"] (Zf Zhg):=⟨rfl,rfl,rfl,by decide +kernel,rfl,by decide +kernel,by decide +kernel⟩
theorem ZoI(T:Txt K mg){f:Addr}{fd:FuncData}(Fn:Fun K "goal_of" "goal_of" Zhg f fd)(hm:mg "goal_of" = some (.ref f))(hb:Binds K fd ["works"] []):Callee P w K mg base (k+1) "goal_of" Zdk :=
 Zq Fn ZoH hm hb λcdv A outer s H E hr=>by have hu:=ZJ hr;exact(Zl (Zw (Zas (Zx 0) Zm)))
theorem ZmR:Zs ["works","crowd"] ["works","crowd"] (Zf ZeU):=⟨rfl,rfl,rfl,by decide +kernel,rfl,by decide +kernel,by decide +kernel⟩
theorem ZmS(T:Txt K mg)(Zhn:Callee P w K mg base k "goal_of" Zdk){f:Addr}{fd:FuncData}(Fn:Fun K "is_there" "is_there" ZeU f fd)(hm:mg "is_there" = some (.ref f))(hb:Binds K fd ["works","crowd"] []):Callee P w K mg base (k+1) "is_there" Zbz :=
 Zq Fn ZmR hm hb λcdv A outer s H E hr=>by have hu:=ZJ hr;exact(Zl (Zw (ZgR T.n_all rfl (Zby (ZaM rfl rfl (N:=["state","works","crowd"]) (ZL (sc:=Zf ZeU) (XN:=["works","crowd"])) (Zad (Zc 1)) (λ_ _ _ _ _=>ZbB) (λ_ _ _ _ _=>(ZuZ (Zc 0) (ZbA (Zg Zhn hr (Za (Zc 1) Ze))))))))))
theorem ZbE:Zs ["works","reach","cost_by","costs","cost","found","crowd","offered"] ["works","reach","cost_by"] (Zf ZcY):=⟨rfl,rfl,rfl,by decide +kernel,rfl,by decide +kernel,by decide +kernel⟩
theorem ZmT(T:Txt K mg)(ZgC:Callee P w K mg base k "is_there" Zbz)(Gf_next_costs:ZdY P w K mg base k "next_costs" (Zbq ap)){f:Addr}{fd:FuncData}(Fn:Fun K "costs_of" "costs_of" ZcY f fd)(hm:mg "costs_of" = some (.ref f))(hb:Binds K fd ["works","reach","cost_by"] []):Callee P w K mg base (k+1) "costs_of" (ZcV ap) :=
 Zq Fn ZbE hm hb λcdv A outer s H E hr=>by
  have hu:=ZJ hr;exact(Zh (Zbd 3 ZbE.nd Zmm)
  (Zh (ZT 4 ZbE.nd Zm)
  (Zh (ZgT 1 (Zd6 5 ZbE.nd rfl rfl (N:=["crowd","works","reach","cost_by","costs","cost","found"," ","offered"]) (ZL (sc:=Zf ZcY) (XN:=["works","reach","cost_by","costs","cost","found","crowd","offered"])) (ZgU 1) (λ_ _ _ _ _=>(ZcS (Zbi (Zg ZgC hr (Za (Zc 1) (Za (Zc 0) Ze)))))) (λ_ _ _ _ _=>(Zc 0))))
  (Zh (Zmy 100000 rfl (ZaP cGt (ZbV T.n_len (Zx 5)) Zm) (Zh (ZeY 5 (Zcr 6 ZbE.nd rfl rfl (Zad (Zc 5)) (Zl (ZgS hu 3 (Zc 6) (Zc 4)))))
  (Zh (Zbd 7 ZbE.nd (Zsj Gf_next_costs hr (Zmz (Zc 1) (Zsh (Zx 3) (Zmz (Zc 2) (Zu2 Ze))))))
  (Zh (ZeY 7 (ZgT 7 (ZT 4 ZbE.nd (Zpa T.n_min rfl (Zby (ZaM rfl rfl (N:=["crowd","works","reach","cost_by","costs","cost","found"," ","offered"]) (ZL (sc:=Zf ZcY) (XN:=["works","reach","cost_by","costs","cost","found","crowd","offered"])) (ZgU 7) (λ_ _ _ _ _=>ZbB) (λ_ _ _ _ _=>(ZeE hu (Zx 8) (Zc 0)))))))))
  (Zl (ZeY 7 (ZgT 7 (Zd6 5 ZbE.nd rfl rfl (N:=["crowd","works","reach","cost_by","costs","cost","found"," ","offered"]) (ZL (sc:=Zf ZcY) (XN:=["works","reach","cost_by","costs","cost","found","crowd","offered"])) (ZgU 7) (λ_ _ _ _ _=>(ZcS (ZaP (cEq hr) (ZeE hu (Zx 8) (Zc 0)) (Zc 5)))) (λ_ _ _ _ _=>(Zc 0))))))))))
  (Zl (ZeY 3 (Zw (Zc 3))))))))
theorem Zl4:Zs ["works","coming"] ["works","coming"] (Zf ZfN):=⟨rfl,rfl,rfl,by decide +kernel,rfl,by decide +kernel,by decide +kernel⟩
theorem Zl5(T:Txt K mg)(ZgD:Callee P w K mg base k "costs_of" (ZcV ap))(Vff_deeds_by:GFn mg "deeds_by" 0){f:Addr}{fd:FuncData}(Fn:Fun K "depths_of" "depths_of" ZfN f fd)(hm:mg "depths_of" = some (.ref f))(hb:Binds K fd ["works","coming"] []):Callee P w K mg base (k+1) "depths_of" (Zaz ap) :=
 Zq Fn Zl4 hm hb λcdv A outer s H E hr=>by have hu:=ZJ hr;exact(Zl (Zw (Zg ZgD hr (Za (Zc 0) (Za (Zc 1) (Za (Zu4 Vff_deeds_by) Ze))))))
theorem Zlp:Zs ["works","looks","coming"] ["works","looks"] (Zf ZjF):=⟨rfl,rfl,rfl,by decide +kernel,rfl,by decide +kernel,by decide +kernel⟩
theorem ZqT(T:Txt K mg)(ZX:Callee P w K mg base k "checked" Zaa)(ZK:Callee P w K mg base k "checked_looks" ZN)(Zag:Callee P w K mg base k "coming_from" (Zaf ap))(ZaH:Callee P w K mg base k "begin_of" ZaV)(Z2:Callee P w K mg base k "without_depth" ZH)(ZaD:Callee P w K mg base k "depths_of" (Zaz ap)){f:Addr}{fd:FuncData}(Fn:Fun K "traps" "traps" ZjF f fd)(hm:mg "traps" = some (.ref f))(hb:Binds K fd ["works","looks"] []):Callee P w K mg base (k+1) "traps" (ZfH ap) :=
 Zq Fn Zlp hm hb λcdv A outer s H E hr=>by
  have hu:=ZJ hr;exact(Zh (Zbo (Zg ZX hr (Za (Zc 0) Ze)))
  (Zh (Zbo (Zg ZK hr (Za (Zc 0) (Za (Zc 1) Ze))))
  (Zh (ZT 2 Zlp.nd (Zg Zag hr (Za (Zc 0) (Za (Zc 1) (Za (Zg ZaH hr (Za (Zc 0) Ze)) Ze)))))
  (Zl (Zw (Zco (ZdT T.n_sorted rfl (ZbA (Zg Z2 hr (Za (Zc 2) (Za (Zg ZaD hr (Za (Zc 0) (Za (Zc 2) Ze))) Ze)))))))))))
theorem ZkR:Zs ["rows","depths"] ["rows","depths"] (Zf Ze9):=⟨rfl,rfl,rfl,by decide +kernel,rfl,by decide +kernel,by decide +kernel⟩
theorem ZkS(T:Txt K mg)(Z2:Callee P w K mg base k "without_depth" ZH)(ZaR:Callee P w K mg base k "crowds_in" ZD){f:Addr}{fd:FuncData}(Fn:Fun K "first_trap" "first_trap" Ze9 f fd)(hm:mg "first_trap" = some (.ref f))(hb:Binds K fd ["rows","depths"] []):Callee P w K mg base (k+1) "first_trap" ZaA :=
 Zq Fn ZkR hm hb λcdv A outer s H E hr=>by have hu:=ZJ hr;exact(Zl (Zw (Zas (ZbA (Zg Z2 hr (Za (Zg ZaR hr (Za (Zc 0) Ze)) (Za (Zc 1) Ze)))) Zm)))
theorem Zdy:Zs ["works","looks","coming","depths","told","trap"] ["works","looks"] (Zf Zfo):=⟨rfl,rfl,rfl,by decide +kernel,rfl,by decide +kernel,by decide +kernel⟩
theorem ZoJ(T:Txt K mg)(ZX:Callee P w K mg base k "checked" Zaa)(ZK:Callee P w K mg base k "checked_looks" ZN)(Zag:Callee P w K mg base k "coming_from" (Zaf ap))(ZaD:Callee P w K mg base k "depths_of" (Zaz ap))(ZaH:Callee P w K mg base k "begin_of" ZaV)(Z2:Callee P w K mg base k "without_depth" ZH)(Zb9:Callee P w K mg base k "first_trap" ZaA){f:Addr}{fd:FuncData}(Fn:Fun K "held_in" "held_in" Zfo f fd)(hm:mg "held_in" = some (.ref f))(hb:Binds K fd ["works","looks"] []):Callee P w K mg base (k+1) "held_in" (Zeb ap) :=
 Zq Fn Zdy hm hb λcdv A outer s H E hr=>by
  have hu:=ZJ hr;exact(Zh (Zbo (Zg ZX hr (Za (Zc 0) Ze)))
  (Zh (Zbo (Zg ZK hr (Za (Zc 0) (Za (Zc 1) Ze))))
  (Zh (ZT 2 Zdy.nd (Zg Zag hr (Za (Zc 0) (Za (Zc 1) (Za (Zg ZaH hr (Za (Zc 0) Ze)) Ze)))))
  (Zh (ZT 3 Zdy.nd (Zg ZaD hr (Za (Zc 0) (Za (Zc 2) Ze))))
  (Zh (Zbd 4 Zdy.nd (Zcq Ze))
  (Zh (Zcr 5 Zdy.nd rfl rfl (Zad (Zco (ZdT T.n_sorted rfl (ZbA (Zg Z2 hr (Za (Zc 2) (Za (Zc 3) Ze))))))) (Zl (ZdS 4 (Zd5 (Za (Zc 5) (Za (Zco (Zsf rfl rfl (N:=["deed","rows","works","looks","coming","depths","told","trap"]) (ZL (sc:=Zf Zfo) (XN:=["works","looks","coming","depths","told","trap"])) (Zad (ZeE hu (Zx 2) (Zc 5))) (λ_ _ _ _ _=>ZbB) (λ_ _ _ _ _=>(Zd5 (Za (Zc 0) (Za (Zg Zb9 hr (Za (Zc 1) (Za (Zc 5) Ze))) Ze)))))) Ze))))))
  (Zl (ZeY 4 (Zw (Zc 4))))))))))
theorem Zeo:Zs ["works","looks","rows","coming","depths"] ["works","looks"] (Zf Zgw):=⟨rfl,rfl,rfl,by decide +kernel,rfl,by decide +kernel,by decide +kernel⟩
theorem ZmU(T:Txt K mg)(ZX:Callee P w K mg base k "checked" Zaa)(ZK:Callee P w K mg base k "checked_looks" ZN)(ZaS:Callee P w K mg base k "parted" Zar)(Zag:Callee P w K mg base k "coming_from" (Zaf ap))(ZaD:Callee P w K mg base k "depths_of" (Zaz ap))(ZaH:Callee P w K mg base k "begin_of" ZaV)(Zat:Callee P w K mg base k "cost_at_worst" ZO)(Zb9:Callee P w K mg base k "first_trap" ZaA)(Z2:Callee P w K mg base k "without_depth" ZH){f:Addr}{fd:FuncData}(Fn:Fun K "why_none" "why_none" Zgw f fd)(hm:mg "why_none" = some (.ref f))(hb:Binds K fd ["works","looks"] []):Callee P w K mg base (k+1) "why_none" (ZcX ap) :=
 Zq Fn Zeo hm hb λcdv A outer s H E hr=>by
  have hu:=ZJ hr;exact(Zh (Zbo (Zg ZX hr (Za (Zc 0) Ze)))
  (Zh (Zbo (Zg ZK hr (Za (Zc 0) (Za (Zc 1) Ze))))
  (Zh (ZT 2 Zeo.nd (Zg ZaS hr (Za (Zc 0) (Za (Zc 1) (Za (Zg ZaH hr (Za (Zc 0) Ze)) Ze)))))
  (Zh (ZT 3 Zeo.nd (Zg Zag hr (Za (Zc 0) (Za (Zc 1) (Za (Zg ZaH hr (Za (Zc 0) Ze)) Ze)))))
  (Zh (ZT 4 Zeo.nd (Zg ZaD hr (Za (Zc 0) (Za (Zc 3) Ze))))
  (Zh (Za0 (ZaP Zms (Zg Zat hr (Za (Zc 2) (Za (Zc 4) Ze))) Zdi) (Zl (Zw Zdi)) Z5)
  (Zl (Zw (Zd5 (Za (Zg Zb9 hr (Za (Zc 2) (Za (Zc 4) Ze))) (Za (Zco (ZdT T.n_sorted rfl (ZbA (Zg Z2 hr (Za (Zc 3) (Za (Zc 4) Ze)))))) Ze)))))))))))
theorem Zl6:Zs ["_law_works_here","_law_crowd_here"] ["_law_works_here","_law_crowd_here"] (Zf Zek):=⟨rfl,rfl,rfl,by decide +kernel,rfl,by decide +kernel,by decide +kernel⟩
theorem Zl7(T:Txt K mg){f:Addr}{fd:FuncData}(Fn:Fun K "_law_there" "_law_there" Zek f fd)(hm:mg "_law_there" = some (.ref f))(hb:Binds K fd ["_law_works_here","_law_crowd_here"] []):Callee P w K mg base (k+1) "_law_there" ZbD :=
 Zq Fn Zl6 hm hb λcdv A outer s H E hr=>by have hu:=ZJ hr;exact(Zl (Zw (Zh3 (cEq hr) (Zco (ZaM rfl rfl (N:=["_law_state","_law_works_here","_law_crowd_here"]) (ZL (sc:=Zf Zek) (XN:=["_law_works_here","_law_crowd_here"])) (Zad (Zc 1)) (λ_ _ _ _ _=>(ZcS (ZqR (Zc 0) (ZbA (Zas (Zx 1) Zm))))) (λ_ _ _ _ _=>(Zc 0)))) (Zco (Zcq Ze)))))
theorem Zho:Zs ["works","looks","begin","depths"] ["works","looks"] (Zf Zii):=⟨rfl,rfl,rfl,by decide +kernel,rfl,by decide +kernel,by decide +kernel⟩
theorem ZpT(T:Txt K mg)(ZX:Callee P w K mg base k "checked" Zaa)(ZK:Callee P w K mg base k "checked_looks" ZN)(ZaH:Callee P w K mg base k "begin_of" ZaV)(ZaD:Callee P w K mg base k "depths_of" (Zaz ap))(Zat:Callee P w K mg base k "cost_at_worst" ZO)(Zag:Callee P w K mg base k "coming_from" (Zaf ap))(ZaS:Callee P w K mg base k "parted" Zar){f:Addr}{fd:FuncData}(Fn:Fun K "fewest" "fewest" Zii f fd)(hm:mg "fewest" = some (.ref f))(hb:Binds K fd ["works","looks"] []):Callee P w K mg base (k+1) "fewest" (Zda ap) :=
 Zq Fn Zho hm hb λcdv A outer s H E hr=>by
  have hu:=ZJ hr;exact(Zh (Zbo (Zg ZX hr (Za (Zc 0) Ze)))
  (Zh (Zbo (Zg ZK hr (Za (Zc 0) (Za (Zc 1) Ze))))
  (Zh (ZT 2 Zho.nd (Zg ZaH hr (Za (Zc 0) Ze)))
  (Zh (ZT 3 Zho.nd (Zg ZaD hr (Za (Zc 0) (Za (Zg Zag hr (Za (Zc 0) (Za (Zc 1) (Za (Zc 2) Ze)))) Ze))))
  (Zl (Zw (Zg Zat hr (Za (Zg ZaS hr (Za (Zc 0) (Za (Zc 1) (Za (Zc 2) Ze)))) (Za (Zc 3) Ze)))))))))
theorem Zl8:Zs ["works"] ["works"] (Zf ZfM):=⟨rfl,rfl,rfl,by decide +kernel,rfl,by decide +kernel,by decide +kernel⟩
theorem Zl9(T:Txt K mg){f:Addr}{fd:FuncData}(Fn:Fun K "states_of" "states_of" ZfM f fd)(hm:mg "states_of" = some (.ref f))(hb:Binds K fd ["works"] []):Callee P w K mg base (k+1) "states_of" Zcv :=
 Zq Fn Zl8 hm hb λcdv A outer s H E hr=>by have hu:=ZJ hr;exact(Zl (Zw (Zas (Zx 0) Zm)))
theorem Zjf:Zs ["works","crowd"] ["works","crowd"] (Zf ZdH):=⟨rfl,rfl,rfl,by decide +kernel,rfl,by decide +kernel,by decide +kernel⟩
theorem Zjg(T:Txt K mg)(ZcZ:Callee P w K mg base k "is_crowd" ZbP)(ZfS:Callee P w K mg base k "states_of" Zcv){f:Addr}{fd:FuncData}(Fn:Fun K "checked_crowd" "checked_crowd" ZdH f fd)(hm:mg "checked_crowd" = some (.ref f))(hb:Binds K fd ["works","crowd"] []):Callee P w K mg base (k+1) "checked_crowd" Zaj :=
 Zq Fn Zjf hm hb λcdv A outer s H E hr=>by
  have hu:=ZJ hr;exact(Zh (Za0 (Zcc (Zbi (Zg ZcZ hr (Za (Zc 1) (Za (Zg ZfS hr (Za (Zc 0) Ze)) Ze))))) (Zl ZfC) Z5)
  (Zl (Zw (Zc 1))))
theorem ZpU:Zs ["works","crowd"] ["works","crowd"] (Zf Zih):=⟨rfl,rfl,rfl,by decide +kernel,rfl,by decide +kernel,by decide +kernel⟩
theorem ZpV(T:Txt K mg)(ZX:Callee P w K mg base k "checked" Zaa)(Zau:Callee P w K mg base k "checked_crowd" Zaj)(Zb8:Callee P w K mg base k "deeds_with" Zbp){f:Addr}{fd:FuncData}(Fn:Fun K "doable" "doable" Zih f fd)(hm:mg "doable" = some (.ref f))(hb:Binds K fd ["works","crowd"] []):Callee P w K mg base (k+1) "doable" ZdU :=
 Zq Fn ZpU hm hb λcdv A outer s H E hr=>by
  have hu:=ZJ hr;exact(Zh (Zbo (Zg ZX hr (Za (Zc 0) Ze)))
  (Zh (Zbo (Zg Zau hr (Za (Zc 0) (Za (Zc 1) Ze))))
  (Zl (Zw (Zg Zb8 hr (Za (Zc 0) (Za (Zc 1) Ze)))))))
theorem ZqU:Zs ["works","looks","crowd"] ["works","looks","crowd"] (Zf ZjE):=⟨rfl,rfl,rfl,by decide +kernel,rfl,by decide +kernel,by decide +kernel⟩
theorem ZqV(T:Txt K mg)(ZX:Callee P w K mg base k "checked" Zaa)(ZK:Callee P w K mg base k "checked_looks" ZN)(Zau:Callee P w K mg base k "checked_crowd" Zaj)(ZaS:Callee P w K mg base k "parted" Zar){f:Addr}{fd:FuncData}(Fn:Fun K "parts" "parts" ZjE f fd)(hm:mg "parts" = some (.ref f))(hb:Binds K fd ["works","looks","crowd"] []):Callee P w K mg base (k+1) "parts" ZdD :=
 Zq Fn ZqU hm hb λcdv A outer s H E hr=>by
  have hu:=ZJ hr;exact(Zh (Zbo (Zg ZX hr (Za (Zc 0) Ze)))
  (Zh (Zbo (Zg ZK hr (Za (Zc 0) (Za (Zc 1) Ze))))
  (Zh (Zbo (Zg Zau hr (Za (Zc 0) (Za (Zc 2) Ze))))
  (Zl (Zw (Zg ZaS hr (Za (Zc 0) (Za (Zc 1) (Za (Zc 2) Ze)))))))))
theorem ZjH:Zs ["works","crowd","deed"] ["works","crowd","deed"] (Zf Zee):=⟨rfl,rfl,rfl,by decide +kernel,rfl,by decide +kernel,by decide +kernel⟩
theorem ZjI(T:Txt K mg)(ZaB:Callee P w K mg base k "is_number" Zax)(ZbT:Callee P w K mg base k "can_be_done" Zbe)(ZaX:Callee P w K mg base k "deeds_of" ZaU){f:Addr}{fd:FuncData}(Fn:Fun K "checked_deed" "checked_deed" Zee f fd)(hm:mg "checked_deed" = some (.ref f))(hb:Binds K fd ["works","crowd","deed"] []):Callee P w K mg base (k+1) "checked_deed" ZbG :=
 Zq Fn ZjH hm hb λcdv A outer s H E hr=>by
  have hu:=ZJ hr;exact(Zh (Za0 (Zcc (Zbi (Zg ZaB hr (Za (Zc 2) (Za Zm (Za (ZI Zqw (ZbV T.n_len (ZbA (Zg ZaX hr (Za (Zc 0) Ze)))) Zm) Ze)))))) (Zl ZfC) Z5)
  (Zh (Za0 (Zcc (Zbi (Zg ZbT hr (Za (Zc 0) (Za (Zc 1) (Za (Zc 2) Ze)))))) (Zl ZfC) Z5)
  (Zl (Zw (Zc 2)))))
theorem ZqW:Zs ["works","crowd","deed"] ["works","crowd","deed"] (Zf ZjD):=⟨rfl,rfl,rfl,by decide +kernel,rfl,by decide +kernel,by decide +kernel⟩
theorem ZqX(T:Txt K mg)(ZX:Callee P w K mg base k "checked" Zaa)(Zau:Callee P w K mg base k "checked_crowd" Zaj)(Zep:Callee P w K mg base k "checked_deed" ZbG)(ZdV:Callee P w K mg base k "led_to" Zcg){f:Addr}{fd:FuncData}(Fn:Fun K "after" "after" ZjD f fd)(hm:mg "after" = some (.ref f))(hb:Binds K fd ["works","crowd","deed"] []):Callee P w K mg base (k+1) "after" ZcG :=
 Zq Fn ZqW hm hb λcdv A outer s H E hr=>by
  have hu:=ZJ hr;exact(Zh (Zbo (Zg ZX hr (Za (Zc 0) Ze)))
  (Zh (Zbo (Zg Zau hr (Za (Zc 0) (Za (Zc 1) Ze))))
  (Zh (Zbo (Zg Zep hr (Za (Zc 0) (Za (Zc 1) (Za (Zc 2) Ze)))))
  (Zl (Zw (Zg ZdV hr (Za (Zc 0) (Za (Zc 1) (Za (Zc 2) Ze)))))))))
theorem ZbU:Zs ["_law_script","_law_works_here","_law_looks_here","_law_some","_law_found","_law_table","_law_crowd_here","_law_rows","_law_deed_here","_law_part","_law_parted","_law_told","_law_k"] ["_law_script"] (Zf Zdx):=⟨rfl,rfl,rfl,by decide +kernel,rfl,by decide +kernel,by decide +kernel⟩
theorem ZtT(T:Txt K mg)(ZfT:Callee P w K mg base k "_law_works" Za8)(ZfU:Callee P w K mg base k "_law_looks" Zcw)(ZjJ:Callee P w K mg base k "traps" (ZfH ap))(Zhp:Callee P w K mg base k "held_in" (Zeb ap))(ZgE:Callee P w K mg base k "why_none" (ZcX ap))(ZaW:Callee P w K mg base k "_law_cell" ZM)(Zeq:Callee P w K mg base k "_law_there" ZbD)(Zik:Callee P w K mg base k "fewest" (Zda ap))(Zil:Callee P w K mg base k "doable" ZdU)(ZjK:Callee P w K mg base k "parts" ZdD)(ZG:Callee P w K mg base k "_law_mix" ZB)(ZjL:Callee P w K mg base k "after" ZcG){f:Addr}{fd:FuncData}(Fn:Fun K "law" "law" Zdx f fd):Zde P w K mg base CX0 (k+1) f fd ["_law_script"] (spD K 1 (ZfI ap)) :=
 Zph Fn ZbU λcdv A outer s H E hr=>by
  have hu:=ZJ hr;exact(Zh (ZT 1 ZbU.nd (Zg ZfT hr (Za (Zc 0) (Za Zm Ze))))
  (Zh (ZT 2 ZbU.nd (Zg ZfU hr (Za (Zc 1) (Za (Zg ZaW hr (Za (Zc 0) (Za Zm Ze))) Ze))))
  (Zh (ZT 3 ZbU.nd (Zg ZjJ hr (Za (Zc 1) (Za (Zc 2) Ze))))
  (Zh (ZT 4 ZbU.nd (Zg Zhp hr (Za (Zc 1) (Za (Zc 2) Ze))))
  (Zh (Za0 (ZjB (Zgd (Zcc (Zbi (Zjj T.n_isinstance T.n_list (Zc 4)))) (Zfz (ZaP (cNe hr) (Zco (ZaM rfl rfl (N:=["_law_row","_law_script","_law_works_here","_law_looks_here","_law_some","_law_found","_law_table","_law_crowd_here","_law_rows","_law_deed_here","_law_part","_law_parted","_law_told","_law_k"]) (ZL (sc:=Zf Zdx) (XN:=["_law_script","_law_works_here","_law_looks_here","_law_some","_law_found","_law_table","_law_crowd_here","_law_rows","_law_deed_here","_law_part","_law_parted","_law_told","_law_k"])) (Zad (Zc 4)) (λ_ _ _ _ _=>ZbB) (λ_ _ _ _ _=>(Zas (Zx 0) Zm)))) (Zc 3))))) (Zl (Zw Zbt)) Z5)
  (Zh (Zbd 5 ZbU.nd Zmm)
  (Zh (Zo9 6 7 ZbU.nd rfl rfl (Zad (Zc 4)) (Zh (Za0 (ZjB (Zgd (Zbi (Zg Zeq hr (Za (Zc 1) (Za (Zc 6) Ze)))) (Zgd (Zcc (Zbi (Zjj T.n_isinstance T.n_list (Zc 7)))) (Zfz (ZaP (cNe hr) (Zco (ZaM rfl rfl (N:=["_law_row","_law_script","_law_works_here","_law_looks_here","_law_some","_law_found","_law_table","_law_crowd_here","_law_rows","_law_deed_here","_law_part","_law_parted","_law_told","_law_k"]) (ZL (sc:=Zf Zdx) (XN:=["_law_script","_law_works_here","_law_looks_here","_law_some","_law_found","_law_table","_law_crowd_here","_law_rows","_law_deed_here","_law_part","_law_parted","_law_told","_law_k"])) (Zad (Zc 7)) (λ_ _ _ _ _=>ZbB) (λ_ _ _ _ _=>(Zas (Zx 0) Zm)))) (Zg Zil hr (Za (Zc 1) (Za (Zc 6) Ze)))))))) (Zl (Zw Zbt)) Z5)
  (Zh (Zo9 8 9 ZbU.nd rfl rfl (Zad (Zc 7)) (Zh (Zou 10 ZbU.nd rfl rfl (N:=["_law_seen","_law_one","_law_script","_law_works_here","_law_looks_here","_law_some","_law_found","_law_table","_law_crowd_here","_law_rows","_law_deed_here","_law_part","_law_parted","_law_told","_law_k"]) (ZL (sc:=Zf Zdx) (XN:=["_law_script","_law_works_here","_law_looks_here","_law_some","_law_found","_law_table","_law_crowd_here","_law_rows","_law_deed_here","_law_part","_law_parted","_law_told","_law_k"])) (Zad (Zg ZjK hr (Za (Zc 1) (Za (Zc 2) (Za (Zg ZjL hr (Za (Zc 1) (Za (Zc 6) (Za (Zc 8) Ze)))) Ze))))) (λ_ _ _ _ _=>(ZcS (Zu0 hr (Zc 1) (Zx 5)))) (λ_ _ _ _ _=>(Zc 1)))
  (Zl (ZeY 10 (Za0 (ZjB (Zgd (ZaP (cEq hr) (Zc 10) (Zco (Zcq Ze))) (Zfz (ZaP (cNe hr) (Zc 9) (Zas (Zx 10) Zm))))) (Zl (Zw Zbt)) Z5)))))
  (Zl (ZgS hu 5 (Zc 6) (Zc 7))))))
  (Zh (ZT 11 ZbU.nd (Zg ZgE hr (Za (Zc 1) (Za (Zc 2) Ze))))
  (Zh (Za0 (ZaP Zv0 (Zc 11) Zdi) (Zl (Zw (Zh3 Zms (Zg Zik hr (Za (Zc 1) (Za (Zc 2) Ze))) Zdi))) Z5)
  (Zh (ZT 6 ZbU.nd (Zas (Zx 11) Zm))
  (Zh (Zcr 12 ZbU.nd rfl rfl (Zcd T.n_range Zm) (Zh (Za0 (ZjB (Zgd (Zbi (Zg Zeq hr (Za (Zc 1) (Za (Zc 6) Ze)))) (Zfz (Zge hu (Zc 6) (Zx 5))))) (Zl (Zw Zbt)) Z5)
  (Zh (Za0 (ZaP (cEq hr) (ZeE hu (Zx 5) (Zc 6)) (Zco (Zcq Ze))) (Zl (Zw Zbt)) Z5)
  (Zl (ZT 6 ZbU.nd (Zas (ZbA (Zas (Zmv hu 5 (Zc 6)) (ZI oMod (Zg ZG hr (Za (ZI ZbN (Zg ZaW hr (Za (Zc 0) (Za Zm Ze))) (ZI Zes Zm (Zc 12))) (Za Zm (Za Zm Ze)))) (ZbV T.n_len (Zmv hu 5 (Zc 6)))))) Zm))))))
  (Zl (Zw Zbt)))))))))))))
def FvI(K:ZxR)(t:Nat)(cs:List PyData)(F:Hp)(a:Addr):Prop :=
 (t=0/\cs=[]/\ZAc K Zyz "deeds_by" = some (some (.ref a)))\/(t=1/\Clo K F a (Zvy ZW) (ZsE ZW) (Zlc ZW) ["works","looks"] cs)
theorem Zwh:Zj8 (Zlc ZW) "part" ["works","looks"]:=⟨rfl,rfl,rfl,by decide +kernel,rfl,by decide +kernel,by decide +kernel⟩
theorem Zwk(T:Txt K mg)(Zdb:Callee P w K mg base k "ways_with" Za9)(qual:Str)(f:Addr)(cd:Value)(clos:List (Str × Addr))(A:Around)(outer:List PySem.Env)(s:Shared)(H:Hp)(hr:Zaq k (A.deeper (ZAJ qual (Zlc ZW) s.heap.objs.size f cd clos))) :
  XE (Zmo P w K mg base ["part","works","looks"] qual (Zlc ZW) f cd clos A outer s H) (ZsE ZW) (Zj Za9 (Zb (Zd 1) (Zb (Zd 2) (Zb (Zd 0) Zk)))):=by
 have hu:=ZJ hr;exact(Zg Zdb hr (Za (Zc 1) (Za (Zc 2) (Za (Zc 0) Ze))))
theorem ZwC(T:Txt K mg)(V:∀t cs F a,FX.fv t cs F a->FvI K t cs F a){f0:Addr}{fd0:FuncData}(Fn0:Fun K "deeds_by" "deeds_by" ZeV f0 fd0)(hm0:mg "deeds_by" = some (.ref f0))(hn0:∀a,ZAc K Zyz "deeds_by" = some (some (.ref a))->mg "deeds_by" = some (.ref a))(ZgF:Callee P w K mg base (k+1) "deeds_by" ZcW)(Lf_ways_with:Callee P w K mg base k "ways_with" Za9):Zd3 P w K mg base (k+1) ap:=by
 constructor
 ·intro t cs F a h A outer s H e0 sub
  rcases V t cs F a h with⟨rfl,rfl,hn⟩ | ⟨rfl,hC⟩
  ·exact Zuo Fn0 hm0 (hn0 a hn) e0
  ·exact Zvi hC e0 sub
 ·intro t cs F a h A outer s H e0 sub us vs ds d Q hr tb nt rv rs hap kk
  rcases V t cs F a h with⟨rfl,rfl,hn⟩ | ⟨rfl,hC⟩
  ·exact ZtF ZgF (hn0 a hn) e0 sub hr tb nt rv rs hap kk
  ·exact Zt8 Zwh (λ_ _ _ _ _ _=>rfl) (Zwk T Lf_ways_with) hC e0 sub hr tb nt rv rs hap kk
def tlI:List (Addr × Str):=[(287,"coming_from.<locals>.<lambda>")]
@[reducible] def fxI(K:ZxR):FX where
 tl:=tlI
 fv:=FvI K
 sw:=λhF hob h=>by
  rcases h with h | h
  ·exact ZyP (h)
  ·exact Zyx ((⟨h.1,h.2.sw hF hob⟩))
 drop:=λh=>by
  rcases h with h | h
  ·exact ZyP (h)
  ·exact Zyx ((⟨h.1,h.2.drop⟩))
 mono:=λh s=>by
  rcases h with h | h
  ·exact ZyP (h)
  ·exact Zyx ((⟨h.1,h.2.mono s⟩))
structure Def(K:ZxR)(mg:Str->Option Value)(x:Str)(st:Stmt)(ps:List Str):Prop where
 ex:∃f fd,Fun K x x st f fd/\mg x=some (.ref f)/\Binds K fd ps []
theorem Zwg{h:Heap}{x:Str}{st:Stmt}{ps:List Str}{f:Addr}{oc:Value}{od an:Option Addr}{osl:Array (Option Value)}{kV doc pm cdv ct:Value}(X:K.In h)(G:h.Ns Zyz mg)(a:ZAc K Zyz x=some (some (.ref f)))
  (l:K.lookup f=some ⟨oc,od,.func (Zy6 x x (Zca st) (Za2 st) (Zf st) .none kV doc pm an cdv ct),osl⟩) (c:ZzO K cdv x=true) (kp:Zzd K (.ref f)=true)
  (b:∀(kV doc pm:Value) (an:Option Addr) (cdv ct:Value) (us:List Value),us.length=ps.length->bindArgs (Zy6 x x (Zca st) (Za2 st) (Zf st) .none kV doc pm an cdv ct) ⟨us,[]⟩=pure (ps.zip us)):Def K mg x st ps :=
 ⟨f,_,ZnO l c kp,ZA5 X G a,(ZnO l c kp).binds b⟩
structure ZvU(K:ZxR)(mg:Str->Option Value)(x:Str)(st:Stmt)(ps:List Str)(c T:Addr):Prop where
 ex:∃f fd,Zp6 K x x st f fd c/\mg x=some (.ref f)/\Binds K fd ps []/\Zzt K c T=true
theorem Zt1{h:Heap}{x:Str}{st:Stmt}{ps:List Str}{f c T:Addr}{oc:Value}{od an:Option Addr}{osl:Array (Option Value)}{kV doc pm cdv ct:Value}(X:K.In h)(G:h.Ns Zyz mg)(a:ZAc K Zyz x=some (some (.ref f)))
  (l:K.lookup f=some ⟨oc,od,.func (Zy6 x x (Zca st) (Za2 st) (Zf st) .none kV doc pm an cdv ct),osl⟩) (cc:ZzO K cdv x=true) (kp:Zzd K (.ref f)=true)
  (b:∀(kV doc pm:Value) (an:Option Addr) (cdv ct:Value) (us:List Value),us.length=ps.length->bindArgs (Zy6 x x (Zca st) (Za2 st) (Zf st) .none kV doc pm an cdv ct) ⟨us,[]⟩=pure (ps.zip us)) (e:cdv=.ref c) (hc:Zzt K c T=true):ZvU K mg x st ps c T:=by
 subst e;exact⟨f,_,Zup l cc kp,ZA5 X G a,.all (b kV doc pm an _ ct),hc⟩
def NsV(K:ZxR)(mg:Str->Option Value)(x:Str):Prop:=(∀a,ZAc K Zyz x=some (some (.ref a))->mg x=some (.ref a))/\∃f,ZAc K Zyz x=some (some (.ref f))
theorem Zvh{h:Heap}{x:Str}{f:Addr}(X:K.In h)(G:h.Ns Zyz mg)(a:ZAc K Zyz x=some (some (.ref f))):NsV K mg x:=⟨λ_ e=>ZA5 X G e,f,a⟩
end
structure Ds(K:ZxR)(mg:Str->Option Value):Prop where
 ZoK:Def K mg "_law_cell" Zgx ["_law_script","_law_k"]
 ZpW:Def K mg "_law_mix" Zhi ["_law_cell_here","_law_prime","_law_many"]
 ZmV:Def K mg "_law_crowd" Zeh ["_law_cell_here","_law_many","_law_least"]
 ZoL:Def K mg "_law_deed" Zgy ["_law_cell_here","_law_many"]
 ZoM:Def K mg "_law_walk" Zgz ["_law_cell_here","_law_many"]
 ZmW:Def K mg "_law_works" Zei ["_law_script","_law_at"]
 ZmX:Def K mg "_law_looks" Zej ["_law_works_here","_law_cell_here"]
 ZmY:Def K mg "is_number" ZfJ ["thing","least","most"]
 ZmZ:Def K mg "is_rising" ZfK ["thing","many"]
 ZoN:Def K mg "is_crowd" Zgs ["thing","many"]
 ZqY:Def K mg "is_row" Zif ["thing","least","most"]
 ZpX:Def K mg "is_deed" Zfl ["thing","many"]
 Zm0:Def K mg "are_deeds" Zec ["thing","many"]
 ZpY:Def K mg "is_look" Zfm ["thing","many"]
 Zm1:Def K mg "are_looks" Zed ["thing","many"]
 Zm2:Def K mg "are_works" ZfL ["thing"]
 ZpZ:Def K mg "checked" Zhh ["works"]
 ZoO:Def K mg "looks_of" Zgu ["works"]
 ZjM:Def K mg "checked_looks" ZdG ["works","looks"]
 Zim:Def K mg "crowds_in" Zcx ["rows"]
 ZjN:Def K mg "cost_at_worst" ZcH ["rows","costs"]
 Zjs:Def K mg "deeds_by" ZeV ["way","depths"]
 Zp0:Def K mg "seen_in" Zfn ["works","looks","state"]
 ZqZ:Def K mg "parted" Zgg ["works","looks","crowd"]
 ZoP:Def K mg "deeds_of" Zgt ["works"]
 ZkT:Def K mg "can_be_done" Zdl ["works","crowd","deed"]
 Zma:Def K mg "deeds_with" ZdA ["works","crowd"]
 Zq0:Def K mg "led_to" Zig ["works","crowd","deed"]
 Zm3:Def K mg "ways_with" Zeg ["works","looks","crowd"]
 Zkk:Def K mg "reached_from" Zef ["crowds","ways_for"]
 ZkU:ZvU K mg "coming_from" ZW ["works","looks","crowd"] 291 287
 ZoQ:Def K mg "begin_of" Zgv ["works"]
 ZjO:Def K mg "without_depth" ZcI ["crowds","depths"]
 Zmb:Def K mg "least_cost" ZcQ ["ways","costs","cost_by"]
 Zmc:Def K mg "next_costs" Ze8 ["reach","costs","cost_by"]
 Zp1:Def K mg "goal_of" Zhg ["works"]
 ZoR:Def K mg "is_there" ZeU ["works","crowd"]
 ZoS:Def K mg "costs_of" ZcY ["works","reach","cost_by"]
 Zm4:Def K mg "depths_of" ZfN ["works","coming"]
 Zsk:Def K mg "traps" ZjF ["works","looks"]
 Zmd:Def K mg "first_trap" Ze9 ["rows","depths"]
 Zp2:Def K mg "held_in" Zfo ["works","looks"]
 ZoT:Def K mg "why_none" Zgw ["works","looks"]
 Zm5:Def K mg "_law_there" Zek ["_law_works_here","_law_crowd_here"]
 Zq1:Def K mg "fewest" Zii ["works","looks"]
 Zm6:Def K mg "states_of" ZfM ["works"]
 ZjP:Def K mg "checked_crowd" ZdH ["works","crowd"]
 Zq2:Def K mg "doable" Zih ["works","crowd"]
 Zsl:Def K mg "parts" ZjE ["works","looks","crowd"]
 Zkl:Def K mg "checked_deed" Zee ["works","crowd","deed"]
 Zsm:Def K mg "after" ZjD ["works","crowd","deed"]
 Nf_deeds_by:NsV K mg "deeds_by"
section
variable[FX]{P:Program}{w:World}{K:ZxR}{mg:Str->Option Value}{base:Heap}{k:Nat}
theorem Zvj(T:Txt K mg)(hV:∀t cs F a,FX.fv t cs F a↔FvI K t cs F a)(hTL:FX.tl=tlI)(Dd:Ds K mg)(bm:BMod base mg){f:Addr}{fd:FuncData}(Fn:Fun K "law" "law" Zdx f fd):Zde P w K mg base CX0 11 f fd ["_law_script"] (spD K 1 (ZfI ap)):=by
 have Vff_deeds_by:GFn mg "deeds_by" 0:=by obtain⟨h1,g,h2⟩:=Dd.Nf_deeds_by;exact⟨g,h1 g h2,λF=>(hV _ _ _ _).mpr (ZyP (⟨rfl,rfl,h2⟩))⟩
 have ZaW:Callee P w K mg base 1 "_law_cell" ZM:=by obtain⟨f,fd,F,m,b⟩:=Dd.ZoK.ex;exact ZmF T  F m b
 have ZG:Callee P w K mg base 1 "_law_mix" ZB:=by obtain⟨f,fd,F,m,b⟩:=Dd.ZpW.ex;exact Zoy T  F m b
 have Zel:Callee P w K mg base 2 "_law_crowd" ZbC:=by obtain⟨f,fd,F,m,b⟩:=Dd.ZmV.ex;exact ZlP T (ZG.mono (by decide)) F m b
 have ZgA:Callee P w K mg base 2 "_law_deed" ZcT:=by obtain⟨f,fd,F,m,b⟩:=Dd.ZoL.ex;exact ZmG T (ZG.mono (by decide)) F m b
 have ZgB:Callee P w K mg base 2 "_law_walk" ZcU:=by obtain⟨f,fd,F,m,b⟩:=Dd.ZoM.ex;exact ZmH T (ZG.mono (by decide)) F m b
 have ZfT:Callee P w K mg base 3 "_law_works" Za8:=by obtain⟨f,fd,F,m,b⟩:=Dd.ZmW.ex;exact ZlQ T (ZaW.mono (by decide)) (Zel.mono (by decide)) (ZG.mono (by decide)) (ZgA.mono (by decide)) (ZgB.mono (by decide)) F m b
 have ZfU:Callee P w K mg base 2 "_law_looks" Zcw:=by obtain⟨f,fd,F,m,b⟩:=Dd.ZmX.ex;exact ZlS T (ZG.mono (by decide)) F m b
 have ZaB:Callee P w K mg base 1 "is_number" Zax:=by obtain⟨f,fd,F,m,b⟩:=Dd.ZmY.ex;exact ZlU T  F m b
 have ZaC:Callee P w K mg base 2 "is_rising" Z9:=by obtain⟨f,fd,F,m,b⟩:=Dd.ZmZ.ex;exact ZlV T (ZaB.mono (by decide)) F m b
 have ZcZ:Callee P w K mg base 3 "is_crowd" ZbP:=by obtain⟨f,fd,F,m,b⟩:=Dd.ZoN.ex;exact ZmJ T (ZaC.mono (by decide)) F m b
 have ZaQ:Callee P w K mg base 1 "is_row" Za6:=by obtain⟨f,fd,F,m,b⟩:=Dd.ZqY.ex;exact ZpQ T  F m b
 have Zhj:Callee P w K mg base 3 "is_deed" Zce:=by obtain⟨f,fd,F,m,b⟩:=Dd.ZpX.ex;exact ZoA T (ZaQ.mono (by decide)) (ZaC.mono (by decide)) F m b
 have ZfO:Callee P w K mg base 4 "are_deeds" Zcs:=by obtain⟨f,fd,F,m,b⟩:=Dd.Zm0.ex;exact ZlX T (ZaQ.mono (by decide)) (Zhj.mono (by decide)) F m b
 have Zhk:Callee P w K mg base 2 "is_look" Zcf:=by obtain⟨f,fd,F,m,b⟩:=Dd.ZpY.ex;exact ZoC T (ZaQ.mono (by decide)) (ZaB.mono (by decide)) F m b
 have ZfP:Callee P w K mg base 3 "are_looks" Zct:=by obtain⟨f,fd,F,m,b⟩:=Dd.Zm1.ex;exact ZlZ T (ZaQ.mono (by decide)) (Zhk.mono (by decide)) F m b
 have ZfQ:Callee P w K mg base 5 "are_works" Zcu:=by obtain⟨f,fd,F,m,b⟩:=Dd.Zm2.ex;exact Zl0 T (ZcZ.mono (by decide)) (ZaC.mono (by decide)) (ZaQ.mono (by decide)) (ZaB.mono (by decide)) (ZfO.mono (by decide)) (ZfP.mono (by decide)) F m b
 have ZX:Callee P w K mg base 6 "checked" Zaa:=by obtain⟨f,fd,F,m,b⟩:=Dd.ZpZ.ex;exact ZoE T (ZfQ.mono (by decide)) F m b
 have Zc0:Callee P w K mg base 1 "looks_of" ZbQ:=by obtain⟨f,fd,F,m,b⟩:=Dd.ZoO.ex;exact ZmL T  F m b
 have ZK:Callee P w K mg base 3 "checked_looks" ZN:=by obtain⟨f,fd,F,m,b⟩:=Dd.ZjM.ex;exact Zjb T (ZaC.mono (by decide)) (Zc0.mono (by decide)) F m b
 have ZaR:Callee P w K mg base 1 "crowds_in" ZD:=by obtain⟨f,fd,F,m,b⟩:=Dd.Zim.ex;exact Zl1 T  F m b
 have ZfR:ZdX P w K mg base 1 "crowds_in" ZD:=by obtain⟨f,fd,F,m,b⟩:=Dd.Zim.ex;exact ZkN T  F m b
 have Zat:Callee P w K mg base 2 "cost_at_worst" ZO:=by obtain⟨f,fd,F,m,b⟩:=Dd.ZjN.ex;exact Zjc T (ZaR.mono (by decide)) F m b
 have ZgF:Callee P w K mg base 3 "deeds_by" ZcW:=by obtain⟨f,fd,F,m,b⟩:=Dd.Zjs.ex;exact ZmM T (Zat.mono (by decide)) F m b
 have Zhm:Callee P w K mg base 2 "seen_in" Zdj:=by obtain⟨f,fd,F,m,b⟩:=Dd.Zp0.ex;exact ZoG T (Zc0.mono (by decide)) F m b
 have ZaS:Callee P w K mg base 3 "parted" Zar:=by obtain⟨f,fd,F,m,b⟩:=Dd.ZqZ.ex;exact ZpR T (Zhm.mono (by decide)) F m b
 have ZaX:Callee P w K mg base 1 "deeds_of" ZaU:=by obtain⟨f,fd,F,m,b⟩:=Dd.ZoP.ex;exact ZmO T  F m b
 have ZbT:Callee P w K mg base 2 "can_be_done" Zbe:=by obtain⟨f,fd,F,m,b⟩:=Dd.ZkT.ex;exact Zkh T (ZaX.mono (by decide)) F m b
 have Zb8:Callee P w K mg base 3 "deeds_with" Zbp:=by obtain⟨f,fd,F,m,b⟩:=Dd.Zma.ex;exact ZkP T (ZbT.mono (by decide)) (ZaX.mono (by decide)) F m b
 have ZdV:Callee P w K mg base 2 "led_to" Zcg:=by obtain⟨f,fd,F,m,b⟩:=Dd.Zq0.ex;exact ZpS T (ZaX.mono (by decide)) F m b
 have Zdb:Callee P w K mg base 4 "ways_with" Za9:=by obtain⟨f,fd,F,m,b⟩:=Dd.Zm3.ex;exact Zl3 T (ZaS.mono (by decide)) (Zb8.mono (by decide)) (ZdV.mono (by decide)) F m b
 obtain⟨f0,fd0,F0,m0,b0⟩:=Dd.Zjs.ex;have CV:Zd3 P w K mg base 5 ap:=ZwC (k:=4) T (λt cs F a h=>(hV t cs F a).mp h) F0 m0 Dd.Nf_deeds_by.1 (ZgF.mono (by decide)) (Zdb.mono (by decide));have Zen:Callee P w K mg base 6 "reached_from" (ZbH ap):=by obtain⟨f,fd,F,m,b⟩:=Dd.Zkk.ex;exact ZjG T (ZaR.mono (by decide)) (ZfR.mono (by decide)) (CV.mono (by decide)) F m b
 have Zag:Callee P w K mg base 7 "coming_from" (Zaf ap):=by obtain⟨f,fd,F,m,b,hc⟩:=Dd.ZkU.ex;exact Zkj T (Zen.mono (by decide)) (ZaR.mono (by decide)) (ZaS.mono (by decide)) (Zdb.mono (by decide)) hc (by rw[hTL]; decide) (by rw[hTL]; intro q h; simpa [tlI]using h) bm (λF p cs h=>(hV _ _ _ _).mpr (Zyx ((⟨rfl,h⟩)))) F m b
 have ZaH:Callee P w K mg base 1 "begin_of" ZaV:=by obtain⟨f,fd,F,m,b⟩:=Dd.ZoQ.ex;exact ZmQ T  F m b
 have Z2:Callee P w K mg base 1 "without_depth" ZH:=by obtain⟨f,fd,F,m,b⟩:=Dd.ZjO.ex;exact Zje T  F m b
 have Zfb:Callee P w K mg base 6 "least_cost" (ZbK ap):=by obtain⟨f,fd,F,m,b⟩:=Dd.Zmb.ex;exact ZkQ T  (CV.mono (by decide)) F m b
 have Gf_next_costs:ZdY P w K mg base 7 "next_costs" (Zbq ap):=by obtain⟨f,fd,F,m,b⟩:=Dd.Zmc.ex;exact ZkF T (Zfb.mono (by decide)) F m b
 have Zhn:Callee P w K mg base 1 "goal_of" Zdk:=by obtain⟨f,fd,F,m,b⟩:=Dd.Zp1.ex;exact ZoI T  F m b
 have ZgC:Callee P w K mg base 2 "is_there" Zbz:=by obtain⟨f,fd,F,m,b⟩:=Dd.ZoR.ex;exact ZmS T (Zhn.mono (by decide)) F m b
 have ZgD:Callee P w K mg base 8 "costs_of" (ZcV ap):=by obtain⟨f,fd,F,m,b⟩:=Dd.ZoS.ex;exact ZmT T (ZgC.mono (by decide)) (Gf_next_costs.mono (by decide)) F m b
 have ZaD:Callee P w K mg base 9 "depths_of" (Zaz ap):=by obtain⟨f,fd,F,m,b⟩:=Dd.Zm4.ex;exact Zl5 T (ZgD.mono (by decide)) Vff_deeds_by F m b
 have ZjJ:Callee P w K mg base 10 "traps" (ZfH ap):=by obtain⟨f,fd,F,m,b⟩:=Dd.Zsk.ex;exact ZqT T (ZX.mono (by decide)) (ZK.mono (by decide)) (Zag.mono (by decide)) (ZaH.mono (by decide)) (Z2.mono (by decide)) (ZaD.mono (by decide)) F m b
 have Zb9:Callee P w K mg base 2 "first_trap" ZaA:=by obtain⟨f,fd,F,m,b⟩:=Dd.Zmd.ex;exact ZkS T (Z2.mono (by decide)) (ZaR.mono (by decide)) F m b
 have Zhp:Callee P w K mg base 10 "held_in" (Zeb ap):=by obtain⟨f,fd,F,m,b⟩:=Dd.Zp2.ex;exact ZoJ T (ZX.mono (by decide)) (ZK.mono (by decide)) (Zag.mono (by decide)) (ZaD.mono (by decide)) (ZaH.mono (by decide)) (Z2.mono (by decide)) (Zb9.mono (by decide)) F m b
 have ZgE:Callee P w K mg base 10 "why_none" (ZcX ap):=by obtain⟨f,fd,F,m,b⟩:=Dd.ZoT.ex;exact ZmU T (ZX.mono (by decide)) (ZK.mono (by decide)) (ZaS.mono (by decide)) (Zag.mono (by decide)) (ZaD.mono (by decide)) (ZaH.mono (by decide)) (Zat.mono (by decide)) (Zb9.mono (by decide)) (Z2.mono (by decide)) F m b
 have Zeq:Callee P w K mg base 1 "_law_there" ZbD:=by obtain⟨f,fd,F,m,b⟩:=Dd.Zm5.ex;exact Zl7 T  F m b
 have Zik:Callee P w K mg base 10 "fewest" (Zda ap):=by obtain⟨f,fd,F,m,b⟩:=Dd.Zq1.ex;exact ZpT T (ZX.mono (by decide)) (ZK.mono (by decide)) (ZaH.mono (by decide)) (ZaD.mono (by decide)) (Zat.mono (by decide)) (Zag.mono (by decide)) (ZaS.mono (by decide)) F m b
 have ZfS:Callee P w K mg base 1 "states_of" Zcv:=by obtain⟨f,fd,F,m,b⟩:=Dd.Zm6.ex;exact Zl9 T  F m b
 have Zau:Callee P w K mg base 4 "checked_crowd" Zaj:=by obtain⟨f,fd,F,m,b⟩:=Dd.ZjP.ex;exact Zjg T (ZcZ.mono (by decide)) (ZfS.mono (by decide)) F m b
 have Zil:Callee P w K mg base 7 "doable" ZdU:=by obtain⟨f,fd,F,m,b⟩:=Dd.Zq2.ex;exact ZpV T (ZX.mono (by decide)) (Zau.mono (by decide)) (Zb8.mono (by decide)) F m b
 have ZjK:Callee P w K mg base 7 "parts" ZdD:=by obtain⟨f,fd,F,m,b⟩:=Dd.Zsl.ex;exact ZqV T (ZX.mono (by decide)) (ZK.mono (by decide)) (Zau.mono (by decide)) (ZaS.mono (by decide)) F m b
 have Zep:Callee P w K mg base 3 "checked_deed" ZbG:=by obtain⟨f,fd,F,m,b⟩:=Dd.Zkl.ex;exact ZjI T (ZaB.mono (by decide)) (ZbT.mono (by decide)) (ZaX.mono (by decide)) F m b
 have ZjL:Callee P w K mg base 7 "after" ZcG:=by obtain⟨f,fd,F,m,b⟩:=Dd.Zsm.ex;exact ZqX T (ZX.mono (by decide)) (Zau.mono (by decide)) (Zep.mono (by decide)) (ZdV.mono (by decide)) F m b
 exact ZtT (k:=10) T (ZfT.mono (by decide)) (ZfU.mono (by decide)) (ZjJ.mono (by decide)) (Zhp.mono (by decide)) (ZgE.mono (by decide)) (ZaW.mono (by decide)) (Zeq.mono (by decide)) (Zik.mono (by decide)) (Zil.mono (by decide)) (ZjK.mono (by decide)) (ZG.mono (by decide)) (ZjL.mono (by decide)) Fn
end
theorem all_mk{l:ZB8}{w:World}{K:ZxR}{h:Heap}{mg:Str->Option Value}{fa f4:Addr}{od4 an4:Option Addr}{sl4:Array (Option Value)}{oc4 kV4 dc4 pm4 cd4 ct4:Value}(X:K.In h)(G:h.Ns Zyz mg)(hfa:mg "law" = some (.ref fa))
  (T:Txt K mg) (Dd:Ds K mg) (a4:ZAc K Zyz "law" = some (some (.ref f4)))
  (l4:K.lookup f4=some ⟨oc4,od4,.func (Zy6 "law" "law" (Zca Zdx) (Za2 Zdx) (Zf Zdx) .none kV4 dc4 pm4 an4 cd4 ct4),sl4⟩) (c4:ZzO K cd4 "law" = true) (k4:Zzd K (.ref f4)=true) :
  ∃fd:FuncData,(∀(s:Shared) (v:Value),BindsTo s fd ⟨[v],[]⟩ [("_law_script",v)])/\∀base:Heap,K.In base->base.Ns Zyz mg->BMod base mg->Zde l.prog w K mg base CX0 11 fa fd ["_law_script"] (@spD (fxI K) K 1 (ZfI ap)):=by
 have e:=hfa.symm.trans (ZA5 X G a4);cases e;have fx0:FX:=FX0;exact⟨_,λs v=>.of_eq rfl,λbase _ _ bm=>@Zvj (fxI K) _ _ _ _ _ T (λ_ _ _ _=>Iff.rfl) rfl Dd bm _ _ (ZnO (st:=Zdx) l4 c4 k4)⟩
theorem walk{l:ZB8}{q:Program}{loose:List Str}{XP:(Str->Option Value)->Heap->Prop}{YP:World->Heap->Prop}{d:DefRec}{K:Params->ZxR}(hn:l.most=some 63)(hdf:d.params.defaults=[])
  (ZjZ:∀ns:List Int,ns.length<=63->(ZfI ap) [.list (HM.ofInts ns)]=some (.bool true)) (hY:∀(w:World) (h:Heap),YP w h->(K w.params).In h) (hYT:∀(w:World) (h:Heap),YP w h->∀q∈([(291,287)]:List (Addr × Addr)),h.get? q.2=some (ZAt #[]))
  (hT:∀(w:World),∀q∈([(291,287)]:List (Addr × Addr)),Zzt (K w.params) q.1 q.2=true/\(K w.params).lookup q.2=none)
  (F:∀(w:World) (mg:Str->Option Value) (fa:Addr) (h:Heap),(K w.params).In h->h.Ns Zyz mg->mg d.name=some (.ref fa) ->
   ∃fd:FuncData,(∀(s:Shared) (u:Value),BindsTo s fd ⟨[u],[]⟩ [("_law_script",u)])/\∀base:Heap,(K w.params).In base->base.Ns Zyz mg->BMod base mg->Zde l.prog w (K w.params) mg base CX0 11 fa fd ["_law_script"] (@spD (fxI (K w.params)) (K w.params) 1 (ZfI ap))) :
  PySem.W.WalkO q loose XP YP l.row.toRowW d [] (λf vs=>PySem.call f vs) :=
 ZsM (n:=63) (k:=11) (x:="_law_script") (sp:=λw=>@spD (fxI (K w.params)) (K w.params) 1 (ZfI ap)) (tabs:=[(291,287)]) hn (by decide) hdf ⟨rfl,by decide,by decide⟩ hY hYT hT F λw H a ns hl hO hS=>@ZvE (fxI (K w.params)) _ _ _ _ _ _ hO (λT q h=>by
  have:∀p∈tlI,p.1∈([(291,287)]:List (Addr × Addr)).map (·.2):=by decide
  exact this _ h) hS (ZjZ ns hl)
section
variable{P:Program}{w:World}{K:ZxR}{mg:Str->Option Value}{base:Heap}{k:Nat}
abbrev Zxg{K:ZxR}{h:Heap}(_:K.In h)(mg:Str->Option Value):Prop:=Ds K mg
abbrev ZwQ{K:ZxR}{h:Heap}(_:K.In h)(mg:Str->Option Value):Prop:=Txt K mg
theorem int_mk{mg:Str->Option Value}{n:Str}{v:Value}{k:Int}(h:mg n=some v)(e:∃t,v=.int k t):∃t,mg n=some (.int k t):=by obtain⟨t,rfl⟩:=e;exact⟨t,h⟩
end
end HT
theorem PySem.W.Fast.tw14895388796441664312:True:=trivial
theorem PySem.W.Fast.tw15126622666591668007:True:=trivial
theorem PySem.W.Fast.tw16492622555705025157:True:=trivial
theorem PySem.W.Fast.tw18085178652230454598:True:=trivial
theorem PySem.W.Fast.tw16590081635124535186:True:=trivial
theorem PySem.W.Fast.tw17641563300929318311:True:=trivial
theorem PySem.W.Fast.tw4086469043432448463:True:=trivial
theorem PySem.W.Fast.tw4071865194109313154:True:=trivial
theorem PySem.W.Fast.tw11638058440937506145:True:=trivial
theorem PySem.W.Fast.tw9007423110817041667:True:=trivial
theorem PySem.W.Fast.tw886100031374361981:True:=trivial
theorem PySem.W.Fast.tw12062771423838715940:True:=trivial
open PySem PySem.W PyProof.Rows
set_option maxRecDepth 100000 in
set_option maxHeartbeats 0 in
theorem PySem.Challenge.cw_halfseen_k13_whole_a_foe_keeps_in_holds : PySem.Challenge.rw_halfseen_k13_whole_a_foe_keeps_in.Holds := by
 w_on; o_law; k_head; (case hw=>w_witness2)
 k_fill
 refine HT.walk (l:=PySem.Challenge.rw_halfseen_k13_whole_a_foe_keeps_in) rfl rfl HG13.ZjZ (λw h Y=>PySem.W.km_in_of Y) (λw h Y q hq=>PySem.W.km_tabs_of Y _ (by clear Y; revert q; decide)) ?Tab ?F
 case Tab=>intro w q hq;cases Zyb.mp hq;exact⟨by kernel_rfl,by kernel_rfl⟩
 case F =>
  intro w mg fa h KX G hmg;have fx0:HP.FX:=HP.FX0;have T:HT.ZwQ KX mg:=by
   refine⟨?_,?_,?_,?_,?_,?_,?_,?_,?_,?_,?_,?_,?_,?_,?_,?_⟩
   all_goals first
    | (refine PySem.W.mg_none_of KX G ?z; (case z=>k_is))
    | (refine' HT.int_mk (ZA5 KX G ?z) ?e; (case z=>k_is); (case e=>exact⟨_,rfl⟩))
  have Dd:HT.Zxg KX mg:=by
   refine⟨?_,?_,?_,?_,?_,?_,?_,?_,?_,?_,?_,?_,?_,?_,?_,?_,?_,?_,?_,?_,?_,?_,?_,?_,?_,?_,?_,?_,?_,?_,?_,?_,?_,?_,?_,?_,?_,?_,?_,?_,?_,?_,?_,?_,?_,?_,?_,?_,?_,?_,?_,?_⟩
   all_goals first
    | (refine' HT.Zwg KX G ?a ?l ?c ?k ?b; (case a=>k_is); (case l=>k_is); (case c=>k_is); (case k=>k_is); (case b=>first | exact λ_ _ _ _ _ _ us hl=>(match us,hl with | [_],_=>rfl) | exact λ_ _ _ _ _ _ us hl=>(match us,hl with | [_,_],_=>rfl) | exact λ_ _ _ _ _ _ us hl=>(match us,hl with | [_,_,_],_=>rfl)))
    | (refine' HT.Zt1 KX G ?a ?l ?c ?k ?b ?e ?h; (case a=>k_is); (case l=>k_is); (case c=>k_is); (case k=>k_is); (case h=>kernel_rfl); (case e=>exact rfl); (case b=>first | exact λ_ _ _ _ _ _ us hl=>(match us,hl with | [_],_=>rfl) | exact λ_ _ _ _ _ _ us hl=>(match us,hl with | [_,_],_=>rfl) | exact λ_ _ _ _ _ _ us hl=>(match us,hl with | [_,_,_],_=>rfl)))
    | (refine' HT.Zvh KX G ?z; (case z=>k_is))
  refine' HT.all_mk KX G hmg T Dd ?a4 ?l4 ?c4 ?k4
  (case a4=>k_is); (case l4=>k_is); (case c4=>k_is); (case k4=>k_is)