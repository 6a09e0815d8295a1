import PyProof.Rows.All
import Wide.All
import OpenK.AllK
import Wide.FinOn
import Lean
import PyProof.EqAt
import PyProof.EqKinds
import PyProof.TupleCall
import PyProof.P3Statements
import PyProof.P3Eq
import PyProof.NeData
import PyProof.IsiPairs
import PyProof.IsiHeapPairs
import KE.LcSums
import PyProof.IsiNone
import PyProof.DictRoadsH
import PyProof.Rows.SetFrom
import PyProof.DictWalks
import PyProof.Rows.MinMaxN
import PyProof.Rows.SumAny
import PyProof.WalkInts
import PyProof.Draws
import PyProof.EnumMake
import PyProof.TupleIter
import PySem.Challenge.RW_halfseen_k25_prices_refused
set_option Elab.async false
set_option linter.all false
set_option maxRecDepth 100000
set_option bootstrap.genMatcherCode false
open Option renaming some->Z,none->Z_
open Bool renaming true->ZEN,false->ZEO
open PySem renaming wpAny_bind->Zzv,wpAny_pure->Zzz,starEach->ZzC,wpAny_newObj_type->ZAa,mainGlobals->ZAb,bootBuiltins->ZAy,wpAny_call_entry->ZAB,wpAny_mono->ZAD,wpAny_holding->ZAI,sizeLine_eq->ZAS,codeAny_builtin->ZAT,compareOp->ZAU,mem_of_lookup->ZA2,sysModules->ZA4,foldedSetIterable->ZBd,wpAny_Call_Name_kw->ZBm,codeAny_mono->ZBp,lookup_relabel_local->ZBu,wpAny_truthy_bool->ZBw,behindInMarks->ZBz,wpAny_typeNameOfWhole_keyiter->ZBA,swapsWith->ZBG,tupleKind_room_in1->ZBH,wpAny_passesOwn->ZBI,wpAny_ite_split->ZBJ,binaryOp->ZBL,attributeBase->ZBM,plainId_quiet->ZBP,wpAny_setField->ZBY,wpAny_typeNameOf_keyiter->ZB5,firstArgMember->ZCk,wpAny_rule->ZCp,wpAny_askSetting->ZCr,wpAny_field->ZCt,sliceBounds->ZCu,wpAny_execs_nil->ZCx,tupleKind->ZCA,assignEach->ZCG,wpAny_seqItems->ZCL,wpAny_tryCatch->ZCM,wpAny_dictEntries->ZCQ,wpAny_setState_of->ZCS,keywordEach->ZCW,letOwnedTupleGo->ZC7,call_meets->ZC8,wpAny_newFunctionEnv->ZDc,wpAny_setEntries_of->ZDi,wpAny_fieldsOf->ZDl,wpAny_of_eq->ZDo,codeAmong->ZDp,wpAny_pyIter_tuple->ZDq,wpAny_attempt->ZDx,wpAny_pyIter_list->ZDD,wpAny_pyIter_slot->ZDE,builtinsNs->ZDG,wpAny_call->ZDH,typeIs_int->ZDI,intKind_is->ZDM,concat_meets->ZDR,noFill_tuple_add->ZDS,wpAny_typeOf->ZDU,backToKw->ZDV,wpAny_isInstance->ZD0,pickOrder->ZEb,wpAny_dictEpoch->ZEc,wpAny_updateSeq->ZEe,subscripted->ZEh,wpAny_letGo->ZEl
open List renaming length_map->Zzw,mem_cons_self->ZzB,mem_cons_of_mem->ZzD,replicate->ZzE,mem_singleton->ZzF,map_cons->ZzG,mem_map->ZzI,mem_cons->ZzK,getElem?_eq_some_iff->ZzL,length_append->ZzM,size_toArray->ZzN,range->ZzQ,all_eq_true->ZzR,length_cons->ZzS,getElem?_eq_getElem->ZzT,map_map->ZzV,mem_append_right->ZzX,getElem?_map->Zz2,mem_append->Zz3,map_append->Zz4,mem_of_getElem?->Zz5,length_replicate->Zz6,getElem?_set_ne->Zz9,length_singleton->ZAc,append_nil->ZAe,getElem?_cons_succ->ZAf,length->ZAg,mem_range->ZAj,getElem?_append_right->ZAk,nodup_cons->ZAm,pairwise_cons->ZAo,getElem?_append_left->ZAq,getElem?_set_self->ZAr,mem_filterMap->ZAu,eq_nil_of_length_eq_zero->ZAv,mem_filter->ZAA,mem_append_left->ZAC,find?_cons->ZAF,length_set->ZAL,length_take->ZAN,length_drop->ZAO,length_filter_le->ZAR,getElem_mem->ZAW,all_cons->ZAX,getD->ZA0,filterMap_cons->ZA1,map_congr_left->ZA3,nodup_nil->ZBc,replicate_succ->ZBg,filter_eq_self->ZBh,lookup_cons->ZBj,foldl_cons->ZBq,nil_append->ZBr,append_assoc->ZBx,nodup_append->ZBy,getElem?_replicate->ZBB,getElem?_cons_zero->ZBC,map->ZBN,flatten_cons->ZBR,length_range->ZBS,map_nil->ZB1,mem_flatMap->ZB4,filter_cons->ZB6,any_cons->ZCc,set_getElem_self->ZCi,min?_eq_none_iff->ZCm,mergeSort_perm->ZCw,exists_mem_of_ne_nil->ZCz,pairwise_mergeSort->ZCP,any_eq_true->ZC4,min?_eq_some_iff->ZC6,set_set->ZC9,pairwise_append->ZDd,getElem_of_mem->ZDh,length_pos_iff->ZDj,ne_nil_of_mem->ZDu,pairwise_map->ZDF,foldl->ZDJ,drop_eq_getElem_cons->ZDK,pairwise_iff_getElem->ZDL,mem_of_find?_eq_some->ZDO,getElem?_take_of_lt->ZDQ,set_eq_of_length_le->ZDW,not_mem_nil->ZDZ,cons_append->ZD1,all_nil->ZD2,length_filterMap_le->ZD3,filter_cons_of_pos->ZD6,filter_cons_of_neg->ZD7,of_mem_zip->ZD8,length_nil->ZEa,filter_eq_nil_iff->ZEm,getElem?_eq_none->ZEo,max?_eq_some_iff->ZEt,dropLast_eq_take->ZEu,max?_eq_none_iff->ZEv,min?_mem->ZEz,all_map->ZEK
open PySem.W renaming Frag->Zzx,keepIn->ZAP,fnOf->ZAQ,codeHdIn->ZA9,nsIn->ZBa,codeIn->ZBD,mg_of->ZBQ,kitOne->ZBZ,tabObj->ZCl,hideAll_get->ZCv,envX->ZCF,kla_obj->ZDe,exmOne->ZDn,excIn->ZDz,methodObj->ZDB,OpenLaw->ZEf,cellsFrom_some->ZEg,codeHd_of_K->ZEC,of_hideAll->ZEF,callWith_K->ZEG,FnAt->ZEI,callWith_F->ZEJ
open Option renaming map_eq_some_iff->Zzy,isSome_iff_exists->ZAd,isSome_map->ZBe,map->ZBv,isSome->ZCs,bind_eq_some_iff->ZCO
open PySem.Heap renaming get?_push_of_some->ZzA,lt_size->ZzO,get?_push_size->ZzP,get?_update_self->ZAE,get?_update_other->ZAY,SameBut->ZA6,size_push->ZBE,get?_push_ne->ZCh,size_update->ZC3,FlyingW->ZDf
open Nat renaming le_refl->ZzH,ne_of_lt->ZzU,lt_of_lt_of_le->ZzZ,le_trans->ZAn,lt_irrefl->ZBb,zero_le->ZBn,le_of_lt->ZBo,lt_trans->ZBs,le_of_not_lt->ZB2,lt_succ_self->ZB3,lt_succ_of_lt->ZCg,ne_of_gt->ZCB,blt_eq->ZCJ,le_of_eq->ZDb,min_le_right->ZDT,le_succ->ZEk
open PySem.SetTable renaming below->ZzJ,insertAt->Zz0,insertAt_perm->ZBi,tooFull->ZCq,toList_insertAt->ZCE,fits->ZCZ,fill->ZC0,turns->ZEp,bits->ZEx
open Bool renaming and_eq_true->ZzW,false_ne_true->ZAi,false_eq_true->ZA7,or_eq_true->ZBt,and_false->ZEn
open Array renaming length_toList->ZzY,getElem?_toList->ZAw,getD->ZBF,toList_push->ZBT,getElem?_eq_getElem->ZBW,getElem?_eq_none->ZCX,perm_iff_toList_perm->ZDy
open PySem.Str renaming ofString->Zz1
open PySem.PyData renaming tuple->Zz7,int->ZAs,bool->ZAK,eqv->ZAV,canLayAll0->ZCf,depthAll->ZDg,eqvAll->ZDA,list->ZEM
open Or renaming inr->Zz8,inl->ZAt
open PySem.Value renaming ref->ZAh,none->ZAx,int->ZBl,type->ZBU
open Option.some renaming inj->ZAl
open False renaming elim->ZAp
open PySem.Heap.SameBut renaming update->ZAz,refl->ZEL
open Ne renaming symm->ZAG
open PySem.Around renaming under_plainId->ZAH,frames_deeper->ZEw
open PySem.Builtin.Tuple renaming tupleExact->ZAJ
open PySem.Obj renaming data_mapFields->ZAM,isFreed_of_fields->ZCj,mapSeq->ZCH,putSet->ZCK,cls_mapFields->ZCT,mapFields->ZEy
open PySem.F renaming plain_min_loop->ZAZ,called_set->ZA8,plainAttrs_list->ZB9,plain_list_iadd->ZCa,args_tuple_add_2->ZCD,entry_tuple_add->ZCN,slot_tuple_add->ZCV,entry_min_loop->ZCY,slot_dict_get->ZC5,slot_dict_setdefault->ZDk,plain_proto_collect->ZDs,slot_list_append->ZDX,type_list_append->ZDY,args_dict_get_2->ZD4,plainAttrs_dict->ZD5,entry_dict_get->ZEi,plain_set_new->ZEq,slot_set_iter->ZEr
open List.Nodup renaming length_le_of_subset->ZA5
open Int renaming toNat_natCast->ZBf
open Sum renaming inl->ZBk,inr->ZDP
open PyProof.Rows.KeyOrd renaming kle_of_not_klt->ZBK,kle_refl->ZCd,kle_of_klt->ZCU,kle_trans->ZC2,kle_antisymm->ZEA
open PySem.NameKind renaming free->ZBO
open PySem.Builtin.Slice renaming slicePlaces->ZBV,sliceAdjust->ZCy,sliceApplied->ZDw
open PySem.Builtin.SmallTypes renaming nextOf->ZBX
open PySem.Builtin.List renaming listTooLong->ZB0,listLengthHint->ZDr,listExtendWith->ZDt
open PyProof.Rows renaming slot_tuple_getitem->ZB7,callWith_type1->ZCn,entry_list_sort->ZEd
open PySem.Builtin.Range renaming rangeSize->ZB8,small->ZEB
open PySem.Paired renaming length->ZCb
open PySem.Calls renaming callWith_builtin->ZCe,evalArgs_plain->ZCo,spliced_cons->ZCC,Name_function_global->ZDv,spliced_nil->ZDC,call_function_entry->ZDN
open True renaming intro->ZCI
open PySem.SetTable.below renaming go->ZCR
open Function renaming comp->ZC1
open ForInStep renaming yield->ZDa
open PySem.Builtin.Dict_items renaming ownsTuple->ZDm
open PyProof.Rows.IsTup renaming new->ZD9
open PySem.SeqAt renaming eqOverData->ZEj
open PySem.Builtin.Dict renaming showsAll->ZEs
open PySem.SeqAt.EqAt renaming int_str->ZED,str_int->ZEE
open PySem.Expr renaming Call->ZEH
noncomputable section
namespace L2
open PySem PySem.Spec PyProof.Rows
abbrev Key:=Sum Int Str
def Zh8:Key->Value->Bool
 | .inl k,v=>Value.isInt k v
 | .inr x,v=>Value.isStrOf x v
def ZyQ(w:World):Key->Int
 | .inl k=>hashInt k
 | .inr x=>hashStr w x
theorem Za9:∀{k:Key} {v:Value},Zh8 k v=ZEN->(∃i t,k=ZBk i/\v=ZBl i t)\/(∃x t,k=ZDP x/\v=Value.str x t)
 | .inl i,v,h=>by obtain⟨t,e⟩:=Value.isInt_shape (k:=i) (v:=v) h;exact .inl ⟨i,t,rfl,e⟩
 | .inr x,v,h=>by obtain⟨t,e⟩:=Value.isStrOf_shape (x:=x) (v:=v) h;exact .inr ⟨x,t,rfl,e⟩
theorem ZsZ(i:Int)(t:Tok):Zh8 (.inl i) (.int i t)=ZEN:=by simp[Zh8,Value.isInt]
theorem ZrQ(x:Str)(t:Tok):Zh8 (.inr x) (.str x t)=ZEN:=by simp[Zh8,Value.isStrOf]
theorem ZwN(a b:Int):decide ((ZBk a:Key)=ZBk b)=(a==b):=by
 by_cases e:a=b
 ·subst e; simp
 ·have h:¬(ZBk a:Key)=ZBk b:=λq=>e (Sum.inl.inj q)
  rw[decide_eq_false h];exact(beq_eq_false_iff_ne.mpr e).symm
theorem ZwB(a b:Str):decide ((ZDP a:Key)=ZDP b)=decide (a=b):=by
 by_cases e:a=b
 ·subst e; simp
 ·have h:¬(ZDP a:Key)=ZDP b:=λq=>e (Sum.inr.inj q)
  rw[decide_eq_false h,decide_eq_false e]
theorem ZwI(a:Int)(b:Str):decide ((ZBk a:Key)=ZDP b)=ZEO:=decide_eq_false (λq=>nomatch q)
theorem Zw9(a:Str)(b:Int):decide ((ZDP a:Key)=ZBk b)=ZEO:=decide_eq_false (λq=>nomatch q)
def Zaq(prog:Program)(w:World):PySem.KeyKind prog w Key where
 is:=Zh8
 hash:=ZyQ w
 inj:=λv a b ha hb=>by
  rcases Za9 ha with⟨i,t,rfl,rfl⟩ | ⟨x,t,rfl,rfl⟩
  ·rcases Za9 hb with⟨j,u,rfl,e⟩ | ⟨y,u,rfl,e⟩
   ·injection e with e1 _; rw[e1]
   ·exact nomatch e
  ·rcases Za9 hb with⟨j,u,rfl,e⟩ | ⟨y,u,rfl,e⟩
   ·exact nomatch e
   ·injection e with e1 _; rw[e1]
 byValue:=λk v h=>by rcases Za9 h with⟨i,t,rfl,rfl⟩ | ⟨x,t,rfl,rfl⟩<;>rfl
 pyHash:=λhv h=>by
  rcases Za9 hv with⟨i,t,rfl,rfl⟩ | ⟨x,t,rfl,rfl⟩
  ·exact wpAny_pyHash_int h
  ·exact wpAny_pyHash_str h
 eqBool:=λhu hv h=>by
  rcases Za9 hu with⟨i,t,rfl,rfl⟩ | ⟨x,t,rfl,rfl⟩
  ·rcases Za9 hv with⟨j,u,rfl,rfl⟩ | ⟨y,u,rfl,rfl⟩
   ·rw[ZwN]at h; exact wpAny_eqBool_int h
   ·rw[ZwI]at h; exact ZED i t y u _ _ _ _ h
  ·rcases Za9 hv with⟨j,u,rfl,rfl⟩ | ⟨y,u,rfl,rfl⟩
   ·rw[Zw9]at h; exact ZEE x t j u _ _ _ _ h
   ·rw[ZwB]at h; exact wpAny_eqBool_str h
 «strs»:=λk x t v h=>by
  rcases Za9 h with⟨i,u,rfl,e⟩ | ⟨y,u,rfl,e⟩
  ·exact nomatch e
  ·injection e with e1 _
   subst e1;cases v<;>rfl
theorem ZqS(prog:Program)(w:World)(k:Key)(v:Value):(Zaq prog w).is k v=Zh8 k v:=rfl
theorem ZpP(prog:Program)(w:World)(i:Int)(t:Tok):(Zaq prog w).is (.inl i) (.int i t)=ZEN:=ZsZ i t
theorem ZpQ(prog:Program)(w:World)(x:Str)(t:Tok):(Zaq prog w).is (.inr x) (.str x t)=ZEN:=ZrQ x t
end L2
namespace L2
open PySem PySem.Spec PyProof.Rows
variable{a b:Addr}{o:HO}{h:Heap}{H:Hp}
inductive V where
 | non | bl (b:Bool) | int (i:Int) | str (x:Str) | byt (b:Array UInt8) | flt (b:UInt64) | ref (a:Addr) | ty (n:String)
 deriving DecidableEq
def RelV:V->Value->Prop
 | .non,u=>u=ZAx
 | .bl b,u=>u=Value.bool b
 | .int i,u=>∃t,u=ZBl i t
 | .str x,u=>∃t,u=Value.str x t
 | .byt b,u=>∃t,u=Value.bytes b t
 | .flt b,u=>∃t,u=Value.float b t
 | .ref a,u=>u=ZAh a
 | .ty n,u=>u=ZBU n
abbrev Vals:List V->List Value->Prop:=Paired RelV
theorem Vals.length{xs:List V}{us:List Value}(r:Vals xs us):xs.length=us.length:=ZCb r
theorem Vals.get:∀{xs:List V} {us:List Value} {i:Nat} {x:V},Vals xs us->xs[i]?=Z x->∃u,us[i]?=Z u/\RelV x u
 | _,_,_,_,.nil,e=>by simp at e
 | _,_,0,_,.cons r _,e=>by simp at e; subst e; exact⟨_,rfl,r⟩
 | _,_,i+1,x,.cons _ t,e=>by obtain⟨u,h1,h2⟩:=Vals.get (i:=i) (x:=x) t (by simpa using e);exact⟨u,by simpa using h1,h2⟩
theorem Vals.set{x:V}{u:Value}(r:RelV x u):∀{xs:List V} {us:List Value} (i:Nat),Vals xs us->Vals (xs.set i x) (us.set i u)
 | _,_,_,.nil=>.nil
 | _,_,0,.cons _ t=>.cons r t
 | _,_,i+1,.cons q t=>.cons q (Vals.set r i t)
theorem Vals.append:∀{xs ys:List V} {us ws:List Value},Vals xs us->Vals ys ws->Vals (xs++ys) (us++ws)
 | _,_,_,_,.nil,s=>s
 | _,_,_,_,.cons r t,s=>.cons r (Vals.append t s)
theorem Vals.take:∀{xs:List V} {us:List Value} (n:Nat),Vals xs us->Vals (xs.take n) (us.take n)
 | _,_,0,_=>.nil
 | _,_,_+1,.nil=>.nil
 | _,_,n+1,.cons r t=>.cons r (Vals.take n t)
theorem Vals.drop:∀{xs:List V} {us:List Value} (n:Nat),Vals xs us->Vals (xs.drop n) (us.drop n)
 | _,_,0,r=>r
 | _,_,_+1,.nil=>.nil
 | _,_,n+1,.cons _ t=>Vals.drop n t
def Zfz:Option V->Option Value->Prop
 | some v,Z u=>RelV v u
 | none,Z_=>True
 | _,_=>False
def KV{κ:Type}:List (κ × V)->List (κ × Value)->Prop:=Paired λ(p:κ × V) (q:κ × Value)=>p.1=q.1/\RelV p.2 q.2
def kV:Key->V
 | .inl i=>.int i
 | .inr x=>.str x
inductive HO where
 | lst (xs:List V)
 | tup (xs:List V)
 | dK (kvs:List (Key × V)) | dT (kvs:List (List Key × V))
 | set (S:Int->Bool) (n:Nat)
 | ins (C dx:Addr) (fs:List (Str × V))
 | own (x:Addr)
 | xd (fs:List (Str × V))
 | met (f x:Addr)
 | rng (lo hi:Int)
 | frz (o:Obj) (u:HO)
 | tbl (ps:Array Value)
 | ext (φ:Heap->Prop)
abbrev Hp:=Addr->Option HO
def upd(H:Hp)(a:Addr)(o:HO):Hp:=λb=>if b=a then Z o else H b
theorem Zy:upd H a o a=Z o:=by unfold upd; rw[if_pos rfl]
theorem Zx(h:b≠a):upd H a o b=H b:=by unfold upd; rw[if_neg h]
theorem Zux{u:HO}(h:H a=Z o)(h':H b=Z u)(d:o≠u):a≠b:=by intro e; subst e; rw[h]at h'; exact d (ZAl h')
theorem Zas(h:H a=Z o)(h':H b=Z_):a≠b:=by intro e; subst e; rw[h]at h'; cases h'
section
variable(P:Program)(w:World)
def Z4(H:Hp)(h:Heap)(a:Addr):HO->Prop
 | .lst xs=>xs.length<=sizeLine/\∃(its:List Value) (n:Nat),Vals xs its/\h.get? a=Z { cls:=.type "list",data:=.seq its.toArray n }
 | .tup xs=>xs.length<=sizeLine/\∃its:List Value,Vals xs its/\IsTup h a its.toArray
 | .dK kvs=>kvs.length<=sizeLine/\(a==ZA4)=ZEO/\∃vs,KV kvs vs/\h.DictOf (Zaq P w) a vs
 | .dT kvs=>kvs.length<=sizeLine/\(a==ZA4)=ZEO/\∃xs:List (List Key × Addr × Value),
   Paired (λ(p:List Key × V) (q:List Key × Addr × Value)=>p.1=q.1/\H q.2.1=Z (.tup (p.1.map kV))/\RelV p.2 q.2.2) kvs xs /\
   ∃o es ep,h.get? a=Z o/\o.ExactDict/\o.data=.dict es ep/\es.toList=xs.map (entryOfKey (ZCA (Zaq P w)))/\(xs.map (·.1)).Nodup
 | .set S n=>h.SetOf (intKind P w) a S n
 | .ins C dx fs=>H dx=Z (.own a)/\fs.length<=1000/\dx≠a/\h.get? a=Z (PySem.W.instObj C dx) /\
   ∃mA,h.Ns1 dx mA/\(∀f,Zfz (fs.lookup f) (mA f))/\PySem.Within mA (fs.map (·.1))
 | .own _=>∃o,h.get? a=Z o
 | .xd fs=>∃mA,h.Ns1 a mA/\∀f,Zfz (fs.lookup f) (mA f)
 | .rng lo hi=>∃t u v,h.get? a=Z { cls:=.type "range",data:=.fields #[.int lo t,.int hi u,.int 1 v] }
 | .frz o u=>h.get? a=Z o/\Z4 H h a u
 | .tbl ps=>h.get? a=Z { cls:=.none,data:=.fields ps }
 | .met f x=>h.get? a=Z (ZDB (.ref f) (.ref x))
 | .ext φ=>φ h/\(∃o,h.get? a=Z o)/\∀h1 h2:Heap,φ h1->(∀o,h1.get? a=Z o->h2.get? a=Z o)->φ h2
def HOk(H:Hp)(h:Heap):Prop:=∀a o,H a=Z o->Z4 P w H h a o
end
section
variable{P:Program}{w:World}{H H':Hp}{h h':Heap}{a:Addr}{o:HO}
theorem Z4.lt(x:Z4 P w H h a o):a<h.objs.size:=by
 cases o with
 | lst xs=>obtain⟨_,_,_,_,e⟩:=x; exact ZzO e
 | tup xs=>obtain⟨_,_,_,p⟩:=x; exact p.lt
 | dK kvs=>obtain⟨_,_,_,_,o,_,_,e,_⟩:=x; exact ZzO e
 | dT kvs=>obtain⟨_,_,_,_,o,_,_,e,_⟩:=x; exact ZzO e
 | set S n=>obtain⟨o,_,_,_,e,_⟩:=x; exact ZzO e
 | ins C dx fs=>obtain⟨_,_,_,e,_⟩:=x; exact ZzO e
 | own y=>obtain⟨_,e⟩:=x; exact ZzO e
 | xd fs=>obtain⟨_,⟨_,_,_,e,_⟩,_⟩:=x; exact ZzO e
 | rng lo hi=>obtain⟨_,_,_,e⟩:=x; exact ZzO e
 | frz ob u=>obtain⟨e,_⟩:=x; exact ZzO e
 | tbl ps=>exact ZzO (show h.get? a=Z _ from x)
 | met f y=>exact ZzO (show h.get? a=Z _ from x)
 | ext φ=>obtain⟨_,⟨_,e⟩,_⟩:=x; exact ZzO e
theorem Paired.mapP{α β:Type}{F G:α->β->Prop}:∀{l₁:List α} {l₂:List β},Paired F l₁ l₂->(∀a b,F a b->G a b)->Paired G l₁ l₂
 | _,_,.nil,_=>.nil
 | _,_,.cons r t,f=>.cons (f _ _ r) (Paired.mapP t f)
theorem Z4.stay(x:Z4 P w H h a o)(k:∀b u,(b=a\/H b=Z (.own a))->h.get? b=Z u->h'.get? b=Z u)
  (ho:∀b,H b=Z (.own a)->H' b=Z (.own a)) (ht:∀b xs,H b=Z (.tup xs)->H' b=Z (.tup xs)):Z4 P w H' h' a o:=by
 induction o with
 | lst xs=>obtain⟨z,its,n,r,e⟩:=x; exact⟨z,its,n,r,k _ _ (.inl rfl) e⟩
 | tup xs=>obtain⟨z,its,r,ob,e,c⟩:=x; exact⟨z,its,r,ob,k _ _ (.inl rfl) e,c⟩
 | dK kvs=>obtain⟨z,y,vs,r,ob,es,ep,e,c⟩:=x; exact⟨z,y,vs,r,ob,es,ep,k _ _ (.inl rfl) e,c⟩
 | dT kvs=>obtain⟨z,y,xs,r,ob,es,ep,e,c⟩:=x;exact⟨z,y,xs,Paired.mapP r λp q z=>⟨z.1,ht _ _ z.2.1,z.2.2⟩,ob,es,ep,k _ _ (.inl rfl) e,c⟩
 | set S n=>obtain⟨ob,es,ep,t,e,c⟩:=x; exact⟨ob,es,ep,t,k _ _ (.inl rfl) e,c⟩
 | ins C dx fs=>obtain⟨d,z,ne,e,mA,⟨od,es,ep,e2,c⟩,r⟩:=x;exact⟨ho _ d,z,ne,k _ _ (.inl rfl) e,mA,⟨od,es,ep,k _ _ (.inr d) e2,c⟩,r⟩
 | own y=>obtain⟨ob,e⟩:=x; exact⟨ob,k _ _ (.inl rfl) e⟩
 | xd fs=>obtain⟨mA,⟨od,es,ep,e,c⟩,r⟩:=x; exact⟨mA,⟨od,es,ep,k _ _ (.inl rfl) e,c⟩,r⟩
 | rng lo hi=>obtain⟨t,u,v,e⟩:=x; exact⟨t,u,v,k _ _ (.inl rfl) e⟩
 | frz ob u ih=>obtain⟨e,q⟩:=x; exact⟨k _ _ (.inl rfl) e,ih q⟩
 | tbl ps=>have e:h.get? a=Z { cls:=.none,data:=.fields ps }:=x;show h'.get? a=Z { cls:=.none,data:=.fields ps };exact k a _ (.inl rfl) e
 | met f y=>have e:h.get? a=Z (ZDB (.ref f) (.ref y)):=x;show h'.get? a=Z (ZDB (.ref f) (.ref y));exact k a _ (.inl rfl) e
 | ext φ=>obtain⟨p,⟨o,e⟩,st⟩:=x; exact⟨st _ _ p λo q=>k _ _ (.inl rfl) q,⟨o,k _ _ (.inl rfl) e⟩,st⟩
theorem HOk.lt(x:HOk P w H h)(e:H a=Z o):a<h.objs.size:=(x a o e).lt
theorem HOk.fresh(x:HOk P w H h)(e:h.objs.size<=a):H a=Z_:=by
 cases q:H a with
 | none=>rfl
 | some u=>exact absurd (ZzZ (x.lt q) e) (ZBb _)
theorem HOk.kept(x:HOk P w H h)(k:∀b u,h.get? b=Z u->h'.get? b=Z u):HOk P w H h':=λa o e=>(x a o e).stay (λb u _ q=>k b u q) (λ_ q=>q) λ_ _ q=>q
theorem HOk.laid(x:HOk P w H h)(k:∀b u,h.get? b=Z u->h'.get? b=Z u)(hp:h.objs.size<=a)(new:Z4 P w (upd H a o) h' a o):HOk P w (upd H a o) h':=λb u e=>by
 have hn:=x.fresh hp
 by_cases hb:b=a
 ·subst hb; rw[Zy]at e; cases e; exact new
 ·rw[Zx hb]at e
  exact(x b u e).stay (λc v _ q=>k c v q) (λc q=>by rw[Zx (Zas q hn)]; exact q) λc xs q=>by rw[Zx (Zas q hn)]; exact q
end
def Rd(H:Hp)(a:Addr)(u:HO):Prop:=H a=Z u\/∃o,H a=Z (.frz o u)
theorem Rd.ok{P:Program}{w:World}{H:Hp}{h:Heap}{a:Addr}{u:HO}(r:Rd H a u)(x:HOk P w H h):Z4 P w H h a u:=by
 rcases r with r | ⟨o,r⟩
 ·exact x a u r
 ·obtain⟨_,q⟩:=x a _ r
  exact q
def Mut:Option HO->Prop
 | some (.lst _)=>True
 | some (.dK _)=>True
 | some (.dT _)=>True
 | some (.set _ _)=>True
 | some (.ins _ _ _)=>True
 | some (.ext _)=>True
 | _=>False
section
variable{P:Program}{w:World}{H:Hp}{h h':Heap}{x e:Addr}{o':HO}
theorem HOk.write(ok:HOk P w H h)(mu:Mut (H x))(he:e=x\/H e=Z (.own x))(k:∀b u,b≠e->h.get? b=Z u->h'.get? b=Z u)(heo:∃u,h'.get? e=Z u)
  (new:Z4 P w (upd H x o') h' x o'):HOk P w (upd H x o') h':=λb u q=>by
 have nown:∀c y,H c=Z (.own y)->c≠x:=λc y r z=>by subst z; rw[r]at mu; exact mu
 have ntup:∀c xs,H c=Z (.tup xs)->c≠x:=λc xs r z=>by subst z; rw[r]at mu; exact mu
 by_cases hb:b=x
 ·subst hb; rw[Zy]at q; cases q; exact new
 ·rw[Zx hb]at q
  by_cases hbe:b=e
  ·have q':H b=Z (.own x):=by
    rcases he with z | z
    ·exact absurd (hbe.trans z) hb
    ·rw[hbe]; exact z
   rw[q]at q'; cases q';obtain⟨v,hv⟩:=heo;exact⟨v,by rw[hbe]; exact hv⟩
  ·refine(ok b u q).stay (λc v hc r=>k c v ?_ r) (λc r=>by rw[Zx (nown c b r)]; exact r) λc xs r=>by rw[Zx (ntup c xs r)]; exact r
   rcases hc with rfl | hc
   ·exact hbe
   ·rintro rfl
    rcases he with z | z
    ·exact nown c b hc z
    ·rw[hc]at z; cases z; exact hb rfl
end
structure Un(fs ex:List Addr)(H H':Hp)(h h':Heap):Prop where
 keep:∀b o,h.get? b=Z o->H b=Z_->b ∉ fs->b ∉ ex->h'.get? b=Z o
 slot:∀b o,h.get? b=Z o->H b=Z_->b∈fs->b ∉ ex->∃sl,h'.get? b=Z { o with slots:=sl }
 free:∀b o,h.get? b=Z o->H b=Z_->b ∉ ex->H' b=Z_
 there:∀b o,h.get? b=Z o->b ∉ ex->∃o',h'.get? b=Z o'
 tups:∀b xs,H b=Z (.tup xs)->H' b=Z (.tup xs)
 frzs:∀b o u,H b=Z (.frz o u)->H' b=Z (.frz o u)
 tbls:∀b ps,H b=Z (.tbl ps)->∃more,H' b=Z (.tbl (ps++more))
section
variable{fs fs' ex ex':List Addr}{H H1 H2:Hp}{h h1 h2 h':Heap}{a x e:Addr}{o:HO}
theorem Un.any(u:Un fs ex H H1 h h1){ob:Obj}(q:h.get? b=Z ob)(n:H b=Z_)(hx:b ∉ ex):∃sl,h1.get? b=Z { ob with slots:=sl }:=by
 by_cases hb:b∈fs
 ·exact u.slot b ob q n hb hx
 ·exact⟨ob.slots,u.keep b ob q n hb hx⟩
theorem Un.kept(k:∀b u,h.get? b=Z u->h'.get? b=Z u):Un fs ex H H h h' :=
 ⟨λb ob q _ _ _=>k b ob q,λb ob q _ _ _=>⟨ob.slots,k b ob q⟩,λ_ _ _ n _=>n,λb ob q _=>⟨ob,k b ob q⟩,λ_ _ q=>q,λ_ _ _ q=>q,λ_ ps q=>⟨#[],by rw[q]; simp⟩⟩
theorem Un.refl:Un fs ex H H h h:=Un.kept λ_ _ q=>q
theorem Un.laid(k:∀b u,h.get? b=Z u->h'.get? b=Z u)(hp:h.objs.size<=a)(hn:H a=Z_):Un fs ex H (upd H a o) h h' where
 keep:=λb u q _ _ _=>k b u q
 slot:=λb u q _ _ _=>⟨u.slots,k b u q⟩
 free:=λb u q n _=>by rw[Zx (ZzU (ZzZ (ZzO q) hp))]; exact n
 there:=λb u q _=>⟨u,k b u q⟩
 tups:=λb xs q=>by rw[Zx (Zas q hn)]; exact q
 frzs:=λb u xs q=>by rw[Zx (Zas q hn)]; exact q
 tbls:=λb ps q=>⟨#[],by rw[Zx (Zas q hn),q]; simp⟩
theorem Un.write(mu:Mut (H x))(he:e=x\/H e=Z (.own x))(k:∀b u,b≠e->h.get? b=Z u->h'.get? b=Z u)(heo:∃u,h'.get? e=Z u):Un fs ex H (upd H x o) h h':=by
 have hx:∀b,H b=Z_->b≠x:=λb n z=>by subst z; rw[n]at mu; exact mu
 have hb:∀b,H b=Z_->b≠e:=λb n z=>by
  subst z;rcases he with r | r
  ·exact hx b n r
  ·rw[n]at r; cases r
 have hm:∀b u,H b=Z u->¬Mut (Z u)->b≠x:=λb u q nm z=>by subst z; rw[q]at mu; exact nm mu
 refine⟨λb u q n _ _=>k b u (hb b n) q,λb u q n _ _=>⟨u.slots,k b u (hb b n) q⟩,λb u q n _=>by rw[Zx (hx b n)]; exact n,λb u q _=>?_,
  λb xs q=>by rw[Zx (hm b _ q λz=>z)]; exact q,λb u xs q=>by rw[Zx (hm b _ q λz=>z)]; exact q,λb ps q=>⟨#[],by rw[Zx (hm b _ q λz=>z),q]; simp⟩⟩
 by_cases hbe:b=e
 ·subst hbe; exact heo
 ·exact⟨u,k b u hbe q⟩
end
def trk(h:Heap)(H:Hp):List Addr:=(ZzQ h.objs.size).filter λa=>(H a).isSome
def Zhd(h:Heap)(H:Hp):Heap:=PySem.W.hideAll h (trk h H)
theorem Zsr(h:Heap)(H:Hp):(Zhd h H).objs.size=h.objs.size:=PySem.W.hideAll_size _ _
theorem Zun{o:Obj}(e:h.get? b=Z o)(n:H b=Z_):(Zhd h H).get? b=Z o :=
 ZCv _ e λhm=>by have q:(H b).isSome=ZEN:=(ZAA.mp hm).2;rw[n]at q; simp at q
theorem Zvv{o:Obj}(e:(Zhd h H).get? b=Z o):h.get? b=Z o/\H b=Z_:=by
 have e':h.get? b=Z o:=ZEF (trk h H) e;refine⟨e',?_⟩;cases q:H b with
 | none=>rfl
 | some x=>have hm:b∈trk h H:=ZAA.mpr ⟨ZAj.mpr (ZzO e'),by simp[q]⟩;have z:(Zhd h H).get? b=Z_:=PySem.W.hideAll_none (trk h H) hm;rw[z]at e; cases e
end L2
namespace L2
open PySem PySem.Spec PyProof.Rows
variable{A:Around}{ch:List Addr}{i t':Nat}{x:Str}{u:Value}{E:Value->Shared->Prop}
structure Mod(K:Zzx)(mg:Str->Option Value)(base:Heap):Prop where
 kin:K.In base
 glob:base.Ns ZAb mg
 blt:∃mb,base.Ns ZDG mb/\∀x:Str,x ≠ "__name__"->mb x=ZAy x
 nolimit:base.NoLimit
structure Cx where
 prog:Program
 w:World
 K:Zzx
 mg:Str->Option Value
 base:Heap
 A:Around
 N:List Str
 s₀:Shared
 H₀:Hp
 env:Env
 outer:List Env
 stack:List Env
 ex:List Addr
 fn:Str->Bool
 calm:Bool
 pn:List (Addr × Obj)
 xe:Value->Shared->Prop
def frs(l:List Env):List Addr:=l.filterMap (·.frame)
abbrev Cx.fs(X:Cx):List Addr:=frs X.outer
def Vis(sc:Scope)(x:Str):Prop:=sc.names.lookup x=Z .local\/sc.names.lookup x=Z .cell\/sc.names.lookup x=Z .free
def Loc(sc:Scope)(x:Str):Prop:=sc.names.lookup x=Z .local\/sc.names.lookup x=Z .cell
def Look(env:Env)(h:Heap)(m:Str->Option Value)(x:Str)(u:Value):Prop :=
 (env.kindOf x=Z .local/\m x=Z u)\/((env.kindOf x=Z .cell\/env.kindOf x=Z .free)/\∃c,env.cells.lookup x=Z c/\h.IsCell c (Z u))
structure Cx.Ok(X:Cx):Prop where
 mod:Mod X.K X.mg X.base
 kind:X.env.scope.kind=.function
 glob:X.env.globals=ZAb
 blt:X.env.builtins=ZDG
 above:X.s₀.heap.objs.size<=X.env.locals
 inj:∀x y c,X.env.cells.lookup x=Z c->X.env.cells.lookup y=Z c->x=y
 has:∀x,(X.env.kindOf x=Z .cell\/X.env.kindOf x=Z .free)->∃c,X.env.cells.lookup x=Z c
 cab:∀x c,X.fn x=ZEN->X.env.cells.lookup x=Z c->X.s₀.heap.objs.size<=c
 hd:X.calm=ZEN->X.A.handled=Z_
 frames:X.A.frames=Z X.stack
 stk:X.stack=X.outer\/(X.stack=X.env::X.outer/\X.env.frame=Z X.env.locals)
 exf:∀b∈X.ex,b≠X.env.locals/\∀x c,X.env.cells.lookup x=Z c->c≠b
 bs:∀b o,X.base.get? b=Z o->X.s₀.heap.get? b=Z o/\X.H₀ b=Z_
 bsz:X.base.objs.size<=X.s₀.heap.objs.size
 noex:∀b o,X.base.get? b=Z o->b ∉ X.ex
 exfs:∀b∈X.ex,b ∉ X.fs
 funs:X.s₀.heap.FunFrames X.base X.outer
 frf:∀b∈X.fs,X.H₀ b=Z_
structure Inv(X:Cx)(pins:List (Addr × Obj))(σ:List (Option V))(H:Hp)(s:Shared):Prop where
 ok:X.Ok
 os:s.os=X.s₀.os
 bare:AllBare s.gens
 base:Un X.fs X.ex X.H₀ H X.s₀.heap s.heap
 loc:∃m,s.heap.Ns X.env.locals m/\∀(i:Nat) (x:Str) (v:V),X.N[i]?=Z x->σ[i]?=Z (Z v)->Vis X.env.scope x->∃u,RelV v u/\Look X.env s.heap m x u
 cell:∀x c,X.env.cells.lookup x=Z c->∃v,s.heap.IsCell c v
 free:H X.env.locals=Z_
 freeC:∀x c,X.env.cells.lookup x=Z c->H c=Z_
 pin:∀p∈X.pn++pins,s.heap.get? p.1=Z p.2/\H p.1=Z_/\p.1≠X.env.locals/\p.1 ∉ X.fs/\∀v,p.2.data≠.cell v
 hok:HOk X.prog X.w H s.heap
 len:σ.length=X.N.length
section
variable{X:Cx}{pins:List (Addr × Obj)}{σ:List (Option V)}{H H':Hp}{s:Shared}{h':Heap}
theorem Cx.Ok.nofr(ok:X.Ok){b:Addr}{o:Obj}(e:X.base.get? b=Z o):b ∉ X.fs:=λhb=>by have:=(ok.funs.mem hb).1;rw[e]at this; cases this
theorem Inv.bs(I:Inv X pins σ H s):∀b o,X.base.get? b=Z o->s.heap.get? b=Z o/\H b=Z_:=λb o e=>⟨I.base.keep b o (I.ok.bs b o e).1 (I.ok.bs b o e).2 (I.ok.nofr e) (I.ok.noex b o e),I.base.free b o (I.ok.bs b o e).1 (I.ok.bs b o e).2 (I.ok.noex b o e)⟩
theorem Inv.bk(I:Inv X pins σ H s):∀b o,X.base.get? b=Z o->s.heap.get? b=Z o:=λb o e=>(I.bs b o e).1
theorem Inv.mod(I:Inv X pins σ H s):Mod X.K X.mg X.base:=I.ok.mod
theorem Inv.kIn(I:Inv X pins σ H s):X.K.In s.heap:=I.ok.mod.kin.keeps I.bk
theorem Inv.lt(I:Inv X pins σ H s):X.env.locals<s.heap.objs.size:=let ⟨_,hn,_⟩:=I.loc; hn.lt
theorem Inv.sz(I:Inv X pins σ H s):X.s₀.heap.objs.size<=s.heap.objs.size:=ZAn I.ok.above (ZBo I.lt)
theorem Inv.nofs(I:Inv X pins σ H s){a:Addr}(h:s.heap.objs.size<=a):a ∉ X.fs:=λhb=>by obtain⟨_,o,ho,_⟩:=I.ok.funs.mem hb;exact absurd (ZzZ (ZzO ho) (ZAn I.sz h)) (ZBb _)
theorem Inv.cne(I:Inv X pins σ H s):∀x c,X.env.cells.lookup x=Z c->c≠X.env.locals:=λx c e z=>by obtain⟨v,o,ho,hd⟩:=I.cell x c e;obtain⟨m,⟨o',es,ep,ho',hd',_⟩,_⟩:=I.loc;rw[z,ho']at ho; cases ho; rw[hd']at hd; cases hd
theorem Inv.funs(I:Inv X pins σ H s):s.heap.FunFrames X.base X.outer:=by
 have all:∀(l:List Env),(∀b∈frs l,b∈X.fs)->X.s₀.heap.FunFrames X.base l->s.heap.FunFrames X.base l:=by
  intro l
  induction l with
  | nil=>intro _ _; trivial
  | cons env r ih=>intro hs hl;obtain⟨hk,⟨L,o,hf,hn,ho,hd⟩,hr⟩:=hl;have hL:L∈X.fs:=hs L (by unfold frs; rw[ZA1,hf]; exact ZzB);obtain⟨sl,e⟩:=I.base.slot L o ho (I.ok.frf L hL) hL λz=>I.ok.exfs L z hL;exact⟨hk,⟨L,_,hf,hn,e,hd⟩,ih (λb hb=>hs b (by unfold frs; rw[ZA1,hf]; exact ZzD _ hb)) hr⟩
 exact all X.outer (λ_ hb=>hb) I.ok.funs
theorem Inv.stack(I:Inv X pins σ H s):s.heap.FunFrames X.base X.stack:=by
 rcases I.ok.stk with e | ⟨e,hf⟩
 ·rw[e]; exact I.funs
 ·rw[e]
  obtain⟨m,hn,_⟩:=I.loc;refine .cons (by rw[I.ok.kind]; decide) hf hn ?_ I.funs;exact Heap.get?_none_of_le (ZAn I.ok.bsz I.ok.above)
theorem Inv.stkSub(I:Inv X pins σ H s):∀b∈frs X.stack,b∈X.env.locals::X.fs:=λb hb=>by
 rcases I.ok.stk with e | ⟨e,hf⟩
 ·rw[e]at hb; exact ZzD _ hb
 ·rw[e]at hb
  unfold frs at hb;rw[ZA1,hf]at hb;exact hb
theorem Inv.stkFree(I:Inv X pins σ H s):∀b∈frs X.stack,H b=Z_:=λb hb=>by
 rcases ZzK.mp (I.stkSub b hb)with e | hb
 ·rw[e]; exact I.free
 ·obtain⟨_,o,ho,_⟩:=I.ok.funs.mem hb
  exact I.base.free b o ho (I.ok.frf b hb) λz=>I.ok.exfs b z hb
theorem Inv.step{g':Array GenState}{t':Nat}{d':Drawn}{ch:List Addr}(I:Inv X pins σ H s)
  (hch:∀b∈ch,(b∈X.ex\/X.s₀.heap.objs.size<=b)/\b≠X.env.locals/\(∀x c,X.env.cells.lookup x=Z c->c≠b)/\∀p∈X.pn++pins,p.1≠b)
  (keep:∀b o,b≠X.env.locals->b ∉ X.fs->b ∉ ch->s.heap.get? b=Z o->H b=Z_->h'.get? b=Z o)
  (slot:∀b o,b≠X.env.locals->b∈X.fs->b ∉ ch->s.heap.get? b=Z o->H b=Z_->∃sl,h'.get? b=Z { o with slots:=sl }) (free:∀b o,b ∉ ch->s.heap.get? b=Z o->H b=Z_->H' b=Z_)
  (there:∀b o,b ∉ ch->s.heap.get? b=Z o->∃o',h'.get? b=Z o')
  (tups:∀b xs,H b=Z (.tup xs)->H' b=Z (.tup xs)) (frzs:∀b o u,H b=Z (.frz o u)->H' b=Z (.frz o u)) (tbls:∀b ps,H b=Z (.tbl ps)->∃more,H' b=Z (.tbl (ps++more)))
  (ns:∀m,s.heap.Ns X.env.locals m->h'.Ns X.env.locals m) (hok:HOk X.prog X.w H' h') (hg:AllBare g') :
  Inv X pins σ H' { s with heap:=h',gens:=g',drawn:=d',toks:=t' }:=by
 have neL:∀b o,X.s₀.heap.get? b=Z o->b≠X.env.locals:=λb o e=>ZzU (ZzZ (ZzO e) I.ok.above);have neC:∀b o,X.s₀.heap.get? b=Z o->b ∉ X.ex->b ∉ ch:=λb o e hx hb=>by
  rcases(hch b hb).1 with z | z
  ·exact hx z
  ·exact absurd (ZzZ (ZzO e) z) (ZBb _)
 have cellK:∀x c,X.env.cells.lookup x=Z c->∀v,s.heap.IsCell c v->h'.IsCell c v:=λx c e v ⟨o,ho,hd⟩=>by
  have nch:c ∉ ch:=λz=>(hch c z).2.2.1 x c e rfl
  by_cases hc:c∈X.fs
  ·obtain⟨sl,q⟩:=slot c o (I.cne x c e) hc nch ho (I.freeC x c e)
   exact⟨_,q,hd⟩
  ·exact⟨o,keep c o (I.cne x c e) hc nch ho (I.freeC x c e),hd⟩
 refine⟨I.ok,I.os,hg,⟨λb o e n hb hx=>?_,λb o e n hb hx=>?_,λb o e n hx=>?_,λb o e hx=>?_,λb xs e=>tups b xs (I.base.tups b xs e),λb o xs e=>frzs b o xs (I.base.frzs b o xs e),λb ps e=>?_⟩,?_,λx c e=>?_,?_,λx c e=>?_,λp hp=>?_,hok,I.len⟩
 ·exact keep b o (neL b o e) hb (neC b o e hx) (I.base.keep b o e n hb hx) (I.base.free b o e n hx)
 ·obtain⟨sl,e1⟩:=I.base.slot b o e n hb hx
  obtain⟨sl',e2⟩:=slot b _ (neL b o e) hb (neC b o e hx) e1 (I.base.free b o e n hx);exact⟨sl',e2⟩
 ·obtain⟨o',e1⟩:=I.base.there b o e hx
  exact free b o' (neC b o e hx) e1 (I.base.free b o e n hx)
 ·obtain⟨o',e1⟩:=I.base.there b o e hx
  exact there b o' (neC b o e hx) e1
 ·obtain⟨m1,e1⟩:=I.base.tbls b ps e
  obtain⟨m2,e2⟩:=tbls b _ e1;exact⟨m1++m2,by rw[e2,Array.append_assoc]⟩
 ·obtain⟨m,hn,hl⟩:=I.loc
  refine⟨m,ns m hn,λi x v e1 e2 e3=>?_⟩;obtain⟨u,r,l⟩:=hl i x v e1 e2 e3;refine⟨u,r,?_⟩;rcases l with l | ⟨k,c,e,z⟩
  ·exact .inl l
  ·exact .inr ⟨k,c,e,cellK x c e _ z⟩
 ·obtain⟨v,z⟩:=I.cell x c e
  exact⟨v,cellK x c e v z⟩
 ·obtain⟨m,⟨o,_,_,ho,_⟩,_⟩:=I.loc
  exact free _ o (λz=>(hch _ z).2.1 rfl) ho I.free
 ·obtain⟨v,o,ho,hd⟩:=I.cell x c e
  exact free c o (λz=>(hch c z).2.2.1 x c e rfl) ho (I.freeC x c e)
 ·obtain⟨e,n,ne,nf,d⟩:=I.pin p hp
  have nch:p.1 ∉ ch:=λz=>(hch p.1 z).2.2.2 p hp rfl;exact⟨keep p.1 p.2 ne nf nch e n,free p.1 p.2 nch e n,ne,nf,d⟩
theorem Inv.un(I:Inv X pins σ H s)(u:Un X.fs [] H H' s.heap h')(hok:HOk X.prog X.w H' h'):Inv X pins σ H' { s with heap:=h',toks:=t' }:=by obtain⟨m,⟨o,es,ep,ho,r⟩,_⟩:=id I.loc;obtain⟨sl,hL⟩:=u.any ho I.free (by simp);exact I.step (g':=s.gens) (d':=s.drawn) (ch:=[]) (λ_ z=>nomatch z) (λb o _ hb _ e n=>u.keep b o e n hb (by simp)) (λb o _ hb _ e n=>u.slot b o e n hb (by simp)) (λb o _ e n=>u.free b o e n (by simp)) (λb o _ e=>u.there b o e (by simp)) u.tups u.frzs u.tbls (λm' hm=>by obtain⟨o',es',ep',ho',r'⟩:=hm;rw[ho]at ho'; cases ho';exact⟨_,es',ep',hL,r'⟩) hok I.bare
theorem Inv.call{g':Array GenState}{d':Drawn}(I:Inv X pins σ H s)(u:Un (frs X.stack) ch H H' s.heap h')(hok:HOk X.prog X.w H' h')(hg:AllBare g')
  (hch:∀b∈ch,(b∈X.ex\/X.s₀.heap.objs.size<=b)/\b≠X.env.locals/\(∀x c,X.env.cells.lookup x=Z c->c≠b)/\∀p∈X.pn++pins,p.1≠b) :
  Inv X pins σ H' { s with heap:=h',gens:=g',drawn:=d',toks:=t' }:=by
 obtain⟨m,⟨o,es,ep,ho,r⟩,_⟩:=id I.loc;obtain⟨sl,hL⟩:=u.any ho I.free λz=>(hch _ z).2.1 rfl;exact I.step (ch:=ch) hch (λb o hL hb hc e n=>u.keep b o e n (λz=>(ZzK.mp (I.stkSub b z)).elim hL hb) hc) (λb o _ _ hc e n=>u.any e n hc) (λb o hc e n=>u.free b o e n hc) (λb o hc e=>u.there b o e hc) u.tups u.frzs u.tbls (λm' hm=>by obtain⟨o',es',ep',ho',r'⟩:=hm;rw[ho]at ho'; cases ho';exact⟨_,es',ep',hL,r'⟩) hok hg
theorem Inv.turned{it:Addr}(I:Inv X pins σ H s)(k:∀b o,b≠it->s.heap.get? b=Z o->h'.get? b=Z o)(hn:H it=Z_)(hL:it≠X.env.locals)
  (h1:it∈X.ex\/X.s₀.heap.objs.size<=it) (h2:∀x c,X.env.cells.lookup x=Z c->c≠it) (h3:∀p∈X.pn++pins,p.1≠it):Inv X pins σ H { s with heap:=h',toks:=t' }:=by
 have nit:∀b u,H b=Z u->b≠it:=λb u e z=>by rw[z,hn]at e; cases e
 refine I.step (g':=s.gens) (d':=s.drawn) (ch:=[it]) (λb hb=>?_) (λb o _ _ hc e _=>k b o (λz=>hc (by simp[z])) e) (λb o _ _ hc e _=>⟨o.slots,k b o (λz=>hc (by simp[z])) e⟩) (λ_ _ _ _ n=>n)
  (λb o hc e=>⟨o,k b o (λz=>hc (by simp[z])) e⟩) (λ_ _ e=>e) (λ_ _ _ e=>e) (λb ps e=>⟨#[],by rw[e]; simp⟩) (λm hm=>?_) (λb u e=>?_) I.bare
 ·have e:b=it:=by simpa using hb
  subst e;exact⟨h1,hL,h2,h3⟩
 ·obtain⟨o,es,ep,ho,r⟩:=hm
  exact⟨o,es,ep,k _ o (ZAG hL) ho,r⟩
 ·refine(I.hok b u e).stay (λc v hc q=>k c v ?_ q) (λ_ q=>q) λ_ _ q=>q
  rcases hc with z | z
  ·rw[z]; exact nit b u e
  ·exact nit c _ z
theorem Inv.tok(I:Inv X pins σ H s)(t:Nat):Inv X pins σ H { s with toks:=t }:=I.un (h':=s.heap) (t':=t) Un.refl I.hok
theorem Inv.kept{t':Nat}(I:Inv X pins σ H s)(k:∀b u,s.heap.get? b=Z u->h'.get? b=Z u):Inv X pins σ H { s with heap:=h',toks:=t' }:=I.un (Un.kept k) (I.hok.kept k)
theorem Inv.laid{a:Addr}{o:HO}{t':Nat}(I:Inv X pins σ H s)(k:∀b u,s.heap.get? b=Z u->h'.get? b=Z u)(hp:s.heap.objs.size<=a)(new:Z4 X.prog X.w (upd H a o) h' a o) :
  Inv X pins σ (upd H a o) { s with heap:=h',toks:=t' }:=I.un (Un.laid k hp (I.hok.fresh hp)) (I.hok.laid k hp new)
theorem Inv.write{x e:Addr}{o:HO}{t':Nat}(I:Inv X pins σ H s)(mu:Mut (H x))(he:e=x\/H e=Z (.own x))(k:∀b u,b≠e->s.heap.get? b=Z u->h'.get? b=Z u)(heo:∃u,h'.get? e=Z u)
  (new:Z4 X.prog X.w (upd H x o) h' x o):Inv X pins σ (upd H x o) { s with heap:=h',toks:=t' }:=I.un (Un.write mu he k heo) (I.hok.write mu he k heo new)
theorem Inv.weak{σ':List (Option V)}(I:Inv X pins σ H s)(hl:σ'.length=σ.length)(w:∀(i:Nat) v,σ'[i]?=Z (Z v)->σ[i]?=Z (Z v)):Inv X pins σ' H s :=
 ⟨I.ok,I.os,I.bare,I.base,let ⟨m,hn,hl'⟩:=I.loc; ⟨m,hn,λi x v e1 e2 e3=>hl' i x v e1 (w i v e2) e3⟩,I.cell,I.free,I.freeC,I.pin,I.hok,hl.trans I.len⟩
theorem Inv.pins_of{pins':List (Addr × Obj)}(I:Inv X pins σ H s)(h:∀p∈pins',s.heap.get? p.1=Z p.2/\H p.1=Z_/\p.1≠X.env.locals/\p.1 ∉ X.fs/\∀v,p.2.data≠.cell v):Inv X pins' σ H s :=
 ⟨I.ok,I.os,I.bare,I.base,I.loc,I.cell,I.free,I.freeC,λp hp=>(Zz3.mp hp).elim (λz=>I.pin p (ZAC _ z)) (h p),I.hok,I.len⟩
theorem ZnR{N:List Str}(hN:N.Nodup){j:Nat}(a:N[i]?=Z x)(b:N[j]?=Z x):i=j:=by obtain⟨h1,e1⟩:=ZzL.mp a;obtain⟨h2,e2⟩:=ZzL.mp b;exact(List.getElem_inj hN).mp (e1.trans e2.symm)
theorem Zmi{M:Model}{v:V}{Q:Unit->Shared->Prop}(I:Inv X pins σ H s)(hN:X.N.Nodup)(hi:X.N[i]?=Z x)(hx:Loc X.env.scope x)(r:RelV v u)
  (h:∀s',Inv X pins (σ.set i (Z v)) H s'->(∃a,ZA6 a s.heap s'.heap/\(a=X.env.locals\/X.env.cells.lookup x=Z a))->Q () s') (hf:X.fn x=ZEN\/X.env.scope.names.lookup x=Z .local:=by first | exact .inl rfl | exact .inr rfl | assumption):wpAny M A (storeName X.env x u) Q E s:=by
 obtain⟨m,hn,hl⟩:=id I.loc;have hcls:(X.env.scope.kind==.class||(X.env.scope.kind==.module&&X.env.locals != X.env.globals))=ZEO:=by rw[I.ok.kind]; rfl
 have hiσ:i<σ.length:=by rw[I.len]; exact(ZzL.mp hi).1
 have cne:=I.cne;have tracked:∀{a:Addr} {h':Heap},(∃o,s.heap.get? a=Z o/\H a=Z_)->ZA6 a s.heap h'->HOk X.prog X.w H h':=λ{a h'} ha hs b ob e=>by
  obtain⟨_,_,hfree⟩:=ha;refine(I.hok b ob e).stay (λc w' hc q=>(hs.2 c ?_).trans q) (λ_ q=>q) λ_ _ q=>q
  rintro rfl
  rcases hc with rfl | hc
  ·rw[hfree]at e; cases e
  ·rw[hfree]at hc; cases hc
 rcases hx with hk | hk
 ·refine wpAny_storeName_local hk hn (λh' hn' hs=>?_) hcls
  obtain⟨oL,_,_,hoL,_⟩:=id hn;refine h _ ⟨I.ok,I.os,I.bare,⟨λb o e n hb hx=>?_,λb o e n hb hx=>?_,I.base.free,λb o e hx=>?_,I.base.tups,I.base.frzs,I.base.tbls⟩,⟨_,hn',λj y v' e1 e2 e3=>?_⟩,λy c e=>?_,I.free,I.freeC,λp hp=>?_,tracked ⟨oL,hoL,I.free⟩ hs,by simpa using I.len⟩ ⟨_,hs,.inl rfl⟩
  ·exact(hs.2 b (ZzU (ZzZ (ZzO e) I.ok.above))).trans (I.base.keep b o e n hb hx)
  ·obtain⟨sl,e1⟩:=I.base.slot b o e n hb hx
   exact⟨sl,(hs.2 b (ZzU (ZzZ (ZzO e) I.ok.above))).trans e1⟩
  ·obtain⟨o',e1⟩:=I.base.there b o e hx
   exact⟨o',(hs.2 b (ZzU (ZzZ (ZzO e) I.ok.above))).trans e1⟩
  ·by_cases hj:j=i
   ·subst hj
    rw[hi]at e1; cases e1;rw[ZAr hiσ]at e2;cases e2;exact⟨u,r,.inl ⟨hk,by simp⟩⟩
   ·rw[Zz9 (ZAG hj)]at e2
    obtain⟨u',r',q⟩:=hl j y v' e1 e2 e3;refine⟨u',r',?_⟩;rcases q with⟨k,e⟩ | ⟨k,c,e,z⟩
    ·refine .inl ⟨k,?_⟩
     have:y≠x:=λe=>hj (ZnR hN e1 (e▸hi));simp[this,e]
    ·exact .inr ⟨k,c,e,z.sameBut hs (cne y c e)⟩
  ·obtain⟨w',z⟩:=I.cell y c e
   exact⟨w',z.sameBut hs (cne y c e)⟩
  ·obtain⟨e,n,ne,nf,d⟩:=I.pin p hp
   exact⟨(hs.2 p.1 ne).trans e,n,ne,nf,d⟩
 ·have hfn:X.fn x=ZEN:=by
   rcases hf with z | z
   ·exact z
   ·rw[z]at hk; cases hk
  obtain⟨c,hc⟩:=I.ok.has x (.inl hk);obtain⟨w',z⟩:=I.cell x c hc;refine wpAny_storeName_cell I.ok.kind hk hc z (λh' hc' hs=>?_);obtain⟨oc,hoc,hocd⟩:=id z;refine h { s with heap:=h' } ⟨I.ok,I.os,I.bare,⟨λb o e n hb hx=>?_,λb o e n hb hx=>?_,I.base.free,λb o e hx=>?_,I.base.tups,I.base.frzs,I.base.tbls⟩,⟨m,hn.sameBut hs (ZAG (cne x c hc)),λj y v' e1 e2 e3=>?_⟩,λy c' e=>?_,I.free,I.freeC,λp hp=>?_,tracked ⟨oc,hoc,I.freeC x c hc⟩ hs,by simpa using I.len⟩ ⟨c,hs,.inr hc⟩
  ·exact(hs.2 b (ZzU (ZzZ (ZzO e) (I.ok.cab x c hfn hc)))).trans (I.base.keep b o e n hb hx)
  ·obtain⟨sl,e1⟩:=I.base.slot b o e n hb hx
   exact⟨sl,(hs.2 b (ZzU (ZzZ (ZzO e) (I.ok.cab x c hfn hc)))).trans e1⟩
  ·obtain⟨o',e1⟩:=I.base.there b o e hx
   exact⟨o',(hs.2 b (ZzU (ZzZ (ZzO e) (I.ok.cab x c hfn hc)))).trans e1⟩
  ·by_cases hj:j=i
   ·subst hj
    rw[hi]at e1; cases e1;rw[ZAr hiσ]at e2;cases e2;exact⟨u,r,.inr ⟨.inl hk,c,hc,hc'⟩⟩
   ·rw[Zz9 (ZAG hj)]at e2
    obtain⟨u',r',q⟩:=hl j y v' e1 e2 e3;refine⟨u',r',?_⟩;rcases q with q | ⟨k,c',e,z'⟩
    ·exact .inl q
    ·refine .inr ⟨k,c',e,z'.sameBut hs ?_⟩
     rintro rfl
     exact hj (ZnR hN e1 (I.ok.inj _ _ _ e hc▸hi))
  ·by_cases hcc:c'=c
   ·subst hcc; exact⟨_,hc'⟩
   ·obtain⟨w2,z2⟩:=I.cell y c' e
    exact⟨w2,z2.sameBut hs hcc⟩
  ·obtain⟨e,n,ne,nf,d⟩:=I.pin p hp
   refine⟨(hs.2 p.1 ?_).trans e,n,ne,nf,d⟩;intro q;rw[q,hoc]at e;have q':oc=p.2:=ZAl e;exact d w' (by rw[<-q']; exact hocd)
theorem Zkk{M:Model}{v:V}{Q:Unit->Shared->Prop}(I:Inv X pins σ H s)(hN:X.N.Nodup)(hi:X.N[i]?=Z x)(hx:Loc X.env.scope x)(r:RelV v u)
  (h:∀s',Inv X pins (σ.set i (Z v)) H s'->Q () s') (hf:X.fn x=ZEN\/X.env.scope.names.lookup x=Z .local:=by first | exact .inl rfl | exact .inr rfl | assumption):wpAny M A (storeName X.env x u) Q E s :=
 Zmi I hN hi hx r (λs' I' _=>h s' I') hf
theorem Inv.call'{s':Shared}(I:Inv X pins σ H s)(ho:s'.os=s.os)(u:Un (frs X.stack) ch H H' s.heap s'.heap)(hok:HOk X.prog X.w H' s'.heap)(hg:AllBare s'.gens)
  (hch:∀b∈ch,(b∈X.ex\/X.s₀.heap.objs.size<=b)/\b≠X.env.locals/\(∀x c,X.env.cells.lookup x=Z c->c≠b)/\∀p∈X.pn++pins,p.1≠b):Inv X pins σ H' s':=by
 obtain⟨h',g',d',t',o'⟩:=s';have e:o'=s.os:=ho;subst e;exact I.call (g':=g') (t':=t') (d':=d') u hok hg hch
end
abbrev XK:=Value->Option Addr->Hp->Prop
abbrev St:=List (Option V)
abbrev VK:=V->Hp->Prop
abbrev TE:=St->Hp->VK->Prop
abbrev TT:=St->Hp->(Bool->Hp->Prop)->Prop
abbrev TA:=St->Hp->(List V->Hp->Prop)->Prop
structure Ends where
 nx:St->Hp->Prop
 rt:VK
 bk:St->Hp->Prop:=λ_ _=>False
 ct:St->Hp->Prop:=λ_ _=>False
abbrev TS:=Ends->St->Hp->Prop
inductive EP(X:Cx)(pins:List (Addr × Obj))(σ:St)(Q:VK)(u:Value)(s':Shared):Prop
 | mk (v:V) (H':Hp) (I:Inv X pins σ H' s') (r:RelV v u) (q:Q v H'):EP X pins σ Q u s'
inductive TP(X:Cx)(pins:List (Addr × Obj))(σ:St)(Q:Bool->Hp->Prop)(b:Bool)(s':Shared):Prop
 | mk (H':Hp) (I:Inv X pins σ H' s') (q:Q b H'):TP X pins σ Q b s'
inductive AP(X:Cx)(pins:List (Addr × Obj))(σ:St)(Q:List V->Hp->Prop)(us:List Value)(s':Shared):Prop
 | mk (vs:List V) (H':Hp) (I:Inv X pins σ H' s') (r:Vals vs us) (q:Q vs H'):AP X pins σ Q us s'
inductive SPn(X:Cx)(pins:List (Addr × Obj))(N:St->Hp->Prop)(s':Shared):Prop
 | mk (σ':St) (H':Hp) (I:Inv X pins σ' H' s') (q:N σ' H'):SPn X pins N s'
inductive SPr(X:Cx)(pins:List (Addr × Obj))(R:V->Hp->Prop)(u:Value)(s':Shared):Prop
 | mk (v:V) (σ':St) (H':Hp) (I:Inv X pins σ' H' s') (r:RelV v u) (q:R v H'):SPr X pins R u s'
def SP(X:Cx)(pins:List (Addr × Obj))(D:Ends)(f:Flow)(s':Shared):Prop :=
 match f with
 | .next=>SPn X pins D.nx s'
 | .brk=>SPn X pins D.bk s'
 | .cont=>SPn X pins D.ct s'
 | .ret u=>SPr X pins D.rt u s'
def PE(X:Cx)(e:Expr)(t:TE):Prop :=
 ∀(pins:List (Addr × Obj)) (s:Shared) (σ:St) (H:Hp) (Q:VK),Inv X pins σ H s->t σ H Q->wpAny (model X.prog X.w) X.A (eval e X.env) (EP X pins σ Q) X.xe s
def PT(X:Cx)(e:Expr)(t:TT):Prop :=
 ∀(pins:List (Addr × Obj)) (s:Shared) (σ:St) (H:Hp) (Q:Bool->Hp->Prop),Inv X pins σ H s->t σ H Q->wpAny (model X.prog X.w) X.A (isTrue e X.env (eval e X.env)) (TP X pins σ Q) X.xe s
def PW(X:Cx)(e:Expr)(t:TT):Prop :=
 ∀(whole:Sem Value) (pins:List (Addr × Obj)) (s:Shared) (σ:St) (H:Hp) (Q:Bool->Hp->Prop),Inv X pins σ H s->t σ H Q->wpAny (model X.prog X.w) X.A (isTrue e X.env whole) (TP X pins σ Q) X.xe s
theorem PW.pt{X:Cx}{e:Expr}{t:TT}(h:PW X e t):PT X e t:=h _
def PA(X:Cx)(es:List Expr)(t:TA):Prop :=
 ∀(pos:Pos) (pins:List (Addr × Obj)) (s:Shared) (σ:St) (H:Hp) (Q:List V->Hp->Prop),Inv X pins σ H s->t σ H Q->wpAny (model X.prog X.w) X.A (spliced (backTo pos (ZzC es X.env))) (AP X pins σ Q) X.xe s
def PS(X:Cx)(st:Stmt)(t:TS):Prop :=
 ∀(pins:List (Addr × Obj)) (s:Shared) (σ:St) (H:Hp) (D:Ends),Inv X pins σ H s->t D σ H->wpAny (model X.prog X.w) X.A (exec st X.env) (SP X pins D) X.xe s
def PSs(X:Cx)(st:List Stmt)(t:TS):Prop :=
 ∀(pins:List (Addr × Obj)) (s:Shared) (σ:St) (H:Hp) (D:Ends),Inv X pins σ H s->t D σ H->wpAny (model X.prog X.w) X.A (execs st X.env) (SP X pins D) X.xe s
theorem thn{α:Type}{t:Sem α}{Q Q':α->Shared->Prop}{M:Model}{s:Shared}(h:wpAny M A t Q E s)(hQ:∀a s,Q a s->Q' a s):wpAny M A t Q' E s:=ZAD h hQ λ_ _ x=>x
end L2
namespace L2
open PySem PySem.Spec PyProof.Rows
variable{H:Hp}{pins:List (Addr × Obj)}{pos:Pos}{s:Shared}{σ:St}{x:Str}{u:Value}{E Q:Value->Shared->Prop}
section
variable{X:Cx}
def ZyA(i:Nat):TE:=λσ H Q=>∃v,σ[i]?=Z (Z v)/\Q v H
noncomputable def tC (v:V):TE:=λ_ H Q=>Q v H
theorem ZbQ{i:Nat}(hN:X.N[i]?=Z x)(hv:Vis X.env.scope x)(hd:(x==("__debug__":Str))=ZEO:=by decide)(hcd:(x==("__classdict__":Str))=ZEO:=by decide):PE X (.Name x pos) (ZyA i):=by
 intro pins s σ H Q I h;obtain⟨v,e,h⟩:=h;obtain⟨m,hn,hl⟩:=I.loc;obtain⟨u,r,l⟩:=hl i x v hN e hv;have fin:EP X pins σ Q u s:=⟨v,H,I,r,h⟩;rcases l with⟨hk,hm⟩ | ⟨hk,c,hc,hcell⟩
 ·exact wpAny_Name (wpAny_loadName_local I.ok.kind hk hn hm fin) hd
 ·rcases hk with hk | hk
  ·exact wpAny_Name (wpAny_loadName_cell I.ok.kind hk hc hcell fin) hd
  ·exact wpAny_Name (wpAny_loadName_free I.ok.kind hk hc hcell fin hcd) hd
theorem Zsd{i j pos}:PE X (.Constant (.int i) j pos) (tC (.int i)):=λ_ _ _ H _ I h=>wpAny_Constant_int ⟨.int i,H,I.tok _,⟨_,rfl⟩,h⟩
theorem Zyd{b j pos}:PE X (.Constant (.bool b) j pos) (tC (.bl b)):=λ_ _ _ H _ I h=>Constant_bool ⟨.bl b,H,I,rfl,h⟩
theorem ZrW{j pos}:PE X (.Constant .none j pos) (tC .non):=λ_ _ _ H _ I h=>Constant_none ⟨.non,H,I,rfl,h⟩
theorem Zwn{x j pos}:PE X (.Constant (.str x) j pos) (tC (.str x)):=λ_ _ _ H _ I h=>Calls.Constant_str ⟨.str x,H,I.tok _,⟨_,rfl⟩,h⟩
def Gl(X:Cx)(x:Str):Prop:=X.env.kindOf x=Z .globalImplicit
theorem Zhz(I:Inv X pins σ H s)(hg:Gl X x)(hm:X.mg x=Z u)(h:Q u s)
  (hd:(x==("__debug__":Str))=ZEO:=by decide):wpAny (model X.prog X.w) X.A (eval (.Name x pos) X.env) Q E s :=
 ZDv I.ok.kind hg (Calls.loadGlobal_global (by rw[I.ok.glob]; exact I.mod.glob.keeps I.bk) hm h) hd
theorem Zht(I:Inv X pins σ H s)(hg:Gl X x)(hm:X.mg x=Z_)(hv:ZAy x=Z u)(h:Q u s)
  (hn:x ≠ "__name__":=by decide) (hd:(x==("__debug__":Str))=ZEO:=by decide):wpAny (model X.prog X.w) X.A (eval (.Name x pos) X.env) Q E s:=by
 obtain⟨mb,h1,h2⟩:=I.mod.blt;exact ZDv I.ok.kind hg (Calls.loadGlobal_builtin (by rw[I.ok.glob]; exact I.mod.glob.keeps I.bk) hm (by rw[I.ok.blt]; exact h1.keeps I.bk) ((h2 x hn).trans hv) h) hd
theorem Zju{v:V}(hg:Gl X x)(hm:X.mg x=Z u)(r:RelV v u)(hd:(x==("__debug__":Str))=ZEO:=by decide):PE X (.Name x pos) (tC v) :=
 λ_ _ _ H _ I h=>Zhz I hg hm ⟨v,H,I,r,h⟩ hd
theorem Zqu{v:V}(hg:Gl X x)(hm:X.mg x=Z_)(hv:ZAy x=Z u)(r:RelV v u)(hn:x ≠ "__name__":=by decide)(hd:(x==("__debug__":Str))=ZEO:=by decide):PE X (.Name x pos) (tC v) :=
 λ_ _ _ H _ I h=>Zht I hg hm hv ⟨v,H,I,r,h⟩ hn hd
variable{a b:Expr}{ta tb:TE}{pos:Pos}
def PC(X:Cx)(op:CmpOp)(a b:Expr)(t:TE):Prop :=
 ∀(pins:List (Addr × Obj)) (s:Shared) (σ:St) (H:Hp) (Q:VK),Inv X pins σ H s->t σ H Q ->
  wpAny (model X.prog X.w) X.A (eval a X.env) (λv s₁=>wpAny (model X.prog X.w) X.A (eval b X.env) (λu s₂=>wpAny (model X.prog X.w) X.A (ZAU op v u) (EP X pins σ Q) X.xe s₂) X.xe s₁) X.xe s
theorem ZkE(b:Expr){op:CmpOp}(h:op≠.In)(h2:op≠.NotIn):ZBz op b=ZEO:=by
 have e1:(op==CmpOp.In)=ZEO:=by cases op<;>first | rfl | exact absurd rfl h
 have e2:(op==CmpOp.NotIn)=ZEO:=by cases op<;>first | rfl | exact absurd rfl h2
 cases b<;>simp[ZBz,e1,e2]
def tB(t:TE):TT:=λσ H Q=>t σ H λx H1=>∃c,x=.bl c/\Q c H1
theorem ZsJ{op:CmpOp}{t:TE}(h:PC X op a b t)(h1:ZBz op b=ZEO:=by first | exact ZkE _ (by decide) (by decide) | rfl):PT X (.Compare a [op] [b] pos) (tB t):=by intro pins s σ H Q I hw;refine wpAny_isTrue_Compare1 (thn (h pins s σ H _ I hw) λv s1 h1=>thn h1 λu s2 h2=>thn h2 λc s3 ⟨x,H1,I1,r1,q1⟩=>?_) h1;obtain⟨d,rfl,q⟩:=q1;cases r1;exact ZBw ⟨H1,I1,q⟩
theorem Zwb{e:Expr}{t:TE}(h:PE X e t)(he:∀whole,isTrue e X.env whole=(do let v <-whole; standAt e.pos; holding [v] (truthy v)):=by intro _; rfl):PT X e (tB t):=by intro pins s σ H Q I hw;refine isTrue_plain (thn (h pins s σ H _ I hw) λv s1 ⟨x,H1,I1,r1,q1⟩=>?_) (he _);obtain⟨d,rfl,q⟩:=q1;cases r1;exact ZBw ⟨H1,I1,q⟩
variable{tA tB':TT}{rest:List Expr}
def tOr(t u:TT):TT:=λσ H Q=>t σ H λc H1=>if c=ZEN then Q ZEN H1 else u σ H1 Q
def ZcZ(t:TT):TT:=λσ H Q=>t σ H λc H1=>Q (!c) H1
theorem ZwC(ha:PT X a tA):PW X (.BoolOp .Or [a] pos) tA:=by
 intro wh pins s σ H Q I h;refine isTrue_or (thn (ha pins s σ H Q I h) λc s1 e=>?_);cases c with
 | false=>exact isTrue_or_nil e
 | true=>exact e
theorem Zuy(ha:PT X a tA)(hb:PW X (.BoolOp .Or (b::rest) pos) tB'):PW X (.BoolOp .Or (a::b::rest) pos) (tOr tA tB'):=by
 intro wh pins s σ H Q I h;refine isTrue_or (thn (ha pins s σ H _ I h) λc s1 ⟨H1,I1,q1⟩=>?_);cases c with
 | true=>exact⟨H1,I1,q1⟩
 | false=>exact hb wh pins s1 σ H1 Q I1 q1
theorem Zwz(ha:PT X a tA):PT X (.UnaryOp .Not a pos) (ZcZ tA):=by intro pins s σ H Q I h;exact isTrue_not (thn (ha pins s σ H (λc H1=>Q (!c) H1) I h) λ_ _ ⟨H',I',q'⟩=>⟨H',I',q'⟩)
def ZxO(ta tb:TE):TE:=λσ H Q=>ta σ H λx H1=>∃c,x=.bl c/\if c=ZEN then tb σ H1 Q else Q (.bl ZEO) H1
theorem ZwR{op}{t:TE}(h:PE X a t):PE X (.BoolOp op [a] pos) t:=λpins s σ H Q I hw=>BoolOp_one (h pins s σ H Q I hw)
theorem Zsc(ha:PE X a ta)(hb:PE X (.BoolOp .And (b::rest) pos) tb):PE X (.BoolOp .And (a::b::rest) pos) (ZxO ta tb):=by
 intro pins s σ H Q I h;refine BoolOp_and (thn (ha pins s σ H _ I h) λv s1 ⟨x,H1,I1,r1,q1⟩=>?_);obtain⟨c,rfl,q1⟩:=q1;cases r1;refine ZBw ?_;cases c with
 | true=>exact hb pins s1 σ H1 Q I1 q1
 | false=>exact⟨.bl ZEO,H1,I1,rfl,q1⟩
def tIf(t:TT)(ta tb:TE):TE:=λσ H Q=>t σ H λc H1=>if c=ZEN then ta σ H1 Q else tb σ H1 Q
theorem Zor{c:Expr}(hc:PT X c tA)(ha:PE X a ta)(hb:PE X b tb):PE X (.IfExp c a b pos) (tIf tA ta tb):=by
 intro pins s σ H Q I h;refine wpAny_IfExp (thn (hc pins s σ H _ I h) λd s1 ⟨H1,I1,q1⟩=>?_);cases d with
 | true=>exact ha pins s1 σ H1 Q I1 q1
 | false=>exact hb pins s1 σ H1 Q I1 q1
end
end L2
namespace L2
open PySem PySem.Spec PyProof.Rows
variable{X:Cx}{c tg:Expr}{H:Hp}{pins:List (Addr × Obj)}{es:List Expr}{i:Nat}{P:Program}{K:Zzx}{s:Shared}{σ:St}{x:Str}{u:Value}{E:Value->Shared->Prop}{w:World}
def SqL(K:Zzx)(H:Hp)(a:Addr)(xs:List V):Prop :=
 Rd H a (.lst xs) \/
  ∃(o:Obj) (its:Array Value) (n:Nat),K.lookup a=Z o/\o.cls=.type "list"/\o.dict=Z_/\o.data=.seq its n/\its.size<=sizeLine/\Vals xs its.toList
def SqT(K:Zzx)(H:Hp)(a:Addr)(xs:List V):Prop :=
 Rd H a (.tup xs) \/
  ∃(o:Obj) (its:Array Value) (n:Nat),K.lookup a=Z o/\o.cls=.type "tuple"/\o.data=.seq its n/\its.size<=sizeLine/\Vals xs its.toList
def Zy8:Value->Option V
 | .none=>Z .non
 | .bool b=>Z (.bl b)
 | .int i _=>Z (.int i)
 | .str x _=>Z (.str x)
 | .bytes b _=>Z (.byt b)
 | .float b _=>Z (.flt b)
 | .ref a=>Z (.ref a)
 | .type n=>Z (.ty n)
 | _=>Z_
theorem RelV.abs{x:V}(r:RelV x u):Zy8 u=Z x:=by
 cases x with
 | non=>cases r; rfl
 | bl _=>cases r; rfl
 | int _=>obtain⟨t,rfl⟩:=r; rfl
 | str _=>obtain⟨t,rfl⟩:=r; rfl
 | byt _=>obtain⟨t,rfl⟩:=r; rfl
 | flt _=>obtain⟨t,rfl⟩:=r; rfl
 | ref _=>cases r; rfl
 | ty _=>cases r; rfl
theorem RelV.inj{x y:V}{u:Value}(r:RelV x u)(q:RelV y u):x=y:=ZAl (r.abs.symm.trans q.abs)
theorem Vals.inj:∀{xs ys:List V} {us:List Value},Vals xs us->Vals ys us->xs=ys
 | _,_,_,.nil,.nil=>rfl
 | _,_,_,.cons r t,.cons r' t'=>by rw[r.inj r',Vals.inj t t']
section
variable{X:Cx}{pins:List (Addr × Obj)}{σ:St}{H:Hp}{s:Shared}{a:Addr}{xs ys:List V}
theorem SqL.of(h:H a=Z (.lst xs)):SqL K H a xs:=.inl (.inl h)
theorem SqT.of(h:H a=Z (.tup xs)):SqT K H a xs:=.inl (.inl h)
theorem Inv.list(I:Inv X pins σ H s)(h:SqL X.K H a xs):∃its:List Value,Vals xs its/\PlainL s.heap a its.toArray/\xs.length<=sizeLine:=by
 rcases h with h | ⟨o,its,n,hk,hc,hd,hs,hz,r⟩
 ·obtain⟨z,its,n,r,e⟩:=h.ok I.hok
  exact⟨its,r,⟨_,n,e,rfl,rfl,rfl⟩,z⟩
 ·refine⟨its.toList,r,⟨o,n,I.kIn a o hk,hc,hd,by simpa using hs⟩,?_⟩
  have e:=r.length;simp only[ZzY]at e;omega
theorem Inv.tuple(I:Inv X pins σ H s)(h:SqT X.K H a xs):∃its:List Value,Vals xs its/\IsTup s.heap a its.toArray/\xs.length<=sizeLine:=by
 rcases h with h | ⟨o,its,n,hk,hc,hs,hz,r⟩
 ·obtain⟨z,its,r,p⟩:=h.ok I.hok
  exact⟨its,r,p,z⟩
 ·refine⟨its.toList,r,⟨o,I.kIn a o hk,hc,n,by simpa using hs⟩,?_⟩
  have e:=r.length;simp only[ZzY]at e;omega
theorem Inv.list_inj(I:Inv X pins σ H s)(h:SqL X.K H a xs)(h':SqL X.K H a ys):xs=ys:=by
 obtain⟨its,r,⟨o,n,e,_,_,d⟩,_⟩:=I.list h;obtain⟨its',r',⟨o',n',e',_,_,d'⟩,_⟩:=I.list h';rw[e]at e'; cases e';rw[d]at d';injection d' with d1 _
 have:its=its':=by simpa using congrArg Array.toList d1
 subst this;exact r.inj r'
theorem Inv.tuple_inj(I:Inv X pins σ H s)(h:SqT X.K H a xs)(h':SqT X.K H a ys):xs=ys:=by
 obtain⟨its,r,⟨o,e,_,n,d⟩,_⟩:=I.tuple h;obtain⟨its',r',⟨o',e',_,n',d'⟩,_⟩:=I.tuple h';rw[e]at e'; cases e';rw[d]at d';injection d' with d1 _
 have:its=its':=by simpa using congrArg Array.toList d1
 subst this;exact r.inj r'
end
abbrev Cx.wish(X:Cx)(E:Value->Shared->Prop):Cx:={ X with xe:=E }
abbrev Cx.nox(X:Cx):Cx:=X.wish λ_ _=>False
theorem Cx.Ok.wish{X:Cx}(ok:X.Ok)(E:Value->Shared->Prop):(X.wish E).Ok :=
 ⟨ok.mod,ok.kind,ok.glob,ok.blt,ok.above,ok.inj,ok.has,ok.cab,ok.hd,ok.frames,ok.stk,ok.exf,ok.bs,ok.bsz,ok.noex,ok.exfs,ok.funs,ok.frf⟩
theorem Cx.Ok.unwish(ok:(X.wish E).Ok):X.Ok :=
 ⟨ok.mod,ok.kind,ok.glob,ok.blt,ok.above,ok.inj,ok.has,ok.cab,ok.hd,ok.frames,ok.stk,ok.exf,ok.bs,ok.bsz,ok.noex,ok.exfs,ok.funs,ok.frf⟩
section
variable{X:Cx}{pins:List (Addr × Obj)}{σ:St}{H:Hp}{s:Shared}{E:Value->Shared->Prop}
theorem Inv.wish(I:Inv X pins σ H s)(E:Value->Shared->Prop):Inv (X.wish E) pins σ H s:=⟨I.ok.wish E,I.os,I.bare,I.base,I.loc,I.cell,I.free,I.freeC,I.pin,I.hok,I.len⟩
theorem Inv.unwish(I:Inv (X.wish E) pins σ H s):Inv X pins σ H s:=⟨I.ok.unwish,I.os,I.bare,I.base,I.loc,I.cell,I.free,I.freeC,I.pin,I.hok,I.len⟩
theorem SP.unwish{D:Ends}{f:Flow}{s':Shared}(h:SP (X.wish E) pins D f s'):SP X pins D f s':=by
 cases f with
 | next=>obtain⟨σ',H',I,q⟩:=h; exact⟨σ',H',I.unwish,q⟩
 | brk=>obtain⟨σ',H',I,q⟩:=h; exact⟨σ',H',I.unwish,q⟩
 | cont=>obtain⟨σ',H',I,q⟩:=h; exact⟨σ',H',I.unwish,q⟩
 | ret u=>obtain⟨v,σ',H',I,r,q⟩:=h; exact⟨v,σ',H',I.unwish,r,q⟩
theorem PSs.nox{st:List Stmt}{t:TS}(h:PSs X.nox st t):PSs X st t:=λpins s σ H D I hw=>ZAD (h pins s σ H D (I.wish _) hw) (λ_ _ q=>q.unwish) λ_ _ z=>ZAp z
end
section
variable{X:Cx}{st:Stmt}{rest:List Stmt}{t u:TS}{e:Expr}{te:TE}{pos:Pos}
noncomputable def Zx4:TS:=λD σ H=>D.nx σ H
noncomputable def ZyR (t u:TS):TS:=λD σ H=>t { D with nx:=u D } σ H
theorem Zvc:PSs X [] Zx4:=λ_ _ σ H _ I h=>ZCx ⟨σ,H,I,h⟩
theorem ZdS(h1:PS X st t)(h2:PSs X rest u):PSs X (st::rest) (ZyR t u):=by
 intro pins s σ H D I h;refine wpAny_execs_cons (thn (h1 pins s σ H { D with nx:=u D } I h) λf s1 q=>?_);cases f with
 | next=>obtain⟨σ',H',I',q⟩:=q;exact h2 pins s1 σ' H' D I' q
 | ret v=>exact q
 | brk=>exact q
 | cont=>exact q
theorem ZlY(h1:PS X st t):PSs X [st] t:=by
 intro pins s σ H D I h;refine wpAny_execs_cons (thn (h1 pins s σ H D I h) λf s1 q=>?_);cases f with
 | next=>exact ZCx q
 | ret v=>exact q
 | brk=>exact q
 | cont=>exact q
theorem Inv.quiet(I:Inv X pins σ H s):interactive X.env=ZEO:=by simp[interactive,I.ok.kind]
def Zx9(te:TE):TS:=λD σ H=>te σ H λ_ H1=>D.nx σ H1
theorem Zhu(he:PE X e te)(hs:ZBG e Z_ pos.line X.env=pure ZEO:=by rfl):PS X (.Expr e pos) (Zx9 te):=by intro pins s σ H D I h;exact wpAny_Expr_any (thn (he pins s σ H _ I h) λv s1 ⟨x,H1,I1,r1,q1⟩=>⟨σ,H1,I1,q1⟩) I.quiet hs
def ZyW(te:TE):TS:=λD σ H=>te σ H D.rt
theorem ZiS(he:PE X e te):PS X (.Return (Z e) pos) (ZyW te):=by intro pins s σ H D I h;exact wpAny_Return_some (thn (he pins s σ H _ I h) λv s1 ⟨x,H1,I1,r1,q1⟩=>⟨x,σ,H1,I1,r1,q1⟩)
def ZyJ(c:TT)(t u:TS):TS:=λD σ H=>c σ H λb H1=>if b=ZEN then t D σ H1 else u D σ H1
theorem Zm3{a b:List Stmt}{tc:TT}(hc:PT X c tc)(ha:PSs X a t)(hb:PSs X b u):PS X (.If c a b pos) (ZyJ tc t u):=by
 intro pins s σ H D I h;refine wpAny_If (thn (hc pins s σ H _ I h) λd s1 ⟨H1,I1,q1⟩=>?_);cases d with
 | true=>exact ha pins s1 σ H1 D I1 q1
 | false=>exact hb pins s1 σ H1 D I1 q1
def Zwa:TS:=λ_ _ _=>False
theorem ZcF{sts:List Stmt}:PSs X sts Zwa:=λ_ _ _ _ _ _ h=>h.elim
end
abbrev TG:=V->St->Hp->(St->Hp->Prop)->Prop
abbrev TGs:=List V->St->Hp->(St->Hp->Prop)->Prop
def PG(X:Cx)(target:Expr)(t:TG):Prop :=
 ∀(pins:List (Addr × Obj)) (s:Shared) (σ:St) (H:Hp) (v:V) (u:Value) (Q:St->Hp->Prop),Inv X pins σ H s->RelV v u->t v σ H Q ->
  wpAny (model X.prog X.w) X.A (assign target X.env u) (λ_ s'=>∃σ' H',Inv X pins σ' H' s'/\Q σ' H') X.xe s
def PGs(X:Cx)(ts:List Expr)(t:TGs):Prop :=
 ∀(pins:List (Addr × Obj)) (s:Shared) (σ:St) (H:Hp) (vs:List V) (us:List Value) (Q:St->Hp->Prop),Inv X pins σ H s->Vals vs us->t vs σ H Q ->
  wpAny (model X.prog X.w) X.A (assignInOrder ((ZCG ts X.env).map (·.2)) us) (λ_ s'=>∃σ' H',Inv X pins σ' H' s'/\Q σ' H') X.xe s
abbrev Zt4:=V->V->V->Hp->(Hp->Prop)->Prop
def Zwj(X:Cx)(t:Zt4):Prop :=
 ∀(pins:List (Addr × Obj)) (s:Shared) (σ:St) (H:Hp) (o i v:V) (ov iv u:Value) (Q:Hp->Prop),Inv X pins σ H s->RelV o ov->RelV i iv->RelV v u->t o i v H Q ->
  wpAny (model X.prog X.w) X.A (setItem ov iv u) (λ_ s'=>∃H',Inv X pins σ H' s'/\Q H') X.xe s
section
variable{X:Cx}{pos:Pos}
def ZuA(i:Nat):TG:=λv σ H Q=>Q (σ.set i (Z v)) H
theorem Zjx(hN:X.N.Nodup)(hi:X.N[i]?=Z x)(hx:Loc X.env.scope x)(hf:X.fn x=ZEN\/X.env.scope.names.lookup x=Z .local:=by first | exact .inl rfl | exact .inr rfl | assumption):PG X (.Name x pos) (ZuA i):=by intro pins s σ H v u Q I r h;exact wpAny_assign_Name (Zkk I hN hi hx r (λs' I'=>⟨_,H,I',h⟩) hf)
def ZyH:TGs:=λvs σ H Q=>vs=[]/\Q σ H
def Zyg(t:TG)(u:TGs):TGs:=λvs σ H Q=>∃v r,vs=v::r/\t v σ H λσ' H'=>u r σ' H' Q
theorem Zvb:PGs X [] ZyH:=by intro pins s σ H vs us Q I r h;obtain⟨e,h⟩:=h;subst e;cases r;exact assignInOrder_nil ⟨σ,H,I,h⟩
theorem Zoz{e:Expr}{t:TG}{u:TGs}(h1:PG X e t)(h2:PGs X es u)
  (hs:(ZCG (e::es) X.env).map (·.2)=assign e X.env::(ZCG es X.env).map (·.2):=by rfl):PGs X (e::es) (Zyg t u):=by
 intro pins s σ H vs us Q I r h;obtain⟨v,vr,e1,h⟩:=h;subst e1;cases r with
 | cons r rr=>rw[hs];refine assignInOrder_cons (thn (h1 pins s σ H _ _ _ I r h) λ_ s1 ⟨σ1,H1,I1,q1⟩=>?_);exact h2 pins s1 σ1 H1 _ _ Q I1 rr q1
def ZyM(K:Zzx)(n:Nat)(t:TGs):TG:=λv σ H Q=>∃a xs,v=.ref a/\SqT K H a xs/\xs.length=n/\t xs σ H Q
theorem Zxg{k:Nat}{t:TGs}{n:Nat}(hc:X.calm=ZEN)(h:PGs X es t)
  (hn:(ZCG es X.env).length=n:=by rfl) (hst:(ZCG es X.env).findIdx? (·.1)=Z_:=by rfl):PG X (.Tuple es k pos) (ZyM X.K n t):=by
 intro pins s σ H v u Q I r hw;obtain⟨a,xs,e1,hq,hl,hw⟩:=hw;subst e1;cases r;obtain⟨its,rv,ht,hz⟩:=I.tuple hq;refine assign_Tuple_tuple (I.ok.hd hc) ht (by simp[hn,<-hl,rv.length]) hst λh' hx=>?_;have I1:Inv X pins σ H { s with heap:=h' }:=I.kept (t':=s.toks) λb o e=>hx b o (ZzU (ZzO e)) e;exact h pins _ σ H xs _ Q I1 (by simpa using rv) hw
def ZlK(to ti:TE)(t:Zt4):TG:=λv σ H Q=>to σ H λo H1=>ti σ H1 λi H2=>t o i v H2 λH3=>Q σ H3
theorem Zxr{o i:Expr}{to ti:TE}{t:Zt4}(ho:PE X o to)(hi:PE X i ti)(hs:Zwj X t)
  (ha:∀v,assign (.Subscript o i pos) X.env v=(do
   let ov <-holding [v] (eval o X.env)
   let iv <-holding [v,ov] (eval i X.env)
   standAt pos
   holding [v,ov,iv] (setItem ov iv v)
   release [v,ov,iv] []):=by intro _; rfl):PG X (.Subscript o i pos) (ZlK to ti t):=by
 intro pins s σ H v u Q I r h;rw[ha];refine Zzv (ZAI (thn (ho pins s σ H _ I h) λov s1 ⟨x,H1,I1,r1,q1⟩=>?_));refine Zzv (ZAI (thn (hi pins s1 σ H1 _ I1 q1) λiv s2 ⟨y,H2,I2,r2,q2⟩=>?_));refine Zzv (wpAny_standAt (Zzv (ZAI (thn (hs pins s2 σ H2 x y v ov iv u _ I2 r1 r2 r q2) λ_ s3 ⟨H3,I3,q3⟩=>?_))));exact wpAny_release ⟨σ,H3,I3,q3⟩
def Zwq(te:TE)(g:TG):TS:=λD σ H=>te σ H λx H1=>g x σ H1 D.nx
theorem ZwM{e:Expr}{te:TE}{g:TG}(he:PE X e te)(hg:PG X tg g)(hs:swapsWithSole [tg] e pos.line X.env=pure ZEO:=by rfl)(hw:swappedStores [tg] e X.env=pure Z_:=by rfl)
  (h1:(ZCG [tg] X.env).map (·.2)=[assign tg X.env]:=by rfl):PS X (.Assign [tg] e pos) (Zwq te g):=by
 intro pins s σ H D I h;refine wpAny_Assign_stores (thn (he pins s σ H _ I h) λv s1 ⟨x,H1,I1,r1,q1⟩=>?_) hs hw;rw[h1];exact thn (hg pins s1 σ H1 x v _ I1 r1 q1) λ_ s2 ⟨σ',H',I',q'⟩=>⟨σ',H',I',q'⟩
theorem ZnW{e:Expr}{te:TE}{pos':Pos}(hN:X.N.Nodup)(hi:X.N[i]?=Z x)(hx:Loc X.env.scope x)(he:PE X e te)(hs:ZBG e (Z (.Name x pos')) pos.line X.env=pure ZEO:=by rfl)(hf:X.fn x=ZEN\/X.env.scope.names.lookup x=Z .local:=by first | exact .inl rfl | exact .inr rfl | assumption) :
  PS X (.Assign [.Name x pos'] e pos) (Zwq te (ZuA i)):=by
 intro pins s σ H D I h;refine wpAny_Assign_Name (thn (he pins s σ H _ I h) λv s1 ⟨y,H1,I1,r1,q1⟩=>?_) hs;exact Zkk I1 hN hi hx r1 (λs2 I2=>⟨_,H1,I2,q1⟩) hf
end
section
variable{X:Cx}{pos:Pos}
def ZwF(c:TT)(tb:TS):TS:=λD σ H=>∃W:Nat->St->Hp->Prop,(∃m,W m σ H)/\∀m σ H,W m σ H ->
 c σ H λb H1=>if b=ZEN then ∃N:St->Hp->Prop,(∀σ' H',N σ' H'->∃m',m'<m/\W m' σ' H')/\tb { D with nx:=N,ct:=N,bk:=D.nx } σ H1 else D.nx σ H1
theorem Zum{body:List Stmt}{tc:TT}{tb:TS}(hp:PassesOwn (model X.prog X.w) X.A X.env X.xe)(hc:PT X c tc)(hb:PSs X body tb):PS X (.While c body [] pos) (ZwF tc tb):=by
 intro pins s σ H D I h;obtain⟨W,⟨m0,w0⟩,turn⟩:=h;refine wpAny_While (codeAny_whileLoop (λn s'=>∃σ' H',Inv X pins σ' H' s'/\W n σ' H') ?_ m0 ⟨σ,H,I,w0⟩)
 rintro n s1 ⟨σ1,H1,I1,w1⟩
 refine ZBI hp (thn (hc pins s1 σ1 H1 _ I1 (turn n σ1 H1 w1)) λb s2 ⟨H2,I2,q2⟩=>?_);cases b with
 | true =>
  obtain⟨N,hN,q2⟩:=q2;rw[if_pos rfl];refine ZBI hp (thn (hb pins s2 σ1 H2 _ I2 q2) λf s3 q3=>?_);cases f with
  | next=>obtain⟨σ3,H3,I3,n3⟩:=q3;obtain⟨m',hm,w3⟩:=hN σ3 H3 n3;exact⟨m',hm,σ3,H3,I3,w3⟩
  | cont=>obtain⟨σ3,H3,I3,n3⟩:=q3;obtain⟨m',hm,w3⟩:=hN σ3 H3 n3;exact⟨m',hm,σ3,H3,I3,w3⟩
  | brk=>exact q3
  | ret v=>exact q3
 | false=>rw[if_neg ZAi];exact ZCx ⟨σ1,H2,I2,q2⟩
end
structure It where
 go:Nat->Hp->Prop
 yld:Nat->Hp->V->Hp->Prop
 stop:Nat->Hp->Prop
def Zfw(X:Cx)(pins:List (Addr × Obj))(H:Hp)(b:Addr):Prop :=
 H b=Z_/\b≠X.env.locals/\b ∉ X.fs/\(b∈X.ex\/X.s₀.heap.objs.size<=b)/\(∀x c,X.env.cells.lookup x=Z c->c≠b)/\∀p∈X.pn++pins,p.1≠b
theorem Inv.fpOk{H':Hp}{b:Addr}(I:Inv X pins σ H s)(hb:s.heap.objs.size<=b)(hn:H' b=Z_):Zfw X pins H' b:=by
 refine⟨hn,ZCB (ZzZ I.lt hb),I.nofs hb,.inr (ZAn I.sz hb),λx c e z=>?_,λp hp z=>?_⟩
 ·obtain⟨v,q⟩:=I.cell x c e
  exact absurd (ZzZ q.lt (by rw[z]; exact hb)) (ZBb _)
 ·exact absurd (ZzZ (ZzO (I.pin p hp).1) (by rw[z]; exact hb)) (ZBb _)
structure Turn(P:Program)(w:World)(K:Zzx)(tg:Expr)(J:It)(fp:List Addr)(it:Addr)(tn:Nat->Heap->Prop):Prop where
 mem:it∈fp
 obj:∀i h,tn i h->∀b∈fp,∃o,h.get? b=Z o/\∀v,o.data≠.cell v
 keep:∀i h h',tn i h->(∀b∈fp,∀o,h.get? b=Z o->h'.get? b=Z o)->tn i h'
 item:∀(X:Cx),X.prog=P->X.w=w->X.K=K->X.calm=ZEN->∀(i:Nat) (pins:List (Addr × Obj)) (s:Shared) (σ:St) (H:Hp) (E:Value->Shared->Prop),Inv X pins σ H s->(∀b∈fp,Zfw X pins H b)->tn i s.heap->J.go i H ->
  wpAny (model P w) X.A (pyNext (.ref it)) (λr s1=>∃u,r=Z u /\
   wpAny (model P w) X.A (ZC7 tg (.ref it) u) (λ_ s2=>∃x H',Inv X pins σ H' s2/\RelV x u/\J.yld i H x H'/\tn (i+1) s2.heap/\∀b∈fp,H' b=Z_) E s1) E s
 done:∀(X:Cx),X.prog=P->X.w=w->X.K=K->X.calm=ZEN->∀(i:Nat) (pins:List (Addr × Obj)) (s:Shared) (σ:St) (H:Hp) (E:Value->Shared->Prop),Inv X pins σ H s->(∀b∈fp,Zfw X pins H b)->tn i s.heap->J.stop i H ->
  wpAny (model P w) X.A (pyNext (.ref it)) (λr s1=>r=Z_/\Inv X pins σ H s1) E s
 self:∀(A:Around) (i:Nat) (s:Shared) (Q:Value->Shared->Prop) (E:Value->Shared->Prop),tn i s.heap->Q (.ref it) s->wpAny (model P w) A (pyIter (.ref it)) Q E s
abbrev TI:=St->Hp->(It->Hp->Prop)->Prop
def PIE(X:Cx)(pins:List (Addr × Obj))(σ:St)(tg:Expr)(R:It->Hp->Prop)(itv:Value)(s2:Shared):Prop :=
 ∃(it:Addr) (fp:List Addr) (tn:Nat->Heap->Prop) (J:It) (H':Hp),itv=.ref it/\Inv X pins σ H' s2/\Turn X.prog X.w X.K tg J fp it tn/\tn 0 s2.heap/\(∀b∈fp,Zfw X pins H' b)/\R J H'
def PI(X:Cx)(tg iter:Expr)(wi:TI):Prop :=
 ∀(pins:List (Addr × Obj)) (s:Shared) (σ:St) (H:Hp) (R:It->Hp->Prop),Inv X pins σ H s->wi σ H R ->
  wpAny (model X.prog X.w) X.A (eval iter X.env) (λv s1=>wpAny (model X.prog X.w) X.A (pyIter v) (PIE X pins σ tg R) X.xe s1) X.xe s
theorem Zm5{M:Model}{A:Around}{it:Addr}{o:Obj}{n:String}{vs:Array Value}{Q:Unit->Shared->Prop}(ho:s.heap.get? it=Z o)(hc:o.cls=.type n)(hd:o.data=.fields vs)
    (hn:["enumerate","zip","dict_itemiterator","dict_reverseitemiterator","odict_iterator","itertools.zip_longest","itertools.pairwise"].contains n=ZEO) (hQ:Q () s):wpAny M A (ZC7 tg (.ref it) u) Q E s:=by
  unfold ZC7
  cases tg<;>first
    | exact Zzz hQ
    | (cases u<;>first
        | exact Zzz hQ
        | (refine Zzv (wpAny_load ho ?_)
           rw [hc, hd]
           show wpAny M A (if (["enumerate", "zip", "dict_itemiterator", "dict_reverseitemiterator", "odict_iterator", "itertools.zip_longest", "itertools.pairwise"].contains n && vs[0]? == Z (rawInt _)) = ZEN then _ else _) Q E s
           rw [if_neg (by intro h; rw [hn, Bool.false_and] at h; cases h)]
           exact Zzz hQ))
def Itl(K:Zzx)(a:Addr):It :=
 ⟨λi H=>∃xs x,SqL K H a xs/\xs[i]?=Z x,λi H x H'=>H'=H/\∀xs,SqL K H a xs->xs[i]?=Z x,λi H=>∃xs,SqL K H a xs/\xs.length<=i⟩
def Itt(K:Zzx)(a:Addr):It :=
 ⟨λi H=>∃xs x,SqT K H a xs/\xs[i]?=Z x,λi H x H'=>H'=H/\∀xs,SqT K H a xs->xs[i]?=Z x,λi H=>∃xs,SqT K H a xs/\xs.length<=i⟩
def Itr(lo:Int)(n:Nat):It:=⟨λi _=>i<n,λi H x H'=>H'=H/\x=.int (lo+i),λi _=>n<=i⟩
theorem ZsR(a it:Addr):Turn P w K tg (Itl K a) [it] it (λi h=>h.IsListIter it a i) where
 mem:=by simp
 obj:=λi h st b hb=>by
  have e:b=it:=by simpa using hb
  subst e;obtain⟨o,e,c,d⟩:=st;exact⟨o,e,λv z=>by rw[d]at z; cases z⟩
 keep:=λi h h' st k=>st.at λo e=>k it (by simp) o e
 item:=by intro X hP hw hK hc i pins s σ H E I hf st hg;subst hP hw hK;obtain⟨xs,x,hq,hx⟩:=hg;obtain⟨its,rv,p,hz⟩:=I.list hq;obtain⟨u,hu,ru⟩:=rv.get hx;obtain⟨f0,f1,f2,f3,f4,f5⟩:=hf it (by simp);refine wpAny_pyNext_list_item st p.isList (x:=u) (by simpa using hu) λh' st' sb=>?_;have I1:Inv X pins σ H { s with heap:=h' }:=I.turned (t':=s.toks) (λb o hb e=>(sb.2 b hb).trans e) f0 f1 f3 f4 f5;obtain⟨o,e,c,d⟩:=id st';exact⟨u,rfl,Zm5 (s:={ s with heap:=h' }) e c d (by decide) ⟨x,H,I1,ru,⟨rfl,λys hy=>by rw[I.list_inj hy hq]; exact hx⟩,st',λb hb=>(hf b hb).1⟩⟩
 done:=by intro X hP hw hK hc i pins s σ H E I hf st hg;subst hP hw hK;obtain⟨xs,hq,hx⟩:=hg;obtain⟨its,rv,p,hz⟩:=I.list hq;obtain⟨f0,f1,f2,f3,f4,f5⟩:=hf it (by simp);have hl:=rv.length;exact wpAny_pyNext_list_end (I.ok.hd hc) st p.isList (by simp; omega) λh' eb=>⟨rfl,I.turned (t':=s.toks) (λb o hb e=>eb b o hb e) f0 f1 f3 f4 f5⟩
 self:=λ_ _ _ _ _ st h=>wpAny_pyIter_listiter st h
theorem ZqR(a it:Addr):Turn P w K tg (Itt K a) [it] it (λi h=>h.IsTupleIter it a i) where
 mem:=by simp
 obj:=λi h st b hb=>by
  have e:b=it:=by simpa using hb
  subst e;obtain⟨o,e,c,d⟩:=st;exact⟨o,e,λv z=>by rw[d]at z; cases z⟩
 keep:=λi h h' st k=>st.at λo e=>k it (by simp) o e
 item:=by intro X hP hw hK hc i pins s σ H E I hf st hg;subst hP hw hK;obtain⟨xs,x,hq,hx⟩:=hg;obtain⟨its,rv,p,hz⟩:=I.tuple hq;obtain⟨u,hu,ru⟩:=rv.get hx;obtain⟨f0,f1,f2,f3,f4,f5⟩:=hf it (by simp);refine wpAny_pyNext_tuple_item st (show s.heap.IsTuple a its.toArray from p) (x:=u) (by simpa using hu) λh' st' sb=>?_;have I1:Inv X pins σ H { s with heap:=h' }:=I.turned (t':=s.toks) (λb o hb e=>(sb.2 b hb).trans e) f0 f1 f3 f4 f5;obtain⟨o,e,c,d⟩:=id st';exact⟨u,rfl,Zm5 (s:={ s with heap:=h' }) e c d (by decide) ⟨x,H,I1,ru,⟨rfl,λys hy=>by rw[I.tuple_inj hy hq]; exact hx⟩,st',λb hb=>(hf b hb).1⟩⟩
 done:=by intro X hP hw hK hc i pins s σ H E I hf st hg;subst hP hw hK;obtain⟨xs,hq,hx⟩:=hg;obtain⟨its,rv,p,hz⟩:=I.tuple hq;obtain⟨f0,f1,f2,f3,f4,f5⟩:=hf it (by simp);have hl:=rv.length;exact wpAny_pyNext_tuple_end (I.ok.hd hc) st (show s.heap.IsTuple a its.toArray from p) (by simp; omega) λh' eb=>⟨rfl,I.turned (t':=s.toks) (λb o hb e=>eb b o hb e) f0 f1 f3 f4 f5⟩
 self:=λ_ _ _ _ _ st h=>wpAny_pyIter_tupleiter st h
theorem Zry(it:Addr)(lo:Int)(n:Nat):Turn P w K tg (Itr lo n) [it] it (λi h=>IsRangeIter h it (lo+(i:Nat)*1) ((n:Int)-(i:Nat)) 1) where
 mem:=by simp
 obj:=λi h st b hb=>by
  have e:b=it:=by simpa using hb
  subst e;exact⟨_,st,λv z=>by have z':Data.fields _=Data.cell v:=z;cases z'⟩
 keep:=λi h h' st k=>k it (by simp) _ st
 item:=by intro X hP hw hK hc i pins s σ H E I hf st hg;subst hP hw hK;obtain⟨f0,f1,f2,f3,f4,f5⟩:=hf it (by simp);have W:=Walks.range (prog:=X.prog) (w:=X.w) (I.ok.hd hc) it lo 1 n;refine W.item i s _ _ hg st λv h' tk hv st' kk=>?_;obtain⟨t,rfl⟩:=hv;have I1:Inv X pins σ H { s with heap:=h',toks:=tk }:=I.turned (λb o hb e=>kk b o (by simpa using hb) e) f0 f1 f3 f4 f5;refine⟨_,rfl,Zm5 (s:={ s with heap:=h',toks:=tk }) (n:="range_iterator") st' rfl rfl (by decide) ⟨.int (lo+i),H,I1,⟨t,?_⟩,⟨rfl,rfl⟩,st',λb hb=>(hf b hb).1⟩⟩;rw[Int.mul_one]
 done:=by intro X hP hw hK hc i pins s σ H E I hf st hg;subst hP hw hK;obtain⟨f0,f1,f2,f3,f4,f5⟩:=hf it (by simp);exact wpAny_pyNext_range_end (I.ok.hd hc) st (by have:n<=i:=hg; omega) λh' eb=>⟨rfl,I.turned (t':=s.toks) (λb o hb e=>eb b o hb e) f0 f1 f3 f4 f5⟩
 self:=λ_ _ _ _ _ st h=>wpAny_pyIter_rangeiter st h
end L2
namespace L2
open PySem PySem.Spec PyProof.Rows
variable{h:Heap}{H:Hp}{pins:List (Addr × Obj)}{fp:List Addr}{pos:Pos}{s:Shared}{σ:St}
section
variable{X:Cx}{tg:Expr}
theorem ZtV{R:It->Hp->Prop}{E:Value->Shared->Prop}{lo hi:Int}{t u v:Tok}{tk:Nat}(I:Inv X pins σ H s)(h1:-(2 ^ 62)<=lo)(h2:lo<2 ^ 62)(h3:-(2 ^ 62)<=hi)(h4:hi<2 ^ 62)
  (q:R (Itr lo (hi-lo).toNat) H):wpAny (model X.prog X.w) X.A (pyIter (.ref s.heap.objs.size)) (PIE X pins σ tg R) E { s with heap:=s.heap.push { cls:=.type "range",data:=.fields #[.int lo t,.int hi u,.int 1 v] },toks:=tk }:=by
 refine wpAny_pyIter_range (IsRange.new ..) (small_one h1 h2 h3 h4) ?_;have I1:Inv X pins σ H { s with heap:=s.heap.push { cls:=.type "range",data:=.fields #[.int lo t,.int hi u,.int 1 v] },toks:=tk }:=I.kept λb o e=>ZzA _ e;refine⟨(s.heap.push { cls:=.type "range",data:=.fields #[.int lo t,.int hi u,.int 1 v] }).objs.size,[(s.heap.push { cls:=.type "range",data:=.fields #[.int lo t,.int hi u,.int 1 v] }).objs.size],_,_,H,rfl,
  I1.kept (t':=tk) λb o e=>ZzA _ e,Zry _ lo (hi-lo).toNat,?_,λb hb=>?_,q⟩
 ·have e1:lo+((0:Nat):Int)*1=lo:=by simp
  have e2:(((hi-lo).toNat:Nat):Int)-((0:Nat):Int)=ZB8 lo hi 1:=by rw[rangeSize_one]; split<;>omega
  show IsRangeIter _ _ (lo+((0:Nat):Int)*1) ((((hi-lo).toNat:Nat):Int)-((0:Nat):Int)) 1;rw[e1,e2];exact ZzP _ rfl
 ·have e:b=(s.heap.push { cls:=.type "range",data:=.fields #[.int lo t,.int hi u,.int 1 v] }).objs.size:=by simpa using hb
  subst e;exact I1.fpOk (ZzH _) (I1.hok.fresh (ZzH _))
def ZbL(ta:TA):TI:=λσ H R=>ta σ H λvs H1=>∃j:Int,vs=[.int j]/\-(2 ^ 62)<=j/\j<2 ^ 62/\R (Itr 0 j.toNat) H1
theorem ZrV{a:Expr}{ta:TA}{p:Pos}(hg:Gl X "range")(hm:X.mg "range" = Z_)(ha:PA X [a] ta)(hs:ZzC [a] X.env=[(ZEO,eval a X.env)]:=by rfl):PI X tg (.Call (.Name "range" p) [a] [] pos) (ZbL ta):=by
 intro pins s σ H R I h;refine Call_ (Zht I hg hm boot_range (ZCn (thn (ha pos pins s σ H _ I h) λus s1 ⟨vs,H1,I1,r1,q1⟩=>?_) hs rfl));obtain⟨j,e,q1,q2,q⟩:=q1;subst e;cases r1 with
 | cons r rr=>cases rr;obtain⟨t,rfl⟩:=r;exact call_range_1 (ZtV I1 (by omega) (by omega) q1 q2 (by simpa using q))
def ZyL(wi:TI)(g:TG)(tb:TS):TS:=λD σ H=>wi σ H λJ H1=>∃W:Nat->Nat->St->Hp->Prop,(∃m,W 0 m σ H1)/\∀i m σ H,W i m σ H ->
 (J.stop i H/\D.nx σ H)\/(J.go i H/\∃N:St->Hp->Prop,(∀σ' H',N σ' H'->∃m',m'<m/\W (i+1) m' σ' H')/\∀x H',J.yld i H x H'->g x σ H' λσ2 H2=>tb { D with nx:=N,ct:=N,bk:=D.nx } σ2 H2)
def Zi5(fp:List Addr)(h:Heap):List (Addr × Obj):=fp.filterMap λb=>(h.get? b).map λo=>(b,o)
theorem ZfQ{b:Addr}{o:Obj}(hb:b∈fp)(e:h.get? b=Z o):(b,o)∈Zi5 fp h:=ZAu.mpr ⟨b,hb,by rw[e]; rfl⟩
theorem ZsI{p:Addr × Obj}(hp:p∈Zi5 fp h):p.1∈fp/\h.get? p.1=Z p.2:=by
 obtain⟨b,hb,e⟩:=ZAu.mp hp;cases q:h.get? b with
 | none=>rw[q]at e; cases e
 | some o=>rw[q]at e;have e':(b,o)=p:=ZAl e;subst e';exact⟨hb,q⟩
theorem Inv.pinned(I:Inv X pins σ H s)(hf:∀b∈fp,Zfw X pins H b)(ho:∀b∈fp,∃o,s.heap.get? b=Z o/\∀v,o.data≠.cell v):Inv X (pins++Zi5 fp s.heap) σ H s :=
 I.pins_of λp hp=>(Zz3.mp hp).elim (λz=>I.pin p (ZzX _ z)) λz=>by obtain⟨hb,e⟩:=ZsI z;obtain⟨f0,f1,f2,_⟩:=hf p.1 hb;obtain⟨o,e',d⟩:=ho p.1 hb;rw[e]at e'; cases e';exact⟨e,f0,f1,f2,d⟩
theorem Inv.unpinned{pl:List (Addr × Obj)}(I:Inv X (pins++pl) σ H s):Inv X pins σ H s:=I.pins_of λp hp=>I.pin p (ZzX _ (ZAC _ hp))
theorem Zxd{iter:Expr}{body:List Stmt}{wi:TI}{g:TG}{tb:TS}(hp:PassesOwn (model X.prog X.w) X.A X.env X.xe)(hc:X.calm=ZEN)(hi:PI X tg iter wi)(hg:PG X tg g)(hb:PSs X body tb)
  (hs:∀x,ZBd iter X.env x=pure x:=by intro _; rfl):PS X (.For tg iter body [] pos) (ZyL wi g tb):=by
 intro pins s σ H D I h;refine wpAny_For (thn (hi pins s σ H _ I h) λv s1 h1=>thn h1 λitv s2 h2=>?_) hs;obtain⟨it,fp,tn,J,H2,e,I2,T,st2,f2,W,⟨m0,w0⟩,turn⟩:=h2;subst e;have stat:∀{H':Hp},(∀b∈fp,H' b=Z_)->∀b∈fp,Zfw X pins H' b:=λhn b hb=>⟨hn b hb,(f2 b hb).2⟩;refine codeAny_forLoop_any (λn s'=>∃i σ' H',Inv X pins σ' H' s'/\tn i s'.heap/\(∀b∈fp,H' b=Z_)/\W i n σ' H') ?_ m0 ⟨0,σ,H2,I2,st2,λb hb=>(f2 b hb).1,w0⟩
 rintro n s3 ⟨i,σ3,H3,I3,st3,fr3,w3⟩
 rcases turn i n σ3 H3 w3 with⟨stop,qn⟩ | ⟨go,N,hN,step⟩
 ·refine ZBI hp (thn (T.done X rfl rfl rfl hc i pins s3 σ3 H3 X.xe I3 (stat fr3) st3 stop) λr s4 ⟨hr,I4⟩=>?_)
  subst hr;exact ZCx ⟨σ3,H3,I4,qn⟩
 ·refine ZBI hp (thn (T.item X rfl rfl rfl hc i pins s3 σ3 H3 X.xe I3 (stat fr3) st3 go) λr s4 ⟨u,hr,h4⟩=>?_)
  subst hr;refine ZBI hp (thn h4 λ_ s5 ⟨x,H5,I5,r5,y5,st5,fr5⟩=>?_);have I5':=I5.pinned (stat fr5) (T.obj _ _ st5);refine ZBI hp (thn (hg _ s5 σ3 H5 x u _ I5' r5 (step x H5 y5)) λ_ s6 ⟨σ6,H6,I6,q6⟩=>?_);refine ZBI hp (thn (hb _ s6 σ6 H6 _ I6 q6) λf s7 q7=>?_);have again:∀{σ7:St} {H7:Hp},Inv X (pins++Zi5 fp s5.heap) σ7 H7 s7->N σ7 H7->∃m,m<n/\∃i σ' H',Inv X pins σ' H' s7/\tn i s7.heap/\(∀b∈fp,H' b=Z_)/\W i m σ' H':=λ{σ7 H7} I7 n7=>by obtain⟨m',hm,w7⟩:=hN σ7 H7 n7;refine⟨m',hm,i+1,σ7,H7,I7.unpinned,T.keep _ _ _ st5 λb hb o e=>(I7.pin (b,o) (ZzX _ (ZzX _ (ZfQ hb e)))).1,λb hb=>?_,w7⟩;obtain⟨o,e,d⟩:=T.obj _ _ st5 b hb;exact(I7.pin (b,o) (ZzX _ (ZzX _ (ZfQ hb e)))).2.1
  cases f with
  | next=>obtain⟨σ7,H7,I7,n7⟩:=q7; exact again I7 n7
  | cont=>obtain⟨σ7,H7,I7,n7⟩:=q7; exact again I7 n7
  | brk=>obtain⟨σ7,H7,I7,q7⟩:=q7; exact⟨σ7,H7,I7.unpinned,q7⟩
  | ret v=>obtain⟨x7,σ7,H7,I7,r7,q7⟩:=q7; exact⟨x7,σ7,H7,I7.unpinned,r7,q7⟩
end
end L2
namespace L2
open PySem PySem.Spec PyProof.Rows
variable{H:Hp}{g:Int->Int->Int}{pins:List (Addr × Obj)}{us:List Value}{s:Shared}{σ:St}{x:V}
abbrev R2:=V->V->Hp->VK->Prop
def OpR(X:Cx)(f:Value->Value->Sem Value)(r:R2):Prop :=
 ∀(pins:List (Addr × Obj)) (s:Shared) (σ:St) (H:Hp) (x y:V) (v u:Value) (Q:VK),Inv X pins σ H s->RelV x v->RelV y u->r x y H Q ->
  wpAny (model X.prog X.w) X.A (f v u) (EP X pins σ Q) X.xe s
def ZaQ(X:Cx)(f:Value)(r:List V->Hp->VK->Prop):Prop :=
 ∀(pins:List (Addr × Obj)) (s:Shared) (σ:St) (H:Hp) (xs:List V) (us:List Value) (Q:VK),Inv X pins σ H s->Vals xs us->r xs H Q ->
  wpAny (model X.prog X.w) X.A (call f us) (EP X pins σ Q) X.xe s
def tOp(r:R2)(ta tb:TE):TE:=λσ H Q=>ta σ H λx H1=>tb σ H1 λy H2=>r x y H2 Q
def rI(C:Int->Int->Prop)(g:Int->Int->V):R2:=λx y H Q=>∃i j,x=.int i/\y=.int j/\C i j/\Q (g i j) H
def rI0(g:Int->Int->V):R2:=λx y H Q=>∃i j,x=.int i/\y=.int j/\Q (g i j) H
section
variable{X:Cx}{a b c:Expr}{ta tb tc:TE}{pos:Pos}
theorem ZtW(ha:PE X a ta)(hb:PE X b tb){R:V->V->Hp->Prop}(I:Inv X pins σ H s)
  (h:ta σ H λx H1=>tb σ H1 λy H2=>R x y H2) {Q:Value->Shared->Prop} {f:Value->Value->Sem Value}
  (hf:∀v u s2 x y H2,Inv X pins σ H2 s2->RelV x v->RelV y u->R x y H2->wpAny (model X.prog X.w) X.A (f v u) Q X.xe s2) :
  wpAny (model X.prog X.w) X.A (eval a X.env) (λv s₁=>wpAny (model X.prog X.w) X.A (eval b X.env) (λu s₂=>wpAny (model X.prog X.w) X.A (f v u) Q X.xe s₂) X.xe s₁) X.xe s:=by
 refine thn (ha pins s σ H _ I h) λv s1 ⟨x,H1,I1,r1,q1⟩=>?_;refine thn (hb pins s1 σ H1 _ I1 q1) λu s2 ⟨y,H2,I2,r2,q2⟩=>?_;exact hf v u s2 x y H2 I2 r1 r2 q2
theorem ZjB{op:Operator}{r:R2}(ho:OpR X (ZBL op) r)(ha:PE X a ta)(hb:PE X b tb):PE X (.BinOp a op b pos) (tOp r ta tb):=by intro pins s σ H Q I h;exact wpAny_BinOp (ZtW ha hb I h λv u s2 x y H2 I2 rx ry q=>ho pins s2 σ H2 x y v u Q I2 rx ry q)
theorem opI{f:Value->Value->Sem Value}{C:Int->Int->Prop}
  (rule:∀(i j:Int) (t u:Tok) (s:Shared) (Q:Value->Shared->Prop) (E:Value->Shared->Prop),C i j->Q (.int (g i j) s.toks) { s with toks:=s.toks+1 }->wpAny (model X.prog X.w) X.A (f (.int i t) (.int j u)) Q E s) :
  OpR X f (rI C λi j=>.int (g i j)):=by
 intro pins s σ H x y v u Q I rx ry h;obtain⟨i,j,rfl,rfl,hc,q⟩:=h;obtain⟨t,rfl⟩:=rx;obtain⟨t',rfl⟩:=ry;exact rule i j t t' s _ _ hc ⟨.int (g i j),H,I.tok _,⟨_,rfl⟩,q⟩
theorem ZwW{f:Value->Value->Sem Value}
  (rule:∀(i j:Int) (t u:Tok) (s:Shared) (Q:Value->Shared->Prop) (E:Value->Shared->Prop),Q (.int (g i j) s.toks) { s with toks:=s.toks+1 }->wpAny (model X.prog X.w) X.A (f (.int i t) (.int j u)) Q E s) :
  OpR X f (rI0 λi j=>.int (g i j)):=by
 intro pins s σ H x y v u Q I rx ry h;obtain⟨i,j,rfl,rfl,q⟩:=h;obtain⟨t,rfl⟩:=rx;obtain⟨t',rfl⟩:=ry;exact rule i j t t' s _ _ ⟨.int (g i j),H,I.tok _,⟨_,rfl⟩,q⟩
theorem Ztf{f:Value->Value->Sem Value}{g:Int->Int->Bool}
  (rule:∀(i j:Int) (t u:Tok) (s:Shared) (Q:Value->Shared->Prop) (E:Value->Shared->Prop),Q (.bool (g i j)) s->wpAny (model X.prog X.w) X.A (f (.int i t) (.int j u)) Q E s) :
  OpR X f (rI0 λi j=>.bl (g i j)):=by
 intro pins s σ H x y v u Q I rx ry h;obtain⟨i,j,rfl,rfl,q⟩:=h;obtain⟨t,rfl⟩:=rx;obtain⟨t',rfl⟩:=ry;exact rule i j t t' s _ _ ⟨.bl (g i j),H,I,rfl,q⟩
def Zrb(i j:Int):Prop:=(-(2 ^ 64)<i/\i<2 ^ 64)\/(-(2 ^ 64)<j/\j<2 ^ 64)
theorem Zrb.ok{i j:Int}(h:Zrb i j):IntMulOk i j:=by
 rcases h with⟨h1,h2⟩ | ⟨h1,h2⟩
 ·exact .of_left (intBits_le_64 h1 h2)
 ·exact .of_right (intBits_le_64 h1 h2)
theorem Zw1:OpR X (ZBL .Add) (rI0 λi j=>.int (i+j)):=ZwW λ_ _ _ _ _ _ _ q=>add_int q
theorem ZxB:OpR X (ZBL .Sub) (rI0 λi j=>.int (i-j)):=ZwW λ_ _ _ _ _ _ _ q=>sub_int q
theorem Zv8:OpR X (ZBL .Mult) (rI Zrb λi j=>.int (i*j)):=opI λ_ _ _ _ _ _ _ hc q=>mul_int q hc.ok
theorem ZwO:OpR X (ZBL .Mod) (rI (λ_ j=>0<j) λi j=>.int (i % j)):=opI λi j _ _ _ _ _ hc q=>by have h1:(0:Int)<j:=hc;exact mod_int' (by omega) (by rw[Int.fmod_eq_emod_of_nonneg i (by omega)]; exact q)
end
section
variable{X:Cx}{a b c:Expr}{ta tb tc:TE}{pos:Pos}
theorem ZrP{Q:VK}{k k':Bool}(I:Inv X pins σ H s)(q:Q (.bl k) H)(e:k=k'):EP X pins σ Q (.bool k') s:=by subst e;exact⟨.bl k,H,I,rfl,q⟩
theorem Zyc:OpR X (ZAU .Lt) (rI0 λi j=>.bl (decide (i<j))):=Ztf λ_ _ _ _ _ _ _ q=>lt_int q
theorem Zx8:OpR X (ZAU .LtE) (rI0 λi j=>.bl (decide (i<=j))):=Ztf λ_ _ _ _ _ _ _ q=>le_int q
theorem ZxK:OpR X (ZAU .Gt) (rI0 λi j=>.bl (decide (j<i))):=Ztf λ_ _ _ _ _ _ _ q=>gt_int q
theorem Zxh:OpR X (ZAU .Is) (λx y H Q=>y=.non/\Q (.bl (decide (x=.non))) H):=by
 intro pins s σ H x y v u Q I rx ry h;obtain⟨rfl,q⟩:=h;cases ry;refine is_none_gen (ZrP I q ?_);cases x<;>first
  | (cases rx; rfl)
  | (obtain⟨t,rfl⟩:=rx; rfl)
theorem Zvl:OpR X (ZAU .IsNot) (λx y H Q=>y=.non/\Q (.bl (!decide (x=.non))) H):=by
 intro pins s σ H x y v u Q I rx ry h;obtain⟨rfl,q⟩:=h;cases ry;refine isnot_none_gen (ZrP I q ?_);cases x<;>first
  | (cases rx; rfl)
  | (obtain⟨t,rfl⟩:=rx; rfl)
theorem Zqn{op:CmpOp}{r:R2}(ho:OpR X (ZAU op) r)(ha:PE X a ta)(hb:PE X b tb)(hm:ZBz op b=ZEO):PE X (.Compare a [op] [b] pos) (tOp r ta tb):=by intro pins s σ H Q I h;exact wpAny_Compare1 (ZtW ha hb I h λv u s2 x y H2 I2 rx ry q=>ho pins s2 σ H2 x y v u Q I2 rx ry q) hm
def Zx7(t:TE):TT:=λσ H Q=>t σ H λx H'=>∃k,x=.bl k/\Q k H'
theorem ZuY{op:CmpOp}{r:R2}(ho:OpR X (ZAU op) r)(ha:PE X a ta)(hb:PE X b tb)(hm:ZBz op b=ZEO):PT X (.Compare a [op] [b] pos) (Zx7 (tOp r ta tb)):=by intro pins s σ H Q I h;refine wpAny_isTrue_Compare1 (thn (ha pins s σ H _ I h) λv s1 ⟨x,H1,I1,r1,q1⟩=>thn (hb pins s1 σ H1 _ I1 q1) λu s2 ⟨y,H2,I2,r2,q2⟩=>thn (ho pins s2 σ H2 x y v u _ I2 r1 r2 q2) λc s3 ⟨z,H3,I3,r3,k,e,q3⟩=>?_) hm;subst e;cases r3;exact ZBw ⟨H3,I3,q3⟩
def ZwT(r r':R2)(ta tb tc:TE):TE:=λσ H Q=>ta σ H λx H1=>tb σ H1 λy H2=>r x y H2 λz H3=>∃k,z=.bl k /\
 (if k=ZEN then tc σ H3 λw' H4=>r' y w' H4 Q else Q (.bl ZEO) H3)
theorem ZoJ{op op':CmpOp}{r r':R2}(ho:OpR X (ZAU op) r)(ho':OpR X (ZAU op') r')(ha:PE X a ta)(hb:PE X b tb)(hc:PE X c tc)
  (hm:lastMarks [op,op'] [b,c]=ZEO:=by with_unfolding_all rfl):PE X (.Compare a [op,op'] [b,c] pos) (ZwT r r' ta tb tc):=by
 intro pins s σ H Q I h;refine Compare_chain (thn (ha pins s σ H _ I h) λv s1 ⟨x,H1,I1,r1,q1⟩=>chain_link (thn (hb pins s1 σ H1 _ I1 q1) λu s2 ⟨y,H2,I2,r2,q2⟩=>thn (ho pins s2 σ H2 x y v u _ I2 r1 r2 q2) λd s3 ⟨z,H3,I3,r3,k,e,q3⟩=>?_)) hm;subst e;cases r3;refine ZBw ?_;cases k with
 | false=>exact ite_ff ⟨.bl ZEO,H3,I3,rfl,q3⟩
 | true=>exact ite_tt (chain_last (thn (hc pins s3 σ H3 _ I3 q3) λw' s4 ⟨z',H4,I4,r4,q4⟩=>ho' pins s4 σ H4 y z' u w' Q I4 r2 r4 q4))
theorem Zi0:(sizeLine:Nat)<2 ^ 63:=by rw[ZAS]; decide
theorem vals1(r:Vals [x] us):∃u,us=[u]/\RelV x u:=by
 cases r with
 | cons r1 r2=>cases r2; exact⟨_,rfl,r1⟩
theorem vals2{y:V}(r:Vals [x,y] us):∃u w',us=[u,w']/\RelV x u/\RelV y w':=by
 cases r with
 | cons r1 r2 =>
  cases r2 with
  | cons r3 r4=>cases r4; exact⟨_,_,rfl,r1,r3⟩
theorem ZsK(hc:X.calm=ZEN):ZaQ X (.builtin "max") (λxs H Q=>∃i j,xs=[.int i,.int j]/\Q (.int (if j > i then j else i)) H):=by
 intro pins s σ H xs us Q I r h;obtain⟨i,j,rfl,q⟩:=h;obtain⟨u,w',rfl,⟨t,rfl⟩,⟨t',rfl⟩⟩:=vals2 r;refine max_two_ints (I.ok.hd hc) λh' tk k=>⟨_,H,I.kept k,?_,q⟩
 by_cases hj:j > i
 ·rw[if_pos hj,if_pos hj]; exact⟨_,rfl⟩
 ·rw[if_neg hj,if_neg hj]; exact⟨_,rfl⟩
theorem Zsb(hc:X.calm=ZEN):ZaQ X (.builtin "min") (λxs H Q=>∃i j,xs=[.int i,.int j]/\Q (.int (if j<i then j else i)) H):=by
 intro pins s σ H xs us Q I r h;obtain⟨i,j,rfl,q⟩:=h;obtain⟨u,w',rfl,⟨t,rfl⟩,⟨t',rfl⟩⟩:=vals2 r;refine min_two_ints (I.ok.hd hc) λh' tk k=>⟨_,H,I.kept k,?_,q⟩
 by_cases hj:j<i
 ·rw[if_pos hj,if_pos hj]; exact⟨_,rfl⟩
 ·rw[if_neg hj,if_neg hj]; exact⟨_,rfl⟩
theorem Zma:ZaQ X (.type "int") (λxs H Q=>(∃i,xs=[.int i]/\Q (.int i) H)\/∃k,xs=[.bl k]/\Q (.int (if k then 1 else 0)) H):=by
 intro pins s σ H xs us Q I r h;rcases h with⟨i,rfl,q⟩ | ⟨k,rfl,q⟩
 ·obtain⟨u,rfl,t,rfl⟩:=vals1 r
  exact call_int_int ⟨.int i,H,I,⟨_,rfl⟩,q⟩
 ·obtain⟨u,rfl,r1⟩:=vals1 r
  cases r1;exact call_int_bool ⟨.int (if k then 1 else 0),H,I.tok _,⟨_,rfl⟩,q⟩
end
end L2
namespace L2
open PySem PySem.Spec PyProof.Rows
theorem Zfz.some_of{v:V}{o:Option Value}(r:Zfz (Z v) o):∃u,o=Z u/\RelV v u:=by
 cases o with
 | none=>exact(show False from r).elim
 | some u=>exact⟨u,rfl,r⟩
end L2
namespace L2
open PySem PySem.Spec PyProof.Rows
variable{f:Addr}{base:Heap}{H:Hp}{ps:List Str}{vs:List V}{us:List Value}{P:Program}{K:Zzx}{scope:Scope}{s:Shared}{qual:Str}{mg:Str->Option Value}{w:World}
structure Z9(k:Nat)(A:Around):Prop where
 hd:A.handled=Z_
 dp:A.depth+3*k+5<recursionLimit
 un:A.units+16*k+200<cLine
theorem Z9.mono{j k:Nat}{A:Around}(r:Z9 k A)(h:j<=k):Z9 j A:=⟨r.hd,by have:=r.dp; omega,by have:=r.un; omega⟩
theorem Z9.deeper{k:Nat}{A:Around}(r:Z9 (k+1) A)(env:Env):Z9 k (A.deeper env) :=
 ⟨r.hd,by have:=r.dp; show A.depth+1+3*k+5<_; omega,by have:=r.un; show A.units+3+16*k+200<_; omega⟩
theorem Z9.depth{k:Nat}{A:Around}(r:Z9 k A):A.depth<recursionLimit:=by have:=r.dp; omega
theorem Z9.units{k:Nat}{A:Around}(r:Z9 k A):A.units+64<cLine:=by have:=r.un; omega
def ZyS:TA:=λ_ H Q=>Q [] H
def Zya(ta:TE)(tr:TA):TA:=λσ H Q=>ta σ H λx H1=>tr σ H1 λxs H2=>Q (x::xs) H2
section
variable{X:Cx}{e:Expr}{es:List Expr}{te:TE}{t:TA}{pos:Pos}
theorem ZbJ:PA X [] ZyS:=λ_ _ _ _ H Q I h=>ZDC ⟨[],H,I,.nil,h⟩
theorem Zaa(ha:PE X e te)(hr:PA X es t)(hs:ZzC (e::es) X.env=(ZEO,eval e X.env)::ZzC es X.env:=by rfl):PA X (e::es) (Zya te t):=by intro pos pins s σ H Q I h;rw[hs];show wpAny _ _ (spliced ((ZEO,eval e X.env)::backTo pos (ZzC es X.env))) _ _ s;refine ZCC (thn (ha pins s σ H _ I h) λu s1 ⟨x,H1,I1,r1,q1⟩=>?_);exact thn (hr pos pins s1 σ H1 _ I1 q1) λus s2 ⟨xs,H2,I2,r2,q2⟩=>⟨x::xs,H2,I2,.cons r1 r2,q2⟩
def Zy6(t:TA):TE:=λσ H Q=>t σ H λxs H1=>xs.length<=sizeLine/\∀p,H1 p=Z_->Q (.ref p) (upd H1 p (.tup xs))
def ZyP(t:TA):TE:=λσ H Q=>t σ H λxs H1=>xs.length<=sizeLine/\∀p,H1 p=Z_->Q (.ref p) (upd H1 p (.lst xs))
theorem ZwD{x1}(h:PA X es t):PE X (.Tuple es x1 pos) (Zy6 t):=by intro pins s σ H Q I hq;refine wpAny_Tuple_spliced (thn (h pos pins s σ H _ I hq) λus s1 ⟨xs,H1,I1,r,z,q⟩=>⟨by rw[<-r.length]; exact z,?_⟩);have hf:H1 s1.heap.objs.size=Z_:=I1.hok.fresh (ZzH _);refine⟨.ref s1.heap.objs.size,upd H1 s1.heap.objs.size (.tup xs),I1.laid (t':=s1.toks) (λb u e=>ZzA _ e) (ZzH _) ?_,rfl,q _ hf⟩;exact⟨z,us,r,⟨_,ZzP _ rfl,rfl,_,rfl⟩⟩
theorem Zsf(h:PA X es t):PE X (.List es pos) (ZyP t):=by intro pins s σ H Q I hq;refine wpAny_List_spliced (thn (h pos pins s σ H _ I hq) λus s1 ⟨xs,H1,I1,r,z,q⟩=>⟨by rw[<-r.length]; exact z,?_⟩);have hf:H1 s1.heap.objs.size=Z_:=I1.hok.fresh (ZzH _);refine⟨.ref s1.heap.objs.size,upd H1 s1.heap.objs.size (.lst xs),I1.laid (t':=s1.toks) (λb u e=>ZzA _ e) (ZzH _) ?_,rfl,q _ hf⟩;exact⟨z,us,0,r,ZzP _ rfl⟩
end
abbrev Sp:=List V->Hp->VK->XK->Prop
abbrev CXT:=List Env->Hp->Shared->XK->Value->Shared->Prop
structure ZeJ(P:Program)(w:World)(K:Zzx)(mg:Str->Option Value)(base:Heap)(A:Around)(outer:List Env)(s:Shared)(H:Hp):Prop where
 frames:A.frames=Z outer
 mod:Mod K mg base
 bs:∀b o,base.get? b=Z o->s.heap.get? b=Z o/\H b=Z_
 bsz:base.objs.size<=s.heap.objs.size
 funs:s.heap.FunFrames base outer
 frf:∀b∈frs outer,H b=Z_
 hok:HOk P w H s.heap
 bare:AllBare s.gens
def CE(outer:List Env)(P:Program)(w:World)(H:Hp)(s:Shared)(Q:VK)(u:Value)(s':Shared):Prop :=
 ∃v H',s'.os=s.os/\AllBare s'.gens/\Un (frs outer) [] H H' s.heap s'.heap/\HOk P w H' s'.heap/\RelV v u/\Q v H'
def CR(CX:CXT)(outer:List Env)(P:Program)(w:World)(H:Hp)(s:Shared)(Q:VK)(E:XK)(r:Result)(s':Shared):Prop :=
 match r with
 | .ok (.ret u)=>CE outer P w H s Q u s'
 | .ok _=>False
 | .error e=>CX outer H s E e s'
structure ZcY(P:Program)(w:World)(K:Zzx)(mg:Str->Option Value)(base:Heap)(CX:CXT)(k:Nat)(f:Addr)(fd:FuncData)(ps:List Str)(sp:Sp):Prop where
 len:∀vs H Q E,sp vs H Q E->vs.length=ps.length
 run:∀(A:Around) (outer:List Env) (s:Shared) (H:Hp) (args:Args) (us:List Value) (vs:List V) (Q:VK) (E:XK),Z9 k A->ZeJ P w K mg base A outer s H->BindsTo s fd args (ps.zip us)->Vals vs us->sp vs H Q E ->
  codeAny (model P w) A (.call (.ref f) args) (CR CX outer P w H s Q E) s
theorem ZcY.mono{P:Program}{w:World}{K:Zzx}{mg:Str->Option Value}{base:Heap}{CX:CXT}{j k:Nat}{f:Addr}{fd:FuncData}{ps:List Str}{sp:Sp}(F:ZcY P w K mg base CX j f fd ps sp)(h:j<=k) :
  ZcY P w K mg base CX k f fd ps sp:=⟨F.len,λA outer s H args us vs Q E hr=>F.run A outer s H args us vs Q E (hr.mono h)⟩
section
variable{X:Cx}{pins:List (Addr × Obj)}{σ:St}{H:Hp}{s s':Shared}
theorem Inv.env0(I:Inv X pins σ H s):ZeJ X.prog X.w X.K X.mg X.base X.A X.stack s H :=
 ⟨I.ok.frames,I.ok.mod,I.bs,ZAn I.ok.bsz I.sz,I.stack,I.stkFree,I.hok,I.bare⟩
theorem Inv.after{Q:VK}{u:Value}(I:Inv X pins σ H s)(h:CE X.stack X.prog X.w H s Q u s'):EP X pins σ Q u s':=by obtain⟨v,H',os,bare,un,hok,r,q⟩:=h;obtain⟨hh,g,d,t,os'⟩:=s';obtain rfl:os'=s.os:=os;exact⟨v,H',I.call (h':=hh) (g':=g) (d':=d) (t':=t) (ch:=[]) un hok bare (λb z=>absurd z (by simp)),r,q⟩
end
noncomputable def Zx1 (sp:Sp) (dvs:List V) (E:XK) (t:TA):TE:=λσ H Q=>t σ H λvs H1=>sp (vs++dvs) H1 Q E
def Binds(K:Zzx)(fd:FuncData)(ps:List Str)(ds:List Value):Prop :=
 ∀(s:Shared) (us:List Value),K.In s.heap->(us++ds).length=ps.length->BindsTo s fd ⟨us,[]⟩ (ps.zip (us++ds))
theorem Binds.all{fd:FuncData}(h:∀us:List Value,us.length=ps.length->bindArgs fd ⟨us,[]⟩=pure (ps.zip us)):Binds K fd ps []:=λs us _ hl=>by rw[ZAe]at hl ⊢;exact .of_eq (h us hl)
def Passes(CX:CXT)(X:Cx)(E:XK):Prop:=∀(pins:List (Addr × Obj)) (σ:St) (H:Hp) (s:Shared) (e:Value) (s':Shared),Inv X pins σ H s->CX X.stack H s E e s'->X.xe e s'
section
variable{X:Cx}{CX:CXT}{k:Nat}{f C:Addr}{fd:FuncData}{ps:List Str}{sp:Sp}{dvs:List V}{ds:List Value}{E:XK}{x m:Str}{p pos apos:Pos}{e o:Expr}{es:List Expr}{ta:TE}{t:TA}
theorem Zw3{pins:List (Addr × Obj)}{σ:St}{Q:VK}(F:ZcY X.prog X.w X.K X.mg X.base CX k f fd ps sp)(hr:Z9 k X.A)(hb:Binds X.K fd ps ds)(hd:Vals dvs ds)(hx:Passes CX X E)
  (I:Inv X pins σ H s) (r:Vals vs us) (h:sp (vs++dvs) H Q E):wpAny (model X.prog X.w) X.A (call (.ref f) us) (EP X pins σ Q) X.xe s:=by
 have r2:Vals (vs++dvs) (us++ds):=r.append hd;have hl:(us++ds).length=ps.length:=by rw[<-r2.length]; exact F.len _ _ _ _ h
 refine ZDH (ZBp (F.run X.A X.stack s H ⟨us,[]⟩ (us++ds) (vs++dvs) Q E hr I.env0 (hb s us I.kIn hl) r2 h) λr s' hq=>?_);cases r with
 | error e=>exact hx pins σ H s e s' I hq
 | ok fl =>
  cases fl with
  | ret u=>exact I.after hq
  | next=>exact ZAp hq
  | brk=>exact ZAp hq
  | cont=>exact ZAp hq
theorem Zjt(F:ZcY X.prog X.w X.K X.mg X.base CX k f fd ps sp)(hr:Z9 k X.A)(hg:Gl X x)(hm:X.mg x=Z (.ref f))(hk:ZAP X.K (.ref f)=ZEN)(hb:Binds X.K fd ps ds)(hd:Vals dvs ds)(hx:Passes CX X E)
  (ha:PA X (e::es) t) (hdb:(x==("__debug__":Str))=ZEO:=by decide) (he:ZzC (e::es) X.env=(ZEO,eval e X.env)::ZzC es X.env:=by rfl) (hpl:(backTo pos (ZzC es X.env)).any (·.1)=ZEO:=by rfl) :
  PE X (.Call (.Name x p) (e::es) [] pos) (Zx1 sp dvs E t):=by
 intro pins s σ H Q I h;refine ZBm (Zhz I hg hm ?_ hdb);refine ZEG (h₀:=X.base) I.ok.mod.kin hk (thn (ha pos pins s σ H _ I h) λus s1 ⟨vs,H1,I1,r,q⟩=>⟨I1.kIn,?_⟩) he hpl;exact Zw3 F hr hb hd hx I1 r q
end
structure Zt(N P:List Str)(sc:Scope):Prop where
 kind:sc.kind=.function
 co:sc.isCoroutine=ZEO
 gen:sc.isGenerator=ZEO
 nd:N.Nodup
 pre:N.take P.length=P
 par:∀x∈P,sc.names.lookup x=Z .local\/sc.names.lookup x=Z .cell
 nofree:∀y∈sc.names,y.2≠.free
theorem Zmo{kindOf:Str->Option NameKind}{x:Str}:∀{binds:List (Str × Value)} {m:Str->Option Value},(∀v,(x,v) ∉ binds)->bindL kindOf binds m x=m x
 | [],_,_=>rfl
 | (n,v)::r,m,h=>by
  unfold bindL;rw[Zmo λw hw=>h w (ZzD _ hw)];split
  ·have:x≠n:=by rintro rfl; exact h v ZzB
   simp[this]
  ·rfl
theorem Zmx{kindOf:Str->Option NameKind}{x:Str}:∀{binds:List (Str × Value)} {m:Str->Option Value},(∀v,(x,v) ∉ binds)->bindC kindOf binds m x=m x
 | [],_,_=>rfl
 | (n,v)::r,m,h=>by
  unfold bindC;rw[Zmx λw hw=>h w (ZzD _ hw)];split
  ·rfl
  ·have:x≠n:=by rintro rfl; exact h v ZzB
   simp[this]
theorem Zmn{kindOf:Str->Option NameKind}{x:Str}{v:Value}:∀{P:List Str} {vs:List Value} {i:Nat} {m:Str->Option Value},P.Nodup->P[i]?=Z x->vs[i]?=Z v->kindOf x=Z .local ->
  bindL kindOf (P.zip vs) m x=Z v
 | [],_,_,_,_,h,_,_=>by simp at h
 | _::_,[],_,_,_,_,h,_=>by simp at h
 | p::P,w::vs,0,m,nd,h1,h2,hk=>by simp at h1 h2; subst h1; subst h2;show bindL kindOf ((p,w)::P.zip vs) m p=_;unfold bindL;rw[Zmo λv hv=>(ZAm.mp nd).1 (ZD8 hv).1,if_pos hk];simp
 | p::P,w::vs,i+1,m,nd,h1,h2,hk=>by show bindL kindOf ((p,w)::P.zip vs) m x=_;unfold bindL;exact Zmn (i:=i) (ZAm.mp nd).2 (by simpa using h1) (by simpa using h2) hk
theorem Zl4{kindOf:Str->Option NameKind}{x:Str}{v:Value}:∀{P:List Str} {vs:List Value} {i:Nat} {m:Str->Option Value},P.Nodup->P[i]?=Z x->vs[i]?=Z v->kindOf x≠Z .local ->
  bindC kindOf (P.zip vs) m x=Z v
 | [],_,_,_,_,h,_,_=>by simp at h
 | _::_,[],_,_,_,_,h,_=>by simp at h
 | p::P,w::vs,0,m,nd,h1,h2,hk=>by simp at h1 h2; subst h1; subst h2;show bindC kindOf ((p,w)::P.zip vs) m p=_;unfold bindC;rw[Zmx λv hv=>(ZAm.mp nd).1 (ZD8 hv).1,if_neg hk];simp
 | p::P,w::vs,i+1,m,nd,h1,h2,hk=>by show bindC kindOf ((p,w)::P.zip vs) m x=_;unfold bindC;exact Zl4 (i:=i) (ZAm.mp nd).2 (by simpa using h1) (by simpa using h2) hk
def start(N:List Str)(vs:List V):St:=vs.map Z++ZzE (N.length-vs.length) Z_
def Zd0(CX:CXT)(P:Program)(w:World)(K:Zzx)(mg:Str->Option Value)(base:Heap)(N:List Str)(qual:Str)(scope:Scope)(f:Addr)(cd:Value)(A:Around)(outer:List Env)(s:Shared)(H:Hp)(E:XK):Cx where
 prog:=P
 w:=w
 K:=K
 mg:=mg
 base:=base
 A:=A.deeper (envOfC qual scope s.heap.objs.size f cd)
 N:=N
 s₀:=s
 H₀:=H
 env:=envOfC qual scope s.heap.objs.size f cd
 outer:=outer
 stack:=envOfC qual scope s.heap.objs.size f cd::outer
 ex:=[]
 calm:=ZEN
 fn:=λ_=>ZEN
 pn:=[]
 xe:=λe s'=>wpAny (model P w) (A.deeper (envOfC qual scope s.heap.objs.size f cd)) (leaving (envOfC qual scope s.heap.objs.size f cd) e) (λ_ s''=>CX outer H s E e s'') (λe' s''=>CX outer H s E e' s'') s'
theorem Zog{sc:Scope}{n:Nat}{x:Str}(h:sc.names.lookup x=Z .cell):∃c,(cellsFrom n sc.names []).lookup x=Z c:=by have q:=ZEg sc.names n [] (.inl h);exact ZAd.mp q
theorem Zst{CX:CXT}{N:List Str}{cd:Value}{A:Around}{outer:List Env}{s1:Shared}{E:XK}
  (S:Zt N ps scope) (hd:A.handled=Z_) (e0:ZeJ P w K mg base A outer s H) (hl:vs.length=ps.length) (r:Vals vs us)
  (x:InCallC s s.heap.objs.size (bindL (envOfC qual scope s.heap.objs.size f cd).kindOf (ps.zip us) λ_=>Z_) (cellsFrom (s.heap.objs.size+1) scope.names []) (bindC (envOfC qual scope s.heap.objs.size f cd).kindOf (ps.zip us) λ_=>Z_) s1) :
  Inv (Zd0 CX P w K mg base N qual scope f cd A outer s H E) [] (start N vs) H s1:=by
 have hpl:ps.length<=N.length:=by have:=congrArg ZAg S.pre; rw[ZAN]at this; omega
 obtain⟨h1,tk,rfl,hk⟩:=x.done;have noA:∀b:Addr,b ∉ (Zd0 CX P w K mg base N qual scope f cd A outer s H E).ex:=λb z=>absurd (show b∈([]:List Addr) from z) (by simp);refine⟨⟨e0.mod,S.kind,rfl,rfl,ZzH _,λy z c h1 h2=>?_,λy hy=>?_,λy c _ h=>?_,λ_=>hd,ZEw e0.frames,.inr ⟨rfl,rfl⟩,λb z=>absurd z (noA b),e0.bs,e0.bsz,λb _ _=>noA b,λb z=>absurd z (noA b),e0.funs,e0.frf⟩,
  rfl,e0.bare,Un.kept hk,⟨_,x.toInCall.ns,λi y v h1 h2 h3=>?_⟩,λy c h=>⟨_,x.cell y c h⟩,e0.hok.fresh (ZzH _),λy c h=>?_,λp hp=>absurd (show p∈([]:List (Addr × Obj)) from hp) (by simp),e0.hok.kept hk,?_⟩
 ·exact name_of_addr x.apart (ZA2 h1) (ZA2 h2)
 ·have hy:scope.names.lookup y=Z .cell\/scope.names.lookup y=Z .free:=hy
  rcases hy with hy | hy
  ·exact Zog hy
  ·exact absurd rfl (S.nofree _ (ZA2 hy))
 ·exact ZBo (x.above y c (ZA2 h))
 ·have hi:i<vs.length:=by
   unfold start at h2
   by_cases hi:i<vs.length
   ·exact hi
   ·rw[ZAk (by simpa using hi)]at h2
    rw[ZBB]at h2;split at h2<;>cases h2
  have ha:vs[i]?=Z v:=by
   unfold start at h2;rw[ZAq (by simpa using hi),Zz2]at h2;cases e:vs[i]? with
   | none=>rw[e]at h2; cases h2
   | some a=>rw[e]at h2; cases h2; rfl
  obtain⟨u,hu,rv⟩:=r.get ha;have hp:ps[i]?=Z y:=by rw[<-S.pre,ZDQ (by omega)]; exact h1
  have ndP:ps.Nodup:=by rw[<-S.pre]; exact S.nd.sublist (List.take_sublist _ _)
  refine⟨u,rv,?_⟩;rcases S.par y (Zz5 hp)with k | k
  ·exact .inl ⟨k,Zmn ndP hp hu k⟩
  ·obtain⟨c,e⟩:=Zog (n:=s.heap.objs.size+1) k
   refine .inr ⟨.inl k,c,e,?_⟩;have q:=x.cell y c e;rw[Zl4 ndP hp hu (by show scope.names.lookup y≠_; rw[k]; decide)]at q;exact q
 ·exact e0.hok.fresh (ZBo (x.above y c (ZA2 h)))
 ·unfold start
  show _=N.length;rw[ZzM,Zzw,Zz6];omega
theorem Zrk{CX:CXT}{k:Nat}{name:Str}{params:Arguments}{body:List Stmt}{dV kV doc pm cdv ct oc:Value}{an od:Option Addr}
  {osl:Array (Option Value)} {N ps:List Str} {sp:Sp} (lk:K.lookup f=Z ⟨oc,od,.func (ZAQ name qual params body scope dV kV doc pm an cdv ct),osl⟩) (hcd:ZBD K cdv qual=ZEN) (S:Zt N ps scope)
  (len:∀vs H Q E,sp vs H Q E->vs.length=ps.length)
  (hbody:∀(A:Around) (outer:List Env) (s:Shared) (H:Hp) (vs:List V) (Q:VK) (E:XK),Z9 k (A.deeper (envOfC qual scope s.heap.objs.size f cdv))->sp vs H Q E ->
   ∃t,PSs (Zd0 CX P w K mg base N qual scope f cdv A outer s H E) body t/\t { nx:=λ_ H'=>Q .non H',rt:=Q } (start N vs) H) :
  ZcY P w K mg base CX (k+1) f (ZAQ name qual params body scope dV kV doc pm an cdv ct) ps sp:=by
 refine⟨len,λA outer s H args us vs Q E hr e0 hb r hsp=>?_⟩;have hl:=len _ _ _ _ hsp;have KX:K.In s.heap:=e0.mod.kin.keeps λb o e=>(e0.bs b o e).1;have lim:s.heap.NoLimit:=e0.mod.nolimit.keeps λb o e=>(e0.bs b o e).1;have hkind:∀y∈ps.zip us,scope.names.lookup y.1=Z .local\/(scope.names.lookup y.1=Z .cell/\((cellsFrom (s.heap.objs.size+1) scope.names []).lookup y.1).isSome=ZEN):=λ⟨n,v⟩ hy=>by
  rcases S.par n (ZD8 hy).1 with q | q
  ·exact .inl q
  ·exact .inr ⟨q,ZEg _ _ _ (.inl q)⟩
 refine codeAny_call_function hr.depth (KX _ _ lk) rfl S.co S.gen rfl (PySem.W.codeRec_of KX hcd) (hb _ _ _ _ ?_);refine wpAny_newFunctionEnv_cells S.kind hkind λenv he s1 x=>?_;subst he;refine⟨lim.keeps x.toInCall.keep,codeAny_func ?_⟩;obtain⟨t,ht,hq⟩:=hbody A outer s H vs Q E (hr.deeper _) hsp;have I:Inv (Zd0 CX P w K mg base N qual scope f cdv A outer s H E) [] (start N vs) H s1:=Zst S hr.hd e0 hl r x;refine ZAD (ht [] s1 (start N vs) H _ I hq) (λfl s' hs=>?_) λe s' hs=>hs;have fin:∀{σ':St} {H':Hp} {v:V} {u:Value},Inv (Zd0 CX P w K mg base N qual scope f cdv A outer s H E) [] σ' H' s'->RelV v u->Q v H'->CE outer P w H s Q u s' :=
  λ{σ' H' v u} J rv q=>⟨v,H',J.os,J.bare,J.base,J.hok,rv,q⟩
 cases fl with
 | ret u=>obtain⟨v,σ',H',J,rv,q⟩:=hs;exact fin J rv q
 | next=>obtain⟨σ',H',J,q⟩:=hs;exact fin (v:=V.non) (u:=ZAx) J rfl q
 | brk=>obtain⟨_,_,_,q⟩:=hs;exact ZAp q
 | cont=>obtain⟨_,_,_,q⟩:=hs;exact ZAp q
end L2
namespace L2
open PySem PySem.Spec PyProof.Rows
section
variable{X:Cx}{x:Str}{p pos:Pos}{e:Expr}{es:List Expr}{t:TA}{id T:String}{r:List V->Hp->VK->Prop}
def tCB(r:List V->Hp->VK->Prop)(t:TA):TE:=λσ H Q=>t σ H λvs H1=>r vs H1 Q
theorem ZcK(hc:ZaQ X (.builtin id) r)(hg:Gl X x)(hm:X.mg x=Z_)(hv:ZAy x=Z (.builtin id))(ha:PA X (e::es) t)(hn:x ≠ "__name__":=by decide)(hdb:(x==("__debug__":Str))=ZEO:=by decide)
  (he:ZzC (e::es) X.env=(ZEO,eval e X.env)::ZzC es X.env:=by rfl) (hpl:(backTo pos (ZzC es X.env)).any (·.1)=ZEO:=by rfl):PE X (.Call (.Name x p) (e::es) [] pos) (tCB r t):=by
 intro pins s σ H Q I h;refine ZBm (Zht I hg hm hv ?_ hn hdb);exact PyProof.Rows.callWith_builtin1 (thn (ha pos pins s σ H _ I h) λus s1 ⟨vs,H1,I1,r1,q1⟩=>hc pins s1 σ H1 vs us Q I1 r1 q1) he hpl
theorem Zdl(hc:ZaQ X (.type T) r)(hg:Gl X x)(hm:X.mg x=Z_)(hv:ZAy x=Z (.type T))(ha:PA X (e::es) t)(hn:x ≠ "__name__":=by decide)(hdb:(x==("__debug__":Str))=ZEO:=by decide)
  (he:ZzC (e::es) X.env=(ZEO,eval e X.env)::ZzC es X.env:=by rfl) (hpl:(backTo pos (ZzC es X.env)).any (·.1)=ZEO:=by rfl):PE X (.Call (.Name x p) (e::es) [] pos) (tCB r t):=by
 intro pins s σ H Q I h;refine ZBm (Zht I hg hm hv ?_ hn hdb);exact ZCn (thn (ha pos pins s σ H _ I h) λus s1 ⟨vs,H1,I1,r1,q1⟩=>hc pins s1 σ H1 vs us Q I1 r1 q1) he hpl
end
end L2
namespace HT
set_option maxHeartbeats 8000000
open PySem PyProof.Rows
variable{sl:Addr}{hi lo:Option Int}{vl vu:Value}{Q:Value->Shared->Prop}
section
open PySem.SeqAt
open PySem.AutoSeq1 (wpAny_loadPart')
open PySem.MeetsSeq PySem.MeetsSeq2 PySem.MeetsSeq3
end
section
variable{prog:Program}{w:World}{A:Around}{E:Value->Shared->Prop}{s:Shared}
theorem ZuV{t b:Addr}{vs ws:List Value}(ht:IsTup s.heap t vs.toArray)(hb:IsTup s.heap b ws.toArray)(hv:vs≠[])
  (h1:ws=[]->Q (.ref t) s) (h2:ws≠[]->Q (.ref s.heap.objs.size) { s with heap:=s.heap.push { cls:=.type "tuple",data:=.seq (vs++ws).toArray } })
  (hsz:vs.length+ws.length<=sizeLine):wpAny (model prog w) A (ZBL .Add (.ref t) (.ref b)) Q E s:=by
 obtain⟨⟨cls,dd,data,sl⟩,ho,hc,n,hd⟩:=id ht;obtain⟨⟨cls2,dd2,data2,sl2⟩,ho2,hc2,n2,hd2⟩:=id hb;simp only at hc hd hc2 hd2;subst hc hd hc2 hd2;have e:vs.toArray++ws.toArray=(vs++ws).toArray:=by simp
 by_cases hw:ws=[]
 ·exact ZDR ⟨_,ho,rfl⟩ ⟨_,ho2,rfl⟩ ZDS seq_tuple_add ZCV ZCN (ZCD _ _)
   (tuple_addW1 t b vs.toArray ws.toArray n n2 dd dd2 sl sl2 (by simpa using hv) (by simp[hw])) ⟨ho,ho2,h1 hw⟩
 ·refine ZDR ⟨_,ho,rfl⟩ ⟨_,ho2,rfl⟩ ZDS seq_tuple_add ZCV ZCN (ZCD _ _)
   (tuple_addW2 t b vs.toArray ws.toArray n n2 dd dd2 sl sl2 (by simpa using hv) (by simpa using hw) (by rw[ZzN,ZzN]; exact hsz)) ⟨ho,ho2,?_⟩
  rw[e];exact h2 hw
def sIx(n d:Nat):Option Int->Nat
 | none=>d
 | some v=>if v<0 then(v+(n:Int)).toNat else min v.toNat n
theorem Zw4(n d:Nat)(hd:d<=n)(o:Option Int):sIx n d o<=n:=by
 cases o with
 | none=>exact hd
 | some v =>
  show(if v<0 then(v+(n:Int)).toNat else min v.toNat n)<=n
  by_cases hv:v<0
  ·rw[if_pos hv]; omega
  ·rw[if_neg hv]; exact ZDT _ _
theorem Zqt(v:Int)(n d:Nat):(if v<0 then max (v+(n:Int)) 0 else min v (n:Int))=((sIx n d (Z v):Nat):Int):=by
 show(if v<0 then max (v+(n:Int)) 0 else min v (n:Int))=(((if v<0 then(v+(n:Int)).toNat else min v.toNat n):Nat):Int)
 by_cases hv:v<0
 ·simp only[if_pos hv]; omega
 ·simp only[if_neg hv]; omega
theorem Zrc(lo hi:Option Int)(n:Nat):ZCy lo hi 1 (n:Int)=(((sIx n 0 lo:Nat):Int),((sIx n n hi:Nat):Int)):=by
 have h1:¬((1:Int)<0):=by omega
 unfold ZCy;simp only[h1,if_false];refine Prod.ext ?_ ?_
 ·cases lo with
  | none=>rfl
  | some v=>exact Zqt v n 0
 ·cases hi with
  | none=>rfl
  | some v=>exact Zqt v n n
theorem Zru(i j:Nat):ZBV (i:Int) (j:Int) 1=j-i:=by
 unfold ZBV;have h1:(1:Int) > 0:=by omega
 simp only[h1,if_true,Int.ediv_one];split<;>omega
theorem Zlj{v:Value}{o:Option Int}{Q:Option Int->Shared->Prop}(p:IsPart v o)(h:Q o s):wpAny (model prog w) A (Builtin.Slice.slicePartIndex v) Q E s:=by
 cases p with
 | none=>exact slicePart_none h
 | int i t=>exact slicePart_int h
theorem ZkD{n:Nat}{Q:Int × Int × Nat->Shared->Prop}(hs:s.heap.IsSliceOf sl vl vu .none)(pl:IsPart vl lo)(pu:IsPart vu hi)
  (h:Q (((sIx n 0 lo:Nat):Int),1,sIx n n hi-sIx n 0 lo) s):wpAny (model prog w) A (ZDw (.ref sl) (pure (n:Int))) Q E s:=by
 obtain⟨os,hos,hcs,hds⟩:=id hs;unfold ZDw Builtin.Slice.sliceFields;refine Zzv (Zzv (ZCt hos hds (x:=vl) rfl (Zzv (ZCt hos hds (x:=vu) rfl (Zzv (ZCt hos hds (x:=.none) rfl (Zzz ?_)))))));refine Zzv (slicePart_none ?_);show wpAny _ _ (if((1:Int)==0)=ZEN then _ else _) _ _ s;rw[if_neg (by decide)];refine Zzv (Zlj pl (Zzv (Zlj pu (Zzv (Zzz ?_)))));show wpAny _ _ (match ZCy lo hi 1 (n:Int)with | (lo,hi)=>pure (lo,(1:Int),ZBV lo hi 1)) _ _ s;rw[Zrc lo hi n];show wpAny _ _ (pure (((sIx n 0 lo:Nat):Int),(1:Int),ZBV ((sIx n 0 lo:Nat):Int) ((sIx n n hi:Nat):Int) 1)) _ _ s;rw[Zru];exact Zzz h
theorem ZtG(xs:Array Value)(i k:Nat):((ZzQ k).filterMap λ(m:Nat)=>xs[((i:Int)+(m:Int)*1).toNat]?).toArray=((xs.toList.drop i).take k).toArray:=by
 have e:(λ(m:Nat)=>xs[((i:Int)+(m:Int)*1).toNat]?)=λm=>xs[i+m]?:=by
  funext m
  have:((i:Int)+(m:Int)*1).toNat=i+m:=by omega
  rw[this]
 rw[e];have:=pick_run xs i k;rw[List.filterMap_map]at this;have e2:((λx=>xs[x]?)∘λx=>i+x)=λm=>xs[i+m]?:=rfl;rw[e2]at this;rw[this]
theorem ZjM{t:Addr}{items:Array Value}(ht:IsTup s.heap t items)(hs:s.heap.IsSliceOf sl vl vu .none)(pl:IsPart vl lo)(pu:IsPart vu hi)
  (hw:¬(sIx items.size 0 lo=0/\sIx items.size items.size hi=items.size))
  (h:Q (.ref s.heap.objs.size) { s with heap:=s.heap.push { cls:=.type "tuple",data:=.seq ((items.toList.drop (sIx items.size 0 lo)).take (sIx items.size items.size hi-sIx items.size 0 lo)).toArray } })
  (hsz:items.size<=sizeLine):wpAny (model prog w) A (getItem (.ref t) (.ref sl)) Q E s:=by
 have htake:sizeOk (.seq ((items.toList.drop (sIx items.size 0 lo)).take (sIx items.size items.size hi-sIx items.size 0 lo)).toArray):=by show((items.toList.drop (sIx items.size 0 lo)).take (sIx items.size items.size hi-sIx items.size 0 lo)).toArray.size<=sizeLine;rw[ZzN,ZAN,ZAO,ZzY];omega
 have hj:sIx items.size items.size hi<=items.size:=Zw4 _ _ (ZzH _) hi;obtain⟨os,hos,hcs,hds⟩:=id hs;have hTs:s.TypeIs (.ref sl) "slice":=⟨os,hos,hcs⟩;unfold getItem
 try with_reducible refine ZAI ?_
 first | refine Zzv (Zzz ?_) | skip
 refine Zzv (wpAny_sequenceKey ht.typeIs (by decide) ?_);refine Zzv (wpAny_callSpecial?_slot (name:=Zz1 "__getitem__") ht.typeIs ZB7
  (ZAB ZB7 ht.typeIs entry_tuple_getitem ?_ (args_tuple_getitem _ _)))
 show wpAny _ _ (Builtin.Tuple.tupleItemsOf (.ref t) >>= _) _ _ s;refine Zzv (tupleItemsOf_ ht ?_);refine Zzv (ZDU hTs ?_);rw[if_pos (by decide)];refine Zzv (ZkD hs pl pu ?_);have hno:¬((((sIx items.size 0 lo:Nat):Int)==0&&(1:Int)==1&&(sIx items.size items.size hi-sIx items.size 0 lo)==items.size)=ZEN):=by intro q;rw[ZzW,ZzW]at q;have q1:((sIx items.size 0 lo:Nat):Int)=0:=eq_of_beq q.1.1;have q2:sIx items.size items.size hi-sIx items.size 0 lo=items.size:=eq_of_beq q.2;exact hw ⟨by omega,by omega⟩
 show wpAny _ _ (if(((sIx items.size 0 lo:Nat):Int)==0&&(1:Int)==1&&(sIx items.size items.size hi-sIx items.size 0 lo)==items.size)=ZEN then _ else _) _ _ s;rw[if_neg hno,ZtG]
 first
  | exact Zzv (m:=ZAJ _) (ZAa (Zzz ⟨_,rfl,Zzz h⟩) htake)
  | exact Zzv (m:=ZAJ _) (ZAa (Zzv (Zzz (Zzz ⟨_,rfl,Zzz h⟩))) htake)
  | exact Zzv (Zzv (m:=ZAJ _) (ZAa (Zzz (Zzz ⟨_,rfl,Zzz h⟩)) htake))
  | exact Zzv (Zzv (m:=ZAJ _) (ZAa (Zzz ⟨_,rfl,Zzz h⟩) htake))
end
end HT
namespace L2
open PySem PySem.Spec PyProof.Rows
abbrev TO:=St->Hp->(Option Int->Hp->Prop)->Prop
def PO(X:Cx)(e:Option Expr)(t:TO):Prop :=
 ∀(pins:List (Addr × Obj)) (s:Shared) (σ:St) (H:Hp) (Q:Option Int->Hp->Prop),Inv X pins σ H s->t σ H Q ->
  wpAny (model X.prog X.w) X.A (evalPart e X.env) (λu s'=>∃o H',Inv X pins σ H' s'/\IsPart u o/\Q o H') X.xe s
def ZvC:TO:=λ_ H Q=>Q Z_ H
def ZxM(t:TE):TO:=λσ H Q=>t σ H λx H1=>∃i,x=.int i/\Q (Z i) H1
section
variable{X:Cx}{e:Expr}{te:TE}{lo hi:Option Expr}{tl th:TO}{pos p2:Pos}
theorem Zu5:PO X Z_ ZvC:=by intro pins s σ H Q I h;rw[evalPart_none];exact Zzz ⟨Z_,H,I,.none,h⟩
theorem Zu9(h:PE X e te):PO X (Z e) (ZxM te):=by intro pins s σ H Q I hw;rw[evalPart_some];refine thn (h pins s σ H _ I hw) λu s1 ⟨x,H1,I1,r1,q1⟩=>?_;obtain⟨i,rfl,q⟩:=q1;obtain⟨t,rfl⟩:=r1;exact⟨Z i,H1,I1,.int i t,q⟩
def SlR(X:Cx)(r:V->Option Int->Option Int->Hp->VK->Prop):Prop :=
 ∀(pins:List (Addr × Obj)) (s:Shared) (σ:St) (H:Hp) (x:V) (v vl vu:Value) (lo hi:Option Int) (sl:Addr) (Q:VK),Inv X pins σ H s->RelV x v->s.heap.IsSliceOf sl vl vu .none->IsPart vl lo->IsPart vu hi->r x lo hi H Q ->
  ∃T id,typeLookup (.type T) "__getitem__" = pure (Z (.builtin id))/\s.TypeIs v T/\wpAny (model X.prog X.w) X.A (getItem v (.ref sl)) (EP X pins σ Q) X.xe s
def tSl(r:V->Option Int->Option Int->Hp->VK->Prop)(te:TE)(tl th:TO):TE:=λσ H Q=>te σ H λx H1=>tl σ H1 λl H2=>th σ H2 λu H3=>r x l u H3 Q
theorem Zo5{r:V->Option Int->Option Int->Hp->VK->Prop}(hr:SlR X r)(he:PE X e te)(hl:PO X lo tl)(hu:PO X hi th):PE X (.Subscript e (.Slice lo hi Z_ p2) pos) (tSl r te tl th):=by intro pins s σ H Q I h;refine Subscript_ (thn (he pins s σ H _ I h) λv s1 ⟨x,H1,I1,r1,q1⟩=>?_);refine wpAny_Slice (thn (hl pins s1 σ H1 _ I1 q1) λvl s2 ⟨l,H2,I2,pl,q2⟩=>thn (hu pins s2 σ H2 _ I2 q2) λvu s3 ⟨u,H3,I3,pu,q3⟩=>?_);rw[evalPart_none];refine Zzz ?_;have I4:Inv X pins σ H3 { s3 with heap:=s3.heap.push { cls:=.type "slice",data:=.fields #[vl,vu,.none] } }:=I3.kept (t':=s3.toks) λb ob q=>ZzA _ q;obtain⟨T,id,hT,ht,hg⟩:=hr pins { s3 with heap:=s3.heap.push { cls:=.type "slice",data:=.fields #[vl,vu,.none] } } σ H3 x v vl vu l u s3.heap.objs.size Q I4 r1 (Heap.IsSliceOf.new ..) pl pu q3;show wpAny (model X.prog X.w) X.A (subscriptTail e (.Slice lo hi Z_ p2) v (.ref s3.heap.objs.size)) (EP X pins σ Q) X.xe { s3 with heap:=s3.heap.push { cls:=.type "slice",data:=.fields #[vl,vu,.none] } };exact tail_any (ops:=[.ref s3.heap.objs.size,v]) ht hT hg (by with_unfolding_all rfl)
def Zhf(xs:List V)(lo hi:Option Int):List V:=(xs.drop (HT.sIx xs.length 0 lo)).take (HT.sIx xs.length xs.length hi-HT.sIx xs.length 0 lo)
theorem Zj6(xs:List V)(lo hi:Option Int):(Zhf xs lo hi).length<=xs.length:=by unfold Zhf;rw[ZAN,ZAO];omega
def ZyV(K:Zzx):V->Option Int->Option Int->Hp->VK->Prop:=λx lo hi H Q=>∃a xs,x=.ref a/\SqT K H a xs /\
 ¬(HT.sIx xs.length 0 lo=0/\HT.sIx xs.length xs.length hi=xs.length)/\∀p,H p=Z_->Q (.ref p) (upd H p (.tup (Zhf xs lo hi)))
theorem Zwd:SlR X (ZyV X.K):=by
 intro pins s σ H x v vl vu lo hi sl Q I rx hs pl pu h;obtain⟨a,xs,rfl,hx,hw,q⟩:=h;cases rx;obtain⟨its,r,ht,hz⟩:=I.tuple hx;have hlen:its.toArray.size=xs.length:=by rw[ZzN]; exact r.length.symm
 refine⟨"tuple",_,ZB7.lookup,ht.typeIs,?_⟩;refine HT.ZjM ht hs pl pu (by rw[hlen]; exact hw) ?_ (by rw[hlen]; exact hz);rw[hlen];refine⟨.ref s.heap.objs.size,_,I.laid (t':=s.toks) (o:=.tup (Zhf xs lo hi)) (λb ob q=>ZzA _ q) (ZzH _) ?_,rfl,q _ (I.hok.fresh (ZzH _))⟩;exact⟨ZAn (Zj6 xs lo hi) hz,_,(r.drop (HT.sIx xs.length 0 lo)).take (HT.sIx xs.length xs.length hi-HT.sIx xs.length 0 lo),ZD9 _ _⟩
def ZxS(K:Zzx):R2:=λx y H Q=>∃a b xs ys,x=.ref a/\y=.ref b/\SqT K H a xs/\SqT K H b ys/\xs≠[]/\xs.length+ys.length<=sizeLine /\
 (ys=[]->Q (.ref a) H)/\(ys≠[]->∀p,H p=Z_->Q (.ref p) (upd H p (.tup (xs++ys))))
theorem Vals.nil_iff{xs:List V}{us:List Value}(r:Vals xs us):us=[]↔xs=[]:=by
 cases r with
 | nil=>simp
 | cons _ _=>simp
theorem Zu8:OpR X (ZBL .Add) (ZxS X.K):=by intro pins s σ H x y v u Q I rx ry h;obtain⟨a,b,xs,ys,rfl,rfl,ha,hb,hx,hz,q1,q2⟩:=h;cases rx;cases ry;obtain⟨its,r1,p1,_⟩:=I.tuple ha;obtain⟨its2,r2,p2,_⟩:=I.tuple hb;refine HT.ZuV p1 p2 (λz=>hx (r1.nil_iff.mp z)) (λz=>⟨.ref a,H,I,rfl,q1 (r2.nil_iff.mp z)⟩) (λz=>?_) (by rw[<-r1.length,<-r2.length]; exact hz);refine⟨.ref s.heap.objs.size,_,I.laid (t':=s.toks) (o:=.tup (xs++ys)) (λb ob q=>ZzA _ q) (ZzH _) ?_,rfl,q2 (λw=>z (r2.nil_iff.mpr w)) _ (I.hok.fresh (ZzH _))⟩;exact⟨by rw[ZzM]; exact hz,_,r1.append r2,ZD9 _ _⟩
end
end L2
namespace L2
open PySem PySem.Spec PyProof.Rows
variable{H:Hp}{i:Int}{pins:List (Addr × Obj)}{n:Nat}{s:Shared}{σ:St}{x y:V}{u:Value}
def ixN(n:Nat)(i:Int):Option Nat:=if 0<=i then(if i<n then Z i.toNat else Z_)else if -(n:Int)<=i then Z (i+n).toNat else Z_
def atI{α:Type}(xs:List α)(i:Int):Option α:=(ixN xs.length i).bind λj=>xs[j]?
theorem Zqp{j:Nat}(h:ixN n i=Z j):seqIndex? i n=Z j/\j<n/\-(n:Int)<=i/\i<n:=by
 unfold ixN at h
 by_cases h0:0<=i
 ·rw[if_pos h0]at h
  by_cases h1:i<n
  ·rw[if_pos h1]at h
   have e:i.toNat=j:=ZAl h;exact⟨by rw[seqIndex_of h0 h1,e],by omega,by omega,h1⟩
  ·rw[if_neg h1]at h; cases h
 ·rw[if_neg h0]at h
  by_cases h1:-(n:Int)<=i
  ·rw[if_pos h1]at h
   have e:(i+n).toNat=j:=ZAl h;exact⟨by rw[seqIndex_neg (by omega) h1,e],by omega,h1,by omega⟩
  ·rw[if_neg h1]at h; cases h
theorem ZlD{α:Type}{xs:List α}{v:α}(h:atI xs i=Z v):∃j,seqIndex? i xs.length=Z j/\xs[j]?=Z v/\j<xs.length/\-(xs.length:Int)<=i/\i<xs.length:=by
 unfold atI at h;cases e:ixN xs.length i with
 | none=>rw[e]at h; cases h
 | some j=>rw[e]at h;obtain⟨h1,h2,h3,h4⟩:=Zqp e;exact⟨j,h1,h,h2,h3,h4⟩
def Zqj(b:Expr):Prop:=∀o i,ZEh b ZEO o i=operate [o,i] (getItem o i)
def IxR(X:Cx)(r:R2):Prop :=
 ∀(value slice:Expr) (pins:List (Addr × Obj)) (s:Shared) (σ:St) (H:Hp) (x y:V) (v u:Value) (Q:VK),Inv X pins σ H s->RelV x v->RelV y u->r x y H Q ->
  ZEh slice ZEO v u=operate [v,u] (getItem v u)->wpAny (model X.prog X.w) X.A (subscriptTail value slice v u) (EP X pins σ Q) X.xe s
def MtR(X:Cx)(id:String)(r:V->List V->Hp->VK->Prop):Prop :=
 ∀(pins:List (Addr × Obj)) (s:Shared) (σ:St) (H:Hp) (x:V) (xs:List V) (v:Value) (us:List Value) (Q:VK),Inv X pins σ H s->RelV x v->Vals xs us->r x xs H Q ->
  wpAny (model X.prog X.w) X.A (call (.builtin id) (v::us)) (EP X pins σ Q) X.xe s
section
variable{X:Cx}{a b:Expr}{ta tb:TE}{pos:Pos}
theorem IxR.or{r r':R2}(h:IxR X r)(h':IxR X r'):IxR X (λx y H Q=>r x y H Q\/r' x y H Q):=by
 intro value slice pins s σ H x y v u Q I rx ry q hs;rcases q with q | q
 ·exact h value slice pins s σ H x y v u Q I rx ry q hs
 ·exact h' value slice pins s σ H x y v u Q I rx ry q hs
theorem ZxT{r:R2}(hr:IxR X r)(ha:PE X a ta)(hb:PE X b tb)(hs:Zqj b):PE X (.Subscript a b pos) (tOp r ta tb):=by intro pins s σ H Q I h;exact Subscript_ (ZtW ha hb I h λv u s2 x y H2 I2 rx ry q=>hr a b pins s2 σ H2 x y v u Q I2 rx ry q (hs _ _))
def Zxe(K:Zzx):R2:=λx y H Q=>∃p xs i v,x=.ref p/\y=.int i/\SqL K H p xs/\atI xs i=Z v/\Q v H
def ZwU(K:Zzx):R2:=λx y H Q=>∃p xs i v,x=.ref p/\y=.int i/\SqT K H p xs/\atI xs i=Z v/\Q v H
def Zwf:R2:=λx y H Q=>∃z i c,x=.str z/\y=.int i/\z.length<=sizeLine/\atI z.cps.toList i=Z c/\Q (.str ⟨#[c]⟩) H
theorem Zu4:IxR X (Zxe X.K):=by
 intro value slice pins s σ H x y v u Q I rx ry h hs;obtain⟨p,xs,i,z,rfl,rfl,hq,he,q⟩:=h;cases rx;obtain⟨t,rfl⟩:=ry;obtain⟨its,r,pl,hz⟩:=I.list hq;obtain⟨j,h1,h2,h3,h4,h5⟩:=ZlD he;obtain⟨w,ew,rw'⟩:=r.get h2;have hl:=r.length;have hn:=Zi0;have fin:EP X pins σ Q w s:=⟨z,H,I,rw',q⟩
 by_cases h0:0<=i
 ·have hj:i.toNat=j:=by
   rw[seqIndex_of h0 h5]at h1;exact ZAl h1
  exact item_listR pl.isList h0 (by omega) (by rw[hj]; simpa using ew) fin hs
 ·have hj:(i+(its.toArray.size:Int)).toNat=j:=by
   rw[seqIndex_neg (by omega) h4]at h1;rw[ZzN,<-hl];exact ZAl h1
  exact subscriptTail_builtinR (x:=w) pl.isList.typeIs slot_list_getitem.lookup
   (wpAny_getItem_list_neg (Q:=λr s'=>r=w/\EP X pins σ Q r s') pl.isList (by omega) (by rw[ZzN]<;>omega) (by omega) (by rw[hj]; simpa using ew) ⟨rfl,fin⟩) hs
theorem ZwS:IxR X (ZwU X.K):=by
 intro value slice pins s σ H x y v u Q I rx ry h hs;obtain⟨p,xs,i,z,rfl,rfl,hq,he,q⟩:=h;cases rx;obtain⟨t,rfl⟩:=ry;obtain⟨its,r,pl,hz⟩:=I.tuple hq;obtain⟨j,h1,h2,h3,h4,h5⟩:=ZlD he;obtain⟨w,ew,rw'⟩:=r.get h2;have hl:=r.length;have hn:=Zi0;have fin:EP X pins σ Q w s:=⟨z,H,I,rw',q⟩;exact subscriptTail_builtinR (x:=w) pl.typeIs slot_tuple_getitem.lookup
  (getItem_tuple (j:=j) (Q:=λr s'=>r=w/\EP X pins σ Q r s') pl (by omega) (by omega) (by rw[ZzN,<-hl]; exact h1) (by simpa using ew) ⟨rfl,fin⟩) hs
theorem Zwy:IxR X Zwf:=by
 intro value slice pins s σ H x y v u Q I rx ry h hs;obtain⟨z,i,c,rfl,rfl,hz,he,q⟩:=h;obtain⟨t,rfl⟩:=rx;obtain⟨t',rfl⟩:=ry;obtain⟨j,h1,h2,h3,h4,h5⟩:=ZlD he;have hl:z.cps.toList.length=z.length:=by simp[Str.length]
 rw[hl]at h1 h4 h5;have hn:=Zi0;exact tail_any (typeIs_str s z t) slot_str_getitem.lookup (getItem_str (c:=c) (by have e1:decide (i < -(2 ^ 63:Int))=ZEO:=decide_eq_false (by omega);have e2:decide (i ≥ 2 ^ 63)=ZEO:=decide_eq_false (by omega);rw[e1,e2,Bool.or_false]) (by rw[h1]; simpa using h2) ⟨.str ⟨#[c]⟩,H,I.tok _,⟨_,rfl⟩,q⟩) hs
def rIx(K:Zzx):R2:=λx y H Q=>Zxe K x y H Q\/ZwU K x y H Q\/Zwf x y H Q
theorem Zxi:IxR X (rIx X.K):=Zu4.or (ZwS.or Zwy)
theorem ZqX(its:List Value)(n j:Nat)(u:Value):ZCH (·.setIfInBounds j u) { cls:=.type "list",data:=.seq its.toArray n }={ cls:=.type "list",data:=.seq (its.set j u).toArray n }:=by simp[ZCH]
theorem Inv.lst{pins:List (Addr × Obj)}{σ:St}{H:Hp}{s:Shared}{p:Addr}{xs:List V}(I:Inv X pins σ H s)(h:H p=Z (.lst xs)) :
  ∃(its:List Value) (n:Nat),Vals xs its/\s.heap.get? p=Z { cls:=.type "list",data:=.seq its.toArray n }/\xs.length<=sizeLine:=by
 obtain⟨z,its,n,r,e⟩:=I.hok p _ h;exact⟨its,n,r,e,z⟩
theorem Inv.lstUpd{p:Addr}{xs ys:List V}{its its':List Value}{n':Nat}{f:Obj->Obj}(I:Inv X pins σ H s)(h:H p=Z (.lst xs))
  (ho:s.heap.get? p=Z { cls:=.type "list",data:=.seq its.toArray n }) (hf:f { cls:=.type "list",data:=.seq its.toArray n }={ cls:=.type "list",data:=.seq its'.toArray n' }) (r:Vals ys its') (hz:ys.length<=sizeLine) (t:Nat) :
  Inv X pins σ (upd H p (.lst ys)) { s with heap:=s.heap.update p f,toks:=t }:=by
 have e:(s.heap.update p f).get? p=Z { cls:=.type "list",data:=.seq its'.toArray n' }:=by rw[ZAE f ho (by rw[hf]<;>rfl),hf]
 refine I.write (x:=p) (e:=p) (by rw[h]; trivial) (.inl rfl) (λb u hb q=>(ZAY _ _ (ZAG hb)).trans q) ⟨_,e⟩ ?_;exact⟨hz,its',n',r,e⟩
def ZxY:V->V->V->Hp->(Hp->Prop)->Prop:=λo i v H Q=>∃p xs k j,o=.ref p/\i=.int k/\H p=Z (.lst xs)/\ixN xs.length k=Z j/\Q (upd H p (.lst (xs.set j v)))
theorem set_list:Zwj X ZxY:=by
 intro pins s σ H o i v ov iv u Q I ro ri rv h;obtain⟨p,xs,k,j,rfl,rfl,hp,hj,q⟩:=h;cases ro;obtain⟨t,rfl⟩:=ri;obtain⟨its,n,r,ho,hz⟩:=I.lst hp;obtain⟨h1,h2,h3,h4⟩:=Zqp hj;have hl:=r.length;have hn:=Zi0;have I':Inv X pins σ (upd H p (.lst (xs.set j v))) { s with heap:=s.heap.update p (ZCH (·.setIfInBounds j u)) } :=
  I.lstUpd hp ho (ZqX its n j u) (r.set rv j) (by rw[ZAL]; exact hz) s.toks
 by_cases h0:0<=k
 ·have hk:k.toNat=j:=by
   rw[seqIndex_of h0 h4]at h1;exact ZAl h1
  exact PySem.W.ki_setAt ho h0 (by omega) (by rw[ZzN,<-hl]; exact h4) (by rw[hk]; exact⟨_,I',q⟩)
 ·have hk:(k+(its.toArray.size:Int)).toNat=j:=by
   rw[seqIndex_neg (by omega) h3]at h1;rw[ZzN,<-hl];exact ZAl h1
  exact PySem.W.ki_setBack ho (by omega) (by rw[ZzN,<-hl]; exact h3) (by omega) (by rw[hk]; exact⟨_,I',q⟩)
theorem Zot(lo hi:Option Int)(n:Nat):(ZCu lo hi Z_ n).1=((HT.sIx n 0 lo:Nat):Int)/\(ZCu lo hi Z_ n).2.1=((HT.sIx n n hi:Nat):Int)/\(ZCu lo hi Z_ n).2.2=1:=by
 refine⟨?_,?_,rfl⟩
 ·cases lo with
  | none=>simp[ZCu,HT.sIx]
  | some i =>
   simp only[ZCu,HT.sIx,Option.getD_none,show(1:Int) > 0 by decide,if_true]
   by_cases h:i<0
   ·simp only[h,if_true]<;>omega
   ·simp only[h,if_false]<;>omega
 ·cases hi with
  | none=>simp[ZCu,HT.sIx]
  | some i =>
   simp only[ZCu,HT.sIx,Option.getD_none,show(1:Int) > 0 by decide,if_true]
   by_cases h:i<0
   ·simp only[h,if_true]<;>omega
   ·simp only[h,if_false]<;>omega
theorem ZmV(its:List Value)(lo hi:Option Int):slicePick its.toArray lo hi Z_=((its.drop (HT.sIx its.length 0 lo)).take (HT.sIx its.length its.length hi-HT.sIx its.length 0 lo)).toArray:=by obtain⟨h1,h2,h3⟩:=Zot lo hi its.toArray.size;unfold slicePick;rw[h1,h2,h3];simp only[sliceRange_one,pick_run,ZzN]<;>rfl
def Zyz(K:Zzx):V->Option Int->Option Int->Hp->VK->Prop:=λx lo hi H Q=>∃a xs,x=.ref a/\SqL K H a xs/\∀p,H p=Z_->Q (.ref p) (upd H p (.lst (Zhf xs lo hi)))
theorem Zvk:SlR X (Zyz X.K):=by intro pins s σ H x v vl vu lo hi sl Q I rx hs pl pu h;obtain⟨a,xs,rfl,hx,q⟩:=h;cases rx;obtain⟨its,r,ht,hz⟩:=I.list hx;have hlen:=r.length;refine⟨"list",_,slot_list_getitem.lookup,ht.isList.typeIs,?_⟩;refine wpAny_getItem_list_slice ht.isList hs pl pu .none (by simp) ?_ (by rw[ZzN]<;>omega);rw[ZmV,<-hlen];refine⟨.ref s.heap.objs.size,_,I.laid (t':=s.toks) (o:=.lst (Zhf xs lo hi)) (λb ob q=>ZzA _ q) (ZzH _) ?_,rfl,q _ (I.hok.fresh (ZzH _))⟩;exact⟨ZAn (Zj6 xs lo hi) hz,_,0,(r.drop (HT.sIx xs.length 0 lo)).take (HT.sIx xs.length xs.length hi-HT.sIx xs.length 0 lo),ZzP _ rfl⟩
def ZbM:V->Bool
 | .non=>ZEN
 | .bl _=>ZEN
 | .int _=>ZEN
 | .str _=>ZEN
 | _=>ZEO
def eqV:V->V->Bool
 | .non,.non=>ZEN
 | .bl a,.bl b=>a==b
 | .bl a,.int b=>(if a then 1 else 0)==b
 | .int a,.bl b=>a==(if b then 1 else 0)
 | .int a,.int b=>a==b
 | .str a,.str b=>a==b
 | _,_=>ZEO
theorem Zxk{A:Around}{v:Value}(ry:RelV y u)(rx:RelV x v)(fy:ZbM y=ZEN)(fx:ZbM x=ZEN):SeqAt.EqAt A s u v (eqV y x):=by
 cases y with
 | non =>
  cases ry;cases x with
  | non=>cases rx; exact SeqAt.EqAt.same _
  | bl b=>cases rx; exact SeqAt.EqAt.none_bool b
  | int b=>obtain⟨t,rfl⟩:=rx; exact SeqAt.EqAt.none_int b t
  | str b=>obtain⟨t,rfl⟩:=rx; exact SeqAt.EqAt.none_str b t
  | _=>exact absurd (show ZEO=ZEN from fx) ZAi
 | bl a =>
  cases ry;cases x with
  | non=>cases rx; exact SeqAt.EqAt.bool_none a
  | bl b=>cases rx; exact SeqAt.EqAt.bool_bool a b
  | int b=>obtain⟨t,rfl⟩:=rx; exact SeqAt.EqAt.bool_int a b t
  | str b=>obtain⟨t,rfl⟩:=rx; exact SeqAt.EqAt.bool_str a b t
  | _=>exact absurd (show ZEO=ZEN from fx) ZAi
 | int a =>
  obtain⟨t',rfl⟩:=ry;cases x with
  | non=>cases rx; exact SeqAt.EqAt.int_none a t'
  | bl b=>cases rx; exact SeqAt.EqAt.int_bool a t' b
  | int b=>obtain⟨t,rfl⟩:=rx; exact SeqAt.EqAt.int_int a t' b t
  | str b=>obtain⟨t,rfl⟩:=rx; exact ZED a t' b t
  | _=>exact absurd (show ZEO=ZEN from fx) ZAi
 | str a =>
  obtain⟨t',rfl⟩:=ry;cases x with
  | non=>cases rx; exact SeqAt.EqAt.str_none a t'
  | bl b=>cases rx; exact SeqAt.EqAt.str_bool a t' b
  | int b=>obtain⟨t,rfl⟩:=rx; exact ZEE a t' b t
  | str b=>obtain⟨t,rfl⟩:=rx; exact SeqAt.EqAt.str_str a t' b t
  | _=>exact absurd (show ZEO=ZEN from fx) ZAi
 | _=>exact absurd (show ZEO=ZEN from fy) ZAi
def eqU(x:V)(u:Value):Bool:=match u with
 | .none=>eqV .non x
 | .bool b=>eqV (.bl b) x
 | .int i _=>eqV (.int i) x
 | .str z _=>eqV (.str z) x
 | _=>ZEO
theorem ZrM(r:RelV y u)(f:ZbM y=ZEN):eqU x u=eqV y x:=by
 cases y with
 | non=>cases r; rfl
 | bl b=>cases r; rfl
 | int i=>obtain⟨t,rfl⟩:=r; rfl
 | str z=>obtain⟨t,rfl⟩:=r; rfl
 | _=>exact absurd (show ZEO=ZEN from f) ZAi
theorem ZlH{x:V}:∀{xs:List V} {us:List Value},Vals xs us->xs.all ZbM=ZEN->us.any (eqU x)=xs.any λy=>eqV y x
 | _,_,.nil,_=>rfl
 | y::xs,u::us,.cons r t,f=>by rw[ZAX,ZzW]at f;rw[ZCc,ZCc,ZrM r f.1,ZlH t f.2]
theorem Zkx{A:Around}{s:Shared}{x:V}{v:Value}(rx:RelV x v)(fx:ZbM x=ZEN):∀{xs:List V} {us:List Value},Vals xs us->xs.all ZbM=ZEN->∀u∈us,SeqAt.EqAt A s u v (eqU x u)
 | _,_,.nil,_=>λu hu=>by cases hu
 | y::xs,u::us,.cons r t,f=>λu' hu=>by
  rw[ZAX,ZzW]at f;rcases ZzK.mp hu with rfl | hu
  ·rw[ZrM r f.1]; exact Zxk r rx f.1 fx
  ·exact Zkx rx fx t f.2 u' hu
def inV(x:V)(xs:List V):Bool:=xs.any λy=>eqV y x
def rIn(K:Zzx)(neg:Bool):R2:=λx y H Q=>∃p xs,y=.ref p/\(SqL K H p xs\/SqT K H p xs)/\ZbM x=ZEN/\xs.all ZbM=ZEN/\Q (.bl (if neg then !inV x xs else inV x xs)) H
theorem Zs1:OpR X (ZAU .In) (rIn X.K ZEO):=by
 intro pins s σ H x y v u Q I rx ry h;obtain⟨p,xs,rfl,hq,fx,fs,q⟩:=h;cases ry;rcases hq with hq | hq
 ·obtain⟨its,r,pl,hz⟩:=I.list hq
  refine SeqAt.in_listAt (eqU x) pl.isList (λw hw=>Zkx rx fx r fs w (by simpa using hw)) ⟨.bl _,H,I,rfl,?_⟩;rw[show its.toArray.any (eqU x)=its.any (eqU x) by simp,ZlH r fs];exact q
 ·obtain⟨its,r,pl,hz⟩:=I.tuple hq
  refine SeqAt.in_tupleAt (eqU x) pl (λw hw=>Zkx rx fx r fs w (by simpa using hw)) ⟨.bl _,H,I,rfl,?_⟩;rw[show its.toArray.any (eqU x)=its.any (eqU x) by simp,ZlH r fs];exact q
theorem ZoR:ZaQ X (.builtin "len") (λxs H Q=>∃p ys,xs=[.ref p]/\(SqL X.K H p ys\/SqT X.K H p ys)/\Q (.int ys.length) H):=by
 intro pins s σ H xs us Q I r h;obtain⟨p,ys,rfl,hq,q⟩:=h;obtain⟨u,rfl,rx⟩:=vals1 r;cases rx;have hn:=Zi0;rcases hq with hq | hq
 ·obtain⟨its,r',pl,hz⟩:=I.list hq
  have hlen:=r'.length;exact Calls.call_len_list pl.isList (by simp only[ZzN]<;>omega) ⟨.int ys.length,H,I.tok _,⟨s.toks+1,by rw[ZzN,hlen]⟩,q⟩
 ·obtain⟨its,r',pl,hz⟩:=I.tuple hq
  have hlen:=r'.length;exact len_tuple pl (by simp only[ZzN]<;>omega) ⟨.int ys.length,H,I.tok _,⟨s.toks+1,by rw[ZzN,hlen]⟩,q⟩
theorem ZaQ.or{f:Value}{r r':List V->Hp->VK->Prop}(h:ZaQ X f r)(h':ZaQ X f r'):ZaQ X f (λxs H Q=>r xs H Q\/r' xs H Q):=by
 intro pins s σ H xs us Q I rs q;rcases q with q | q
 ·exact h pins s σ H xs us Q I rs q
 ·exact h' pins s σ H xs us Q I rs q
theorem Zn1:ZaQ X (.type "list") (λxs H Q=>∃p ys,xs=[.ref p]/\(SqL X.K H p ys\/SqT X.K H p ys)/\∀l,H l=Z_->Q (.ref l) (upd H l (.lst ys))):=by
 intro pins s σ H xs us Q I r h;obtain⟨p,ys,rfl,hq,q⟩:=h;obtain⟨u,rfl,rx⟩:=vals1 r;cases rx;have fin:∀(its:List Value),Vals ys its->ys.length<=sizeLine->∀(h':Heap) (c':Nat),(∀b o',s.heap.get? b=Z o'->h'.get? b=Z o') ->
   h'.get? s.heap.objs.size=Z { cls:=.type "list",dict:=Z_,data:=.seq its.toArray c',slots:=#[] }->EP X pins σ Q (.ref s.heap.objs.size) { s with heap:=h' }:=λits r' hz h' c' kp e =>
  ⟨.ref s.heap.objs.size,_,I.laid (t':=s.toks) kp (ZzH _) (show Z4 X.prog X.w _ h' _ (.lst ys) from⟨hz,its,c',r',e⟩),rfl,q _ (I.hok.fresh (ZzH _))⟩
 rcases hq with hq | hq
 ·obtain⟨its,r',pl,hz⟩:=I.list hq
  have hlen:=r'.length;obtain⟨o,ho,hc,n,hd⟩:=pl.isList;exact call_list_seq p (.inl rfl) ho hc hd (λh' c' kp e=>fin its r' hz h' c' kp e) (by simp only[ZzN]<;>omega)
 ·obtain⟨its,r',pl,hz⟩:=I.tuple hq
  have hlen:=r'.length;obtain⟨o,ho,hc,n,hd⟩:=pl;exact call_list_seq p (.inr rfl) ho hc hd (λh' c' kp e=>fin its r' hz h' c' kp e) (by simp only[ZzN]<;>omega)
theorem ZmT:ZaQ X (.type "tuple") (λxs H Q=>∃p ys,xs=[.ref p]/\((SqL X.K H p ys/\∀l,H l=Z_->Q (.ref l) (upd H l (.tup ys)))\/(SqT X.K H p ys/\Q (.ref p) H))):=by
 intro pins s σ H xs us Q I r h;obtain⟨p,ys,rfl,h⟩:=h;obtain⟨u,rfl,rx⟩:=vals1 r;cases rx;rcases h with⟨hq,q⟩ | ⟨hq,q⟩
 ·obtain⟨its,r',pl,hz⟩:=I.list hq
  have hlen:=r'.length;refine call_tuple_list pl.isList (λh' kp=>?_) (by simp only[ZzN]<;>omega);have I1:Inv X pins σ H { s with heap:=h' }:=I.kept (t':=s.toks) kp;have I2:Inv X pins σ (upd H h'.objs.size (.tup ys)) { s with heap:=h'.push { cls:=.type "tuple",data:=.seq its.toArray } } :=
   I1.laid (t':=s.toks) (λb o e=>ZzA _ e) (ZzH _) (show Z4 X.prog X.w _ _ _ (.tup ys) from⟨hz,its,r',ZD9 _ _⟩)
  exact⟨.ref h'.objs.size,_,I2,rfl,q _ (I1.hok.fresh (ZzH _))⟩
 ·obtain⟨its,r',pl,hz⟩:=I.tuple hq
  exact call_tuple_same pl ⟨.ref p,H,I,rfl,q⟩
def tyV(K:Zzx)(T:String)(x:V)(H:Hp):Prop:=match x with
 | .str _=>T = "str"
 | .int _=>T = "int"
 | .ref p=>(T = "list"/\∃xs,SqL K H p xs)\/(T = "tuple"/\∃o,K.lookup p=Z o/\o.cls=.type "tuple"/\o.dict=Z_) \/
   (T = "dict"/\((∃kvs,H p=Z (.dK kvs))\/∃kvs,H p=Z (.dT kvs)))\/(T = "set"/\∃S n,H p=Z (.set S n))
 | _=>False
theorem Zsz{T:String}{v:Value}(I:Inv X pins σ H s)(r:RelV x v)(ty:tyV X.K T x H) :
  s.TypeIs v T/\∀a,v=.ref a->∃ob,s.heap.get? a=Z ob/\ob.dict=Z_:=by
 cases x with
 | str z=>obtain⟨t,rfl⟩:=r;cases(show T = "str" from ty);exact⟨typeIs_str s z t,λ_ e=>nomatch e⟩
 | int i=>obtain⟨t,rfl⟩:=r;cases(show T = "int" from ty);exact⟨ZDI s i t,λ_ e=>nomatch e⟩
 | ref p =>
  cases r;rcases ty with⟨rfl,xs,hq⟩ | ⟨rfl,o,hk,hc,hd⟩ | ⟨rfl,hk⟩ | ⟨rfl,S,n,hk⟩
  ·obtain⟨its,_,pl,_⟩:=I.list hq
   refine⟨pl.isList.typeIs,λa e=>?_⟩;cases e;obtain⟨o,n,e,c,hd,_⟩:=pl;exact⟨o,e,hd⟩
  ·refine⟨⟨o,I.kIn p o hk,hc⟩,λa e=>?_⟩
   cases e;exact⟨o,I.kIn _ o hk,hd⟩
  ·have z:∃o,s.heap.get? p=Z o/\o.ExactDict:=by
    rcases hk with⟨kvs,hk⟩ | ⟨kvs,hk⟩
    ·obtain⟨_,_,_,_,o,_,_,e,ex,_⟩:=I.hok p _ hk
     exact⟨o,e,ex⟩
    ·obtain⟨_,_,_,_,o,_,_,e,ex,_⟩:=I.hok p _ hk
     exact⟨o,e,ex⟩
   obtain⟨o,e,ex⟩:=z;refine⟨⟨o,e,ex.1⟩,λa e2=>?_⟩;cases e2;exact⟨o,e,ex.2.1⟩
  ·obtain⟨o,_,_,_,e,ex,_⟩:=I.hok p _ hk
   refine⟨⟨o,e,ex.1⟩,λa e2=>?_⟩;cases e2;exact⟨o,e,ex.2.1⟩
 | _=>exact ZAp ty
def Zy4(K:Zzx)(T:String)(r:V->List V->Hp->VK->Prop)(to:TE):TE:=λσ H Q=>to σ H λx H1=>tyV K T x H1/\r x [] H1 Q
def tBM(K:Zzx)(T:String)(r:V->List V->Hp->VK->Prop)(to:TE)(t:TA):TE:=λσ H Q=>to σ H λx H1=>tyV K T x H1/\t σ H1 λxs H2=>r x xs H2 Q
variable{o e:Expr}{es:List Expr}{to:TE}{t:TA}{name:Str}{apos cpos:Pos}{T id:String}{r:V->List V->Hp->VK->Prop}
theorem Zxl(pa:PlainAttrs T)(slot:Slot T name id)(hty:typeOf (.builtin id)=pure (.type "method_descriptor"))(hm:MtR X id r)(ho:PE X o to)
  (hbase:ZBM o name X.env (eval o X.env)=eval o X.env:=by rfl) (hline:(apos.endLine==cpos.line)=ZEN:=by rfl):PE X (.Call (.Attribute o name apos) [] [] cpos) (Zy4 X.K T r to):=by
 intro pins s σ H Q I h;refine wpAny_Call_method0_late hbase hline (thn (ho pins s σ H _ I h) λv s1 ⟨x,H1,I1,r1,ty,q1⟩=>?_);obtain⟨h1,h2⟩:=Zsz I1 r1 ty;exact⟨T,id,pa,slot,hty,h1,h2,ZCe rfl (PySem.evalArgs_none (hm pins s1 σ H1 x [] v [] Q I1 r1 .nil q1))⟩
theorem Zrt(pa:PlainAttrs T)(slot:Slot T name id)(hty:typeOf (.builtin id)=pure (.type "method_descriptor"))(hm:MtR X id r)(ho:PE X o to)(ha:PA X (e::es) t)
  (hbase:ZBM o name X.env (eval o X.env)=eval o X.env:=by rfl)
  (hfew:((backTo cpos (ZzC (e::es) X.env)).all (λx=>!x.1)&&(ZDV cpos (ZCW [] X.env)).all (λx=>x.1.isSome)
   && decide ((e::es).length+([]:List Keyword).length+(if([]:List Keyword).isEmpty then 0 else 1)<30))=ZEN:=by rfl)
  (hline:(apos.endLine==cpos.line)=ZEN:=by rfl) (hs:ZzC (e::es) X.env=(ZEO,eval e X.env)::ZzC es X.env:=by rfl) (hplain:(backTo cpos (ZzC es X.env)).any (·.1)=ZEO:=by rfl) :
  PE X (.Call (.Attribute o name apos) (e::es) [] cpos) (tBM X.K T r to t):=by
 intro pins s σ H Q I h;refine wpAny_Call_method_late hbase hfew hline rfl (thn (ho pins s σ H _ I h) λv s1 ⟨x,H1,I1,r1,ty,q1⟩=>?_);obtain⟨h1,h2⟩:=Zsz I1 r1 ty;refine⟨T,id,pa,slot,hty,h1,h2,?_⟩;have hA:=ha cpos pins s1 σ H1 _ I1 q1;rw[hs]at hA ⊢;refine ZCe (by show(ZEO||(backTo cpos (ZzC es X.env)).any (·.1))=ZEO; rw[hplain]<;>rfl) (ZCo ?_);exact thn hA λus s2 ⟨vs,H2,I2,r2,q2⟩=>hm pins s2 σ H2 x vs v us Q I2 r1 r2 q2
end
end L2
namespace L2
open PySem PySem.Spec PyProof.Rows
variable{its:List Value}{n t':Nat}
def MtM(X:Cx)(id:String)(r:V->List V->Hp->VK->Prop):Prop :=
 ∀(pins:List (Addr × Obj)) (s:Shared) (σ:St) (H:Hp) (x:V) (xs:List V) (v:Value) (us:List Value) (Q:VK),Inv X pins σ H s->RelV x v->Vals xs us->r x xs H Q ->
  wpAny (model X.prog X.w) X.A (call (.builtin id) (v::us)) (EP X pins σ Q) X.xe s
theorem Vals.one:∀{x:V} {us:List Value},Vals [x] us->∃u,us=[u]/\RelV x u
 | _,_,.cons r .nil=>⟨_,rfl,r⟩
theorem Vals.zero:∀{us:List Value},Vals [] us->us=[]
 | _,.nil=>rfl
theorem Vals.dropLast{xs:List V}{us:List Value}(h:Vals xs us):Vals xs.dropLast us.dropLast:=by
 induction h with
 | nil=>exact .nil
 | cons r t ih =>
  cases t with
  | nil=>exact .nil
  | cons q t'=>exact .cons r ih
theorem Vals.rep{xs:List V}{us:List Value}(h:Vals xs us):∀k:Nat,Vals (ZzE k xs).flatten (ZzE k us).flatten
 | 0=>.nil
 | k+1=>by rw[ZBg,ZBg,ZBR,ZBR];exact Vals.append h (Vals.rep h k)
theorem ZqQ{α:Type}(l:List α):l.eraseIdx (l.length-1)=l.dropLast:=by
 induction l with
 | nil=>rfl
 | cons a r ih =>
  cases r with
  | nil=>rfl
  | cons b r =>
   have e:(a::b::r).length-1=((b::r).length-1)+1:=by have h1:(a::b::r).length=r.length+2:=rfl;have h2:(b::r).length=r.length+1:=rfl;omega
   rw[e,List.eraseIdx_cons_succ,ih]
   all_goals rfl
theorem foldl_rep(its:List Value):∀(k:Nat) (acc:List Value),
  ZDJ (λx1 x2=>x1++x2) acc.toArray (ZzE k its.toArray)=(acc++(ZzE k its).flatten).toArray
 | 0,acc=>by simp
 | k+1,acc=>by
  have e:acc.toArray++its.toArray=(acc++its).toArray:=by simp
  have e2:(acc++its)++(ZzE k its).flatten=acc++(ZzE (k+1) its).flatten:=by rw[ZBg,ZBR,ZBx]
  rw[<-e2,<-foldl_rep its k (acc++its),<-e,ZBg,ZBq]
section
variable{X:Cx}{pins:List (Addr × Obj)}{σ:St}{H:Hp}{s:Shared}{l b:Addr}{xs ys zs:List V}
theorem Inv.lset{its':List Value}{f:Array Value->Array Value}(I:Inv X pins σ H s)(hH:H l=Z (.lst xs))
  (e:s.heap.get? l=Z { cls:=.type "list",data:=.seq its.toArray n }) (hf:f its.toArray=its'.toArray) (hv:Vals ys its') (hz:ys.length<=sizeLine) :
  Inv X pins σ (upd H l (.lst ys)) { s with heap:=s.heap.update l (ZCH f),toks:=t' }:=by
 have q:=PySem.IsL.update e f;rw[hf]at q;refine I.write (x:=l) (e:=l) (by rw[hH]; exact trivial) (.inl rfl) (λb' u hb hu=>(ZAY s.heap (ZCH f) (ZAG hb)).trans hu) ⟨_,q⟩ ?_;exact⟨hz,its',_,hv,q⟩
theorem Inv.lnew(I:Inv X pins σ H s)(hv:Vals ys its)(hz:ys.length<=sizeLine) :
  Inv X pins σ (upd H s.heap.objs.size (.lst ys)) { s with heap:=s.heap.push { cls:=.type "list",data:=.seq its.toArray },toks:=t' } :=
 I.laid (λ_ _ q=>ZzA _ q) (ZzH _) ⟨hz,its,0,hv,ZzP _ rfl⟩
theorem Inv.fresh(I:Inv X pins σ H s):H s.heap.objs.size=Z_:=I.hok.fresh (ZzH _)
theorem Inv.lstM(I:Inv X pins σ H s)(hH:H l=Z (.lst xs)):xs.length<=sizeLine/\∃(its:List Value) (n:Nat),Vals xs its/\xs.length=its.length/\s.heap.get? l=Z { cls:=.type "list",data:=.seq its.toArray n }:=by obtain⟨z,its,n,r,e⟩:=I.hok l _ hH;exact⟨z,its,n,r,r.length,e⟩
theorem ZoC(h:n<=sizeLine):ZB0 n=ZEO:=by unfold ZB0;exact decide_eq_false (by omega)
end
section
variable{X:Cx}
def ZpY:V->List V->Hp->VK->Prop:=λx vs H Q=>∃l xs y,x=.ref l/\vs=[y]/\H l=Z (.lst xs)/\xs.length<sizeLine/\Q .non (upd H l (.lst (xs++[y])))
theorem Zjo:MtM X "list.append" ZpY:=by intro pins s σ H x vs v us Q I rx rv h;obtain⟨l,xs,y,rfl,rfl,hH,hz,q⟩:=h;cases rx;obtain⟨u,rfl,ru⟩:=rv.one;obtain⟨z,its,n,r,hl,e⟩:=I.lstM hH;refine ZC8 F.slot_list_append ⟨_,e,rfl⟩ F.entry_list_append (F.args_list_append_2 _ _) (PySem.list_append l its.toArray n u (by rw[ZzN]; omega)) ⟨e,?_⟩;refine⟨.non,_,I.lset (its':=its++[u]) hH e (by simp) (r.append (.cons ru .nil)) ?_,rfl,q⟩;rw[ZzM,ZAc];omega
def ZvO:V->List V->Hp->VK->Prop:=λx vs H Q=>∃l b xs zs,x=.ref l/\vs=[.ref b]/\H l=Z (.lst xs)/\H b=Z (.lst zs)/\xs.length+zs.length<=sizeLine/\Q .non (upd H l (.lst (xs++zs)))
theorem Zsw:MtM X "list.extend" ZvO:=by
 intro pins s σ H x vs v us Q I rx rv h;obtain⟨l,b,xs,zs,rfl,rfl,hH,hB,hz,q⟩:=h;cases rx;obtain⟨u,rfl,ru⟩:=rv.one;cases ru;obtain⟨z,its,n,r,hl,e⟩:=I.lstM hH;obtain⟨z2,its2,n2,r2,hl2,e2⟩:=I.lstM hB;have hsz:its.toArray.size+its2.toArray.size<=sizeLine:=by rw[ZzN,ZzN]; omega
 have hlong:¬(!its.toArray.isEmpty&&ZB0 (its.toArray.size+its2.toArray.size))=ZEN:=by rw[ZoC hsz,ZEn];exact ZAi
 refine ZC8 F.slot_list_extend ⟨_,e,rfl⟩ F.entry_list_extend (F.args_list_extend_2 _ _)
  (AutoSeq1.list_extend_list_list_0 l its.toArray n b its2.toArray n2 hlong (by rw[ZzN]; omega) (by omega)) ⟨e,e2,?_⟩
 refine⟨.non,_,I.lset (its':=its++its2) hH e (by simp) (r.append r2) ?_,rfl,q⟩;rw[ZzM];omega
def ZyK:V->List V->Hp->VK->Prop:=λx vs H Q=>∃l xs y,x=.ref l/\vs=[]/\H l=Z (.lst xs)/\xs[xs.length-1]?=Z y/\Q y (upd H l (.lst xs.dropLast))
theorem ZxC:MtM X "list.pop" ZyK:=by
 intro pins s σ H x vs v us Q I rx rv h;obtain⟨l,xs,y,rfl,rfl,hH,hy,q⟩:=h;cases rx;have hus:=rv.zero;subst hus;obtain⟨z,its,n,r,hl,e⟩:=I.lstM hH;obtain⟨u,hu,ru⟩:=r.get hy;have hy':its.toArray[its.toArray.size-1]?=Z u:=by show its.toArray[its.length-1]?=Z u;rw[<-ZAw,<-hl];exact hu
 refine ZC8 F.slot_list_pop ⟨_,e,rfl⟩ F.entry_list_pop (F.args_list_pop_1 _) (MeetsSeq.list_pop_last l its.toArray n u hy' (by rw[ZzN]; omega)) ⟨e,?_⟩;refine⟨y,_,I.lset (its':=its.dropLast) hH e ?_ r.dropLast ?_,ru,q⟩
 ·show its.toArray.eraseIdxIfInBounds (its.toArray.size-1)=its.dropLast.toArray
  rw[ZzN,List.eraseIdxIfInBounds_toArray,ZqQ]
 ·rw[List.length_dropLast]
  omega
def ZyZ:R2:=λx y H Q=>∃l b xs zs,x=.ref l/\y=.ref b/\H l=Z (.lst xs)/\H b=Z (.lst zs)/\xs.length+zs.length<=sizeLine/\∀p,H p=Z_->Q (.ref p) (upd H p (.lst (xs++zs)))
theorem ZwY:OpR X (ZBL .Add) ZyZ:=by
 intro pins s σ H x y v u Q I rx ry h;obtain⟨l,b,xs,zs,rfl,rfl,hH,hB,hz,q⟩:=h;cases rx;cases ry;obtain⟨z,its,n,r,hl,e⟩:=I.lstM hH;obtain⟨z2,its2,n2,r2,hl2,e2⟩:=I.lstM hB;refine PySem.P.add_list e e2 ?_ (by rw[ZzN,ZzN]; omega);have ea:its.toArray++its2.toArray=(its++its2).toArray:=by simp
 rw[ea];exact⟨.ref _,_,I.lnew (t':=s.toks) (r.append r2) (by rw[ZzM]; omega),rfl,q _ I.fresh⟩
def ZyF:R2:=λx y H Q=>∃l k xs,x=.ref l/\y=.int k/\H l=Z (.lst xs)/\-(2 ^ 63)<=k/\k<2 ^ 63/\xs.length*k.toNat<=sizeLine /\
 ∀p,H p=Z_->Q (.ref p) (upd H p (.lst (ZzE k.toNat xs).flatten))
theorem len_rep{α:Type}(xs:List α)(k:Nat):(ZzE k xs).flatten.length=k*xs.length:=by
 induction k with
 | zero=>simp
 | succ k ih=>rw[ZBg,ZBR,ZzM,ih,Nat.succ_mul,Nat.add_comm]
theorem Zw6:OpR X (ZBL .Mult) ZyF:=by
 intro pins s σ H x y v u Q I rx ry h;obtain⟨l,k,xs,rfl,rfl,hH,h1,h2,hz,q⟩:=h;cases rx;obtain⟨t,rfl⟩:=ry;obtain⟨z,its,n,r,hl,e⟩:=I.lstM hH;have hlen:its.toArray.size*k.toNat<=sizeLine:=by rw[ZzN,<-hl]; exact hz
 have hcap:¬its.toArray.size*k.toNat > (2 ^ 63-1) / 8:=by
  have:(sizeLine:Nat)<=(2 ^ 63-1) / 8:=by decide
  omega
 have hfit:¬(!Builtin.List.listFitsIndex k)=ZEN:=by rw[fitsIndex_both h1 h2];exact ZAi
 have hlong:¬ZB0 (its.toArray.size*k.toNat)=ZEN:=by rw[ZoC hlen];exact ZAi
 have hnew:ZDJ (λx1 x2=>x1++x2) #[] (ZzE (if its.toArray.isEmpty=ZEN then 0 else k.toNat) its.toArray)=(ZzE k.toNat its).flatten.toArray:=by
  have f0:∀m:Nat,ZDJ (λx1 x2=>x1++x2) #[] (ZzE m its.toArray)=(ZzE m its).flatten.toArray:=λm=>by have:=foldl_rep its m [];rw[ZBr]at this;exact this
  rw[f0];cases its with
  | nil=>simp
  | cons a r'=>rw[if_neg (by simp)]
 refine wpAny_binaryOp_repeat_ref (T:="list") (U:="int") (by decide) ⟨_,e,rfl⟩ (λs'=>ZDI s' k t) noFill_list_mul F.fills_int_mul F.slot_int_rmul repeat_list F.slot_int_index.lookup
  (ZC8 F.slot_int_rmul (ZDI s k t) F.entry_int_rmul (F.args_int_rmul_2 _ _) (int___rmul___int_list k t l its.toArray n)
   ⟨e,rfl,⟨_,e,rfl⟩,ZC8 F.slot_list_mul ⟨_,e,rfl⟩ F.entry_list_mul (F.args_list_mul_2 _ _) (AutoListH.list___mul___list_int_3 l its.toArray n k t hfit hcap hlong) ⟨e,?_⟩⟩)
 rw[hnew];exact⟨.ref _,_,I.lnew (t':=s.toks) (r.rep k.toNat) (by rw[len_rep,Nat.mul_comm]; exact hz),rfl,q _ I.fresh⟩
end
end L2
namespace L2
open PySem PySem.Spec PyProof.Rows
variable{a b:Addr}{X:Cx}{h':Heap}{H H':Hp}{pins:List (Addr × Obj)}{xs:List (List Key × Addr × Value)}{kvs:List (List Key × V)}{o:Option V}{pos:Pos}{P:Program}{s:Shared}{σ:St}{y:V}{u:Value}{Q:Value->Shared->Prop}{w:World}
section
variable{κ:Type}[DecidableEq κ]
def ZaI(kvs:List (κ × V))(k:κ):Option V:=(kvs.find? λkv=>decide (kv.1=k)).map (·.2)
def putK(kvs:List (κ × V))(k:κ)(v:V):List (κ × V) :=
 if(kvs.any λkv=>decide (kv.1=k))=ZEN then kvs.map (λkv=>if kv.1=k then(kv.1,v)else kv)else kvs++[(k,v)]
theorem ZdT{p:κ × V}{r:List (κ × V)}{k:κ}(e:p.1=k):ZaI (p::r) k=Z p.2:=by simp[ZaI,ZAF,e]
theorem ZdZ{p:κ × V}{r:List (κ × V)}{k:κ}(e:¬p.1=k):ZaI (p::r) k=ZaI r k:=by simp[ZaI,ZAF,e]
theorem ZkL(k:κ):∀kvs:List (κ × V),(kvs.any λkv=>decide (kv.1=k))=(ZaI kvs k).isSome
 | []=>rfl
 | p::r=>by
  rw[ZCc]
  by_cases e:p.1=k
  ·simp only[ZdT e,decide_eq_true e,Bool.true_or,Option.isSome_some]
  ·rw[ZdZ e,decide_eq_false e,Bool.false_or]; exact ZkL k r
theorem Zhh(kvs:List (κ × V))(k:κ)(v:V):(putK kvs k v).length<=kvs.length+1:=by
 unfold putK;split
 ·rw[Zzw]; omega
 ·rw[ZzM,ZzS,ZEa]; omega
theorem Zfz.isSome_eq{u:Option Value}(r:Zfz o u):o.isSome=u.isSome:=by
 cases o with
 | none=>cases u with
  | none=>rfl
  | some _=>exact(show False from r).elim
 | some _=>cases u with
  | none=>exact(show False from r).elim
  | some _=>rfl
theorem Zfz.getD{o:Option V}{u:Option Value}{d:V}{d':Value}(r:Zfz o u)(rd:RelV d d'):RelV (o.getD d) (u.getD d'):=by
 cases o with
 | none=>cases u with
  | none=>exact rd
  | some _=>exact(show False from r).elim
 | some _=>cases u with
  | none=>exact(show False from r).elim
  | some _=>exact r
theorem KV.val{kvs:List (κ × V)}{vs:List (κ × Value)}(r:KV kvs vs)(k:κ):Zfz (ZaI kvs k) (valueAt vs k):=by
 unfold KV at r
 induction r with
 | nil=>exact ZCI
 | @cons p q ps qs h t ih =>
  obtain⟨h1,h2⟩:=h
  by_cases e:p.1=k
  ·have e':q.1=k:=h1.symm.trans e
   have b:valueAt (q::qs) k=Z q.2:=by simp[valueAt,ZAF,e']
   rw[ZdT e,b]; exact h2
  ·have e':¬q.1=k:=λz=>e (h1.trans z)
   have b:valueAt (q::qs) k=valueAt qs k:=by simp[valueAt,ZAF,e']
   rw[ZdZ e,b]; exact ih
theorem KV.any{kvs:List (κ × V)}{vs:List (κ × Value)}(r:KV kvs vs)(k:κ):(kvs.any λkv=>decide (kv.1=k))=vs.any λkv=>decide (kv.1=k):=by
 unfold KV at r
 induction r with
 | nil=>rfl
 | cons h t ih=>rw[ZCc,ZCc,ih,h.1]
theorem KV.repl{kvs:List (κ × V)}{vs:List (κ × Value)}(r:KV kvs vs)(k:κ)(ry:RelV y u) :
  KV (kvs.map λkv=>if kv.1=k then(kv.1,y)else kv) (vs.map λkv=>if kv.1=k then(kv.1,u)else kv):=by
 unfold KV at r ⊢
 induction r with
 | nil=>exact .nil
 | @cons p q ps qs h t ih =>
  rw[ZzG,ZzG];refine .cons ?_ ih;obtain⟨h1,h2⟩:=h
  by_cases e:p.1=k
  ·rw[if_pos e,if_pos (h1.symm.trans e)]; exact⟨h1,ry⟩
  ·rw[if_neg e,if_neg (λz=>e (h1.trans z))]; exact⟨h1,h2⟩
theorem KV.put{kvs:List (κ × V)}{vs:List (κ × Value)}(r:KV kvs vs)(k:κ)(ry:RelV y u):KV (putK kvs k y) (stored vs k u):=by
 unfold putK stored;rw[r.any k]
 by_cases e:(vs.any λkv=>decide (kv.1=k))=ZEN
 ·rw[if_pos e,if_pos e]; exact r.repl k ry
 ·rw[if_neg e,if_neg e]; exact Paired.snoc r ⟨rfl,ry⟩
theorem KV.length{kvs:List (κ × V)}{vs:List (κ × Value)}(r:KV kvs vs):kvs.length=vs.length:=ZCb r
end
theorem ZhR{k:Key}(r:RelV (kV k) u):(Zaq P w).is k u=ZEN:=by
 cases k with
 | inl i=>obtain⟨t,e⟩:=(show ∃t,u=ZBl i t from r); subst e; exact ZpP P w i t
 | inr x=>obtain⟨t,e⟩:=(show ∃t,u=Value.str x t from r); subst e; exact ZpQ P w x t
theorem Zl6{P:Program}{w:World}:∀{ks:List Key} {us:List Value},Vals (ks.map kV) us->ItemsAre (Zaq P w) ks us
 | [],_,r=>by rw[ZB1]at r; cases r; exact .nil
 | k::ks,_,r=>by
  rw[ZzG]at r;cases r with
  | cons h t=>exact .cons (ZhR h) (Zl6 t)
abbrev KT(H:Hp):List (List Key × V)->List (List Key × Addr × Value)->Prop:=Paired λp q=>p.1=q.1/\H q.2.1=Z (.tup (p.1.map kV))/\RelV p.2 q.2.2
theorem KT.val(r:KT H kvs xs)(k:List Key):Zfz (ZaI kvs k) ((atKey xs k).map (·.2)):=by
 induction r with
 | nil=>exact ZCI
 | @cons p q ps qs h t ih =>
  obtain⟨h1,_,h2⟩:=h
  by_cases e:p.1=k
  ·have e':q.1=k:=h1.symm.trans e
   have b:atKey (q::qs) k=Z q.2:=by simp[atKey,ZAF,e']
   rw[ZdT e,b]; exact h2
  ·have e':¬q.1=k:=λz=>e (h1.trans z)
   have b:atKey (q::qs) k=atKey qs k:=by simp[atKey,ZAF,e']
   rw[ZdZ e,b]; exact ih
theorem KT.repl(r:KT H kvs xs)(k:List Key)(ry:RelV y u) :
  KT H (kvs.map λkv=>if kv.1=k then(kv.1,y)else kv) (xs.map (putAt k u)):=by
 induction r with
 | nil=>exact .nil
 | @cons p q ps qs h t ih =>
  rw[ZzG,ZzG];refine .cons ?_ ih;obtain⟨h1,h2,h3⟩:=h;unfold putAt
  by_cases e:p.1=k
  ·rw[if_pos e,if_pos (h1.symm.trans e)]; exact⟨h1,h2,ry⟩
  ·rw[if_neg e,if_neg (λz=>e (h1.trans z))]; exact⟨h1,h2,h3⟩
theorem KT.put(r:KT H kvs xs)(k:List Key)(hb:H b=Z (.tup (k.map kV)))(ry:RelV y u) :
  KT H (putK kvs k y) (storedH xs k b u):=by
 have e:(kvs.any λkv=>decide (kv.1=k))=(atKey xs k).isSome:=by rw[ZkL,(r.val k).isSome_eq,ZBe]
 unfold putK storedH;rw[e]
 by_cases q:(atKey xs k).isSome=ZEN
 ·rw[if_pos q,if_pos q]; exact r.repl k ry
 ·rw[if_neg q,if_neg q]; exact Paired.snoc r ⟨rfl,hb,ry⟩
theorem KT.keeps(r:KT H kvs xs)(ht:∀b ys,H b=Z (.tup ys)->H' b=Z (.tup ys)):KT H' kvs xs :=
 Paired.mapP r λ_ _ z=>⟨z.1,ht _ _ z.2.1,z.2.2⟩
section
variable{P:Program}{w:World}{H:Hp}{h:Heap}{a:Addr}
theorem Zll{u:HO}(ok:HOk P w H h)(e:Rd H a u):Z4 P w H h a u:=e.ok ok
theorem ZgE{kvs:List (Key × V)}(ok:HOk P w H h)(e:Rd H a (.dK kvs)):kvs.length<=sizeLine/\(a==ZA4)=ZEO/\∃vs,KV kvs vs/\h.DictOf (Zaq P w) a vs :=
 show Z4 P w H h a (.dK kvs) from Zll ok e
theorem Zri{kvs:List (Key × V)}(ok:HOk P w H h)(e:H a=Z (.dK kvs)):kvs.length<=sizeLine/\(a==ZA4)=ZEO/\∃vs,KV kvs vs/\h.DictOf (Zaq P w) a vs:=ZgE ok (.inl e)
theorem Zgu{ks:List Key}(ok:HOk P w H h)(e:H a=Z (.tup (ks.map kV))):(ZCA (Zaq P w)).is h ks a:=by obtain⟨_,its,r,o,h1,h2,n,h3⟩:=(show Z4 P w H h a (.tup (ks.map kV)) from ok a _ e);exact⟨o,its.toArray,n,h1,h2,h3,by simpa using Zl6 r⟩
theorem Zib(ok:HOk P w H h)(e:Rd H a (.dT kvs)):kvs.length<=sizeLine/\(a==ZA4)=ZEO /\
  ∃xs,KT H kvs xs/\h.DictOfH (ZCA (Zaq P w)) a xs:=by
 obtain⟨z,y,xs,r,o,es,ep,h1,h2,h3,h4,h5⟩:=(show Z4 P w H h a (.dT kvs) from Zll ok e);refine⟨z,y,xs,r,o,es,ep,h1,h2,h3,h4,λx hx=>?_,h5⟩;have all:∀{l:List (List Key × V)} {m:List (List Key × Addr × Value)},KT H l m->∀x∈m,(ZCA (Zaq P w)).is h x.1 x.2.1:=by
  intro l m q
  induction q with
  | nil=>intro x hx; exact nomatch hx
  | @cons p q ps qs hq t ih =>
   intro x hx;rcases ZzK.mp hx with e | hx
   ·subst e
    exact Zgu ok (by rw[<-hq.1]; exact hq.2.1)
   ·exact ih x hx
 exact all r x hx
theorem Zuz(ok:HOk P w H h)(e:H a=Z (.dT kvs)):kvs.length<=sizeLine/\(a==ZA4)=ZEO /\
  ∃xs,KT H kvs xs/\h.DictOfH (ZCA (Zaq P w)) a xs:=Zib ok (.inl e)
end
def Zdo(H:Hp)(a:Addr)(y:V)(r:Option V):Prop :=
 (∃kvs k,Rd H a (.dK kvs)/\y=kV k/\r=ZaI kvs k)\/∃kvs k b,Rd H a (.dT kvs)/\y=.ref b/\H b=Z (.tup (k.map kV))/\r=ZaI kvs k
def Zi9(H:Hp)(a:Addr)(y v:V)(H':Hp):Prop :=
 (∃kvs k,H a=Z (.dK kvs)/\y=kV k/\kvs.length<sizeLine/\H'=upd H a (.dK (putK kvs k v))) \/
 ∃kvs k b,H a=Z (.dT kvs)/\y=.ref b/\H b=Z (.tup (k.map kV))/\kvs.length<sizeLine/\H'=upd H a (.dT (putK kvs k v))
theorem Zdo.k{H:Hp}{a:Addr}{kvs:List (Key × V)}{k:Key}(e:H a=Z (.dK kvs)):Zdo H a (kV k) (ZaI kvs k):=.inl ⟨kvs,k,.inl e,rfl,rfl⟩
theorem Zdo.t{k:List Key}(e:H a=Z (.dT kvs))(eb:H b=Z (.tup (k.map kV))):Zdo H a (.ref b) (ZaI kvs k):=.inr ⟨kvs,k,b,.inl e,rfl,eb,rfl⟩
theorem Zi9.k{H:Hp}{a:Addr}{kvs:List (Key × V)}{k:Key}{v:V}(e:H a=Z (.dK kvs))(hl:kvs.length<sizeLine):Zi9 H a (kV k) v (upd H a (.dK (putK kvs k v))):=.inl ⟨kvs,k,e,rfl,hl,rfl⟩
theorem Zi9.t{k:List Key}{v:V}(e:H a=Z (.dT kvs))(eb:H b=Z (.tup (k.map kV)))(hl:kvs.length<sizeLine) :
  Zi9 H a (.ref b) v (upd H a (.dT (putK kvs k v))):=.inr ⟨kvs,k,b,e,rfl,eb,hl,rfl⟩
section
variable{X:Cx}{pins:List (Addr × Obj)}{σ:St}{H:Hp}{s:Shared}{a:Addr}{y v:V}{u r:Value}{o:Option V}{A:Around}{E:Value->Shared->Prop}
theorem Inv.big(I:Inv X pins σ H s):ZA4<s.heap.objs.size:=by have h:ZAb<s.heap.objs.size:=(I.mod.glob.keeps I.bk).lt;exact ZBs (by decide) h
theorem ZsU(hu:A.units+1<cLine)(I:Inv X pins σ H s)(g:Zdo H a y (Z v))(ry:RelV y u)(h:∀w' s',Inv X pins σ H s'->RelV v w'->Q w' s') :
  wpAny (model X.prog X.w) A (getItem (.ref a) u) Q E s:=by
 rcases g with⟨kvs,k,e,ey,l⟩ | ⟨kvs,k,b,e,ey,eb,l⟩
 ·subst ey
  obtain⟨z,hd,vs,rel,dd⟩:=ZgE I.hok e;obtain⟨w',hw,rw'⟩:=Zfz.some_of (v:=v) (o:=valueAt vs k) (by rw[l]; exact rel.val k);exact wpAny_getItem_of (ZhR ry) dd.mapOf hw (h w' _ (I.tok _) rw')
 ·subst ey
  cases(show u=ZAh b from ry);obtain⟨z,hd,xs,rel,dd⟩:=Zib I.hok e;obtain⟨w',hw,rw'⟩:=Zfz.some_of (v:=v) (o:=(atKey xs k).map (·.2)) (by rw[l]; exact rel.val k);obtain⟨p,hp,hp2⟩:=Zzy.mp hw;refine wpAny_getItem_heap (ZBH hu) (Zgu I.hok eb) dd hp ?_;rw[hp2];exact h w' _ (I.tok _) rw'
theorem ZyT(hu:A.units+1<cLine)(I:Inv X pins σ H s)(g:Zdo H a y o)(ry:RelV y u)(h:∀s',Inv X pins σ H s'->Q (.bool o.isSome) s') :
  wpAny (model X.prog X.w) A (ZAU .In u (.ref a)) Q E s:=by
 rcases g with⟨kvs,k,e,ey,l⟩ | ⟨kvs,k,b,e,ey,eb,l⟩
 ·subst ey
  obtain⟨z,hd,vs,rel,dd⟩:=ZgE I.hok e;refine wpAny_in_of (ZhR ry) hd dd.mapOf ?_;rw[<-(rel.val k).isSome_eq,<-l];exact h _ (I.tok _)
 ·subst ey
  cases(show u=ZAh b from ry);obtain⟨z,hd,xs,rel,dd⟩:=Zib I.hok e;refine wpAny_in_heap (ZBH hu) (Zgu I.hok eb) hd dd ?_;have q:=(rel.val k).isSome_eq;rw[ZBe]at q;rw[<-q,<-l];exact h _ (I.tok _)
theorem ZuT(hu:A.units+1<cLine)(I:Inv X pins σ H s)(g:Zdo H a y o)(ry:RelV y u)(h:∀s',Inv X pins σ H s'->Q (.bool (!o.isSome)) s') :
  wpAny (model X.prog X.w) A (ZAU .NotIn u (.ref a)) Q E s:=by
 rcases g with⟨kvs,k,e,ey,l⟩ | ⟨kvs,k,b,e,ey,eb,l⟩
 ·subst ey
  obtain⟨z,hd,vs,rel,dd⟩:=ZgE I.hok e;refine wpAny_notIn_of (ZhR ry) hd dd.mapOf ?_;rw[<-(rel.val k).isSome_eq,<-l];exact h _ (I.tok _)
 ·subst ey
  cases(show u=ZAh b from ry);obtain⟨z,hd,xs,rel,dd⟩:=Zib I.hok e;refine wpAny_notIn_heap (ZBH hu) (Zgu I.hok eb) hd dd ?_;have q:=(rel.val k).isSome_eq;rw[ZBe]at q;rw[<-q,<-l];exact h _ (I.tok _)
theorem ZjJ{t':Nat}{ob:HO}(I:Inv X pins σ H s)(mu:Mut (H a))(hs:ZA6 a s.heap h')(he:∃q,h'.get? a=Z q)(new:Z4 X.prog X.w (upd H a ob) h' a ob) :
  Inv X pins σ (upd H a ob) { s with heap:=h',toks:=t' } :=
 I.write (x:=a) (e:=a) mu (.inl rfl) (λb q hb z=>(hs.2 b hb).trans z) he new
theorem ZrU{kvs:List (Key × V)}{vs:List (Key × Value)}(z:kvs.length<=sizeLine)(hd:(a==ZA4)=ZEO)(rel:KV kvs vs)(dd:h'.DictOf (Zaq P w) a vs) :
  Z4 P w H' h' a (.dK kvs):=⟨z,hd,vs,rel,dd⟩
theorem Zr0{Q:Unit->Shared->Prop}(hu:A.units+1<cLine)(I:Inv X pins σ H s)(g:Zi9 H a y v H')(ry:RelV y u)(rv:RelV v r)(h:∀s',Inv X pins σ H' s'->Q () s') :
  wpAny (model X.prog X.w) A (setItem (.ref a) u r) Q E s:=by
 rcases g with⟨kvs,k,e,ey,l,eH⟩ | ⟨kvs,k,b,e,ey,eb,l,eH⟩
 ·subst ey eH
  obtain⟨z,hd,vs,rel,dd⟩:=Zri I.hok e;have hz:vs.length<=sizeLine:=by rw[<-rel.length]; exact z
  have hl:(putK kvs k v).length<=sizeLine:=by have:=Zhh kvs k v; omega
  refine wpAny_setItem_pairs (hsz:=hz) (ZhR ry) dd λh' dd' hs=>h _ ?_;have he:∃q,h'.get? a=Z q:=let ⟨q,_,_,hq,_⟩:=dd'; ⟨q,hq⟩
  exact ZjJ I (by rw[e]; exact ZCI) hs he (ZrU hl hd (rel.put k rv) dd')
 ·subst ey eH
  cases(show u=ZAh b from ry);obtain⟨z,hd,xs,rel,dd⟩:=Zuz I.hok e;have hz:xs.length<=sizeLine:=by rw[<-ZCb rel]; exact z
  have hl:(putK kvs k v).length<=sizeLine:=by have:=Zhh kvs k v; omega
  refine wpAny_setItem_heap (hsz:=hz) (ZBH hu) (Zgu I.hok eb) dd λh' dd' hs=>h _ ?_;obtain⟨q,es,ep,hq,h2,h3,h4,_,h5⟩:=dd';refine ZjJ I (by rw[e]; exact ZCI) hs ⟨q,hq⟩ ⟨hl,hd,_,(rel.put k eb rv).keeps λc ys ec=>?_,q,es,ep,hq,h2,h3,h4,h5⟩;rw[Zx (Zux ec e (λz=>nomatch z))];exact ec
end
section
variable{X:Cx}{pins:List (Addr × Obj)}{σ:St}{H:Hp}{s:Shared}{a:Addr}{kvs:List (Key × V)}{k:Key}{u:Value}{A:Around}{E:Value->Shared->Prop}
theorem Zx2(I:Inv X pins σ H s)(e:Rd H a (.dK kvs))(h:∀t s',Inv X pins σ H s'->Q (.int kvs.length t) s'):wpAny (model X.prog X.w) A (call (.builtin "len") [.ref a]) Q E s:=by obtain⟨z,hd,vs,rel,dd⟩:=ZgE I.hok e;refine call_len_dict hd dd (by rw[<-rel.length]; rw[ZAS]at z; omega) ?_;rw[<-rel.length];exact h _ _ (I.tok _)
end
def ZqY(i:Expr):Prop:=∀ov iv,ZEh i ZEO ov iv=operate [ov,iv] (getItem ov iv)
theorem ZvP{prog:Program}{A:Around}{E:Value->Shared->Prop}{env:Env}{value slice:Expr}{T id:String}
  (hl:typeLookup (.type T) "__getitem__" = pure (Z (.builtin id))) (hs:ZqY slice)
  (h:wpAny (model prog w) A (eval value env) (λo s₁=>wpAny (model prog w) A (eval slice env) (λi s₂=>s₂.TypeIs o T/\wpAny (model prog w) A (getItem o i) Q E s₂) E s₁) E s) :
  wpAny (model prog w) A (eval (.Subscript value slice pos) env) Q E s:=by
 refine Subscript_ (ZAD h (λo s₁ h₁=>ZAD h₁ (λi s₂ h₂=>?_) λ_ _ x=>x) λ_ _ x=>x);obtain⟨hT,h₂⟩:=h₂;unfold subscriptTail;refine Zzv ?_;rw[getitemInPython_of_ne hT.not_modules];refine Zzv (wpAny_specialOf hT hl ?_);have fin:wpAny (model prog w) A (ZEh slice ZEO o i) (λr s₃=>wpAny (model prog w) A (letTemporaryGo value o r >>= λ_=>pure r) Q E s₃) E s₂:=by rw[hs o i];exact wpAny_operating (ZAD h₂ (λr s₃ h₃=>Zzv (wpAny_letTemporaryGo (Zzz h₃))) λ_ _ x=>x)
 first
  | exact Zzz (Zzv fin)
  | exact Zzv (Zzz (Zzv fin))
  | exact Zzv fin
theorem ZpG(I:Inv X pins σ H s)(g:Zdo H a y o):s.TypeIs (.ref a) "dict":=by
 rcases g with⟨kvs,k,e,_,_⟩ | ⟨kvs,k,b,e,_,_,_⟩
 ·obtain⟨_,_,vs,_,dd⟩:=ZgE I.hok e
  exact dd.typeIs
 ·obtain⟨_,_,xs,_,dd⟩:=Zib I.hok e
  exact dd.typeIs
def ZxW(td ty:TE):TE:=λσ H Q=>td σ H λx H1=>ty σ H1 λy H2=>∃a v,x=.ref a/\Zdo H2 a y (Z v)/\Q v H2
def ZyD(ty td:TE):TE:=λσ H Q=>ty σ H λy H1=>td σ H1 λx H2=>∃a o,x=.ref a/\Zdo H2 a y o/\Q (.bl o.isSome) H2
def Zu2(ty td:TE):TE:=λσ H Q=>ty σ H λy H1=>td σ H1 λx H2=>∃a o,x=.ref a/\Zdo H2 a y o/\Q (.bl (!o.isSome)) H2
def ZxP(td ty tv:TE):TS:=λD σ H=>tv σ H λv H1=>td σ H1 λx H2=>ty σ H2 λy H3=>∃a H4,x=.ref a/\Zi9 H3 a y v H4/\D.nx σ H4
section
variable{X:Cx}{o i e value:Expr}{pos pos' tpos:Pos}{td ty tv:TE}
theorem Zqa(hu:X.A.units+1<cLine)(ho:PE X o td)(hi:PE X i ty)(hs:ZqY i):PE X (.Subscript o i pos) (ZxW td ty):=by intro pins s σ H Q I h;refine ZvP PySem.F.slot_dict_getitem.lookup hs (thn (ho pins s σ H _ I h) λu s1 ⟨x,H1,I1,rx,q1⟩=>thn (hi pins s1 σ H1 _ I1 q1) λiv s2 ⟨y,H2,I2,ry,a,v,ex,g,q2⟩=>?_);subst ex;obtain rfl:u=ZAh a:=rx;exact⟨ZpG I2 g,ZsU hu I2 g ry λw' s3 I3 rw'=>⟨v,H2,I3,rw',q2⟩⟩
theorem Zw0(hu:X.A.units+1<cLine)(hi:PE X i ty)(ho:PE X o td):PC X .In i o (ZyD ty td):=by intro pins s σ H Q I h;refine thn (hi pins s σ H _ I h) λiv s1 ⟨y,H1,I1,ry,q1⟩=>thn (ho pins s1 σ H1 _ I1 q1) λu s2 ⟨x,H2,I2,rx,a,ov,ex,g,q2⟩=>?_;subst ex;obtain rfl:u=ZAh a:=rx;exact ZyT hu I2 g ry λs3 I3=>⟨.bl ov.isSome,H2,I3,rfl,q2⟩
theorem Zs2(hu:X.A.units+1<cLine)(hi:PE X i ty)(ho:PE X o td):PC X .NotIn i o (Zu2 ty td):=by intro pins s σ H Q I h;refine thn (hi pins s σ H _ I h) λiv s1 ⟨y,H1,I1,ry,q1⟩=>thn (ho pins s1 σ H1 _ I1 q1) λu s2 ⟨x,H2,I2,rx,a,ov,ex,g,q2⟩=>?_;subst ex;obtain rfl:u=ZAh a:=rx;exact ZuT hu I2 g ry λs3 I3=>⟨.bl (!ov.isSome),H2,I3,rfl,q2⟩
theorem Zqm(hu:X.A.units+1<cLine)(ho:PE X o td)(hi:PE X i ty)(hv:PE X value tv)(hs:ZBG value (Z (.Subscript o i pos')) pos.line X.env=pure ZEO) :
  PS X (.Assign [.Subscript o i pos'] value pos) (ZxP td ty tv):=by
 intro pins s σ H D I h;refine wpAny_Assign_Subscript (thn (hv pins s σ H _ I h) λr s1 ⟨v,H1,I1,rv,q1⟩=>thn (ho pins s1 σ H1 _ I1 q1) λu s2 ⟨x,H2,I2,rx,q2⟩=>thn (hi pins s2 σ H2 _ I2 q2) λiv s3 ⟨y,H3,I3,ry,a,H4,ex,g,q3⟩=>?_) hs;subst ex;obtain rfl:u=ZAh a:=rx;exact Zr0 hu I3 g ry rv λs4 I4=>⟨σ,H4,I4,q3⟩
end
theorem Zop(h:Heap)(hb:ZA4<h.objs.size):Z4 P w H (h.push { cls:=.type "dict",data:=.dict #[] }) h.objs.size (.dK []) :=
 ⟨ZBn _,beq_eq_false_iff_ne.mpr (ZAG (ZzU hb)),[],.nil,Heap.DictOf.new h⟩
theorem Zt3(h:Heap)(hb:ZA4<h.objs.size):Z4 P w H (h.push { cls:=.type "dict",data:=.dict #[] }) h.objs.size (.dT []) :=
 ⟨ZBn _,beq_eq_false_iff_ne.mpr (ZAG (ZzU hb)),[],.nil,_,#[],0,ZzP _ rfl,⟨rfl,rfl,rfl⟩,rfl,rfl,ZBc⟩
def Zxj:TE:=λ_ H Q=>∀p,H p=Z_->Q (.ref p) (upd H p (.dK []))
def Zwm:TE:=λ_ H Q=>∀p,H p=Z_->Q (.ref p) (upd H p (.dT []))
section
variable{X:Cx}{pos:Pos}
theorem Zuk:PE X (.Dict [] [] pos) Zxj:=λpins s σ H Q I h=>wpAny_Dict_empty ⟨.ref s.heap.objs.size,_,I.laid (a:=s.heap.objs.size) (o:=.dK []) (t':=s.toks) (λ_ _ q=>ZzA _ q) (ZzH _) (Zop s.heap I.big),rfl,h _ (I.hok.fresh (ZzH _))⟩
theorem Zoa:PE X (.Dict [] [] pos) Zwm:=λpins s σ H Q I h=>wpAny_Dict_empty ⟨.ref s.heap.objs.size,_,I.laid (a:=s.heap.objs.size) (o:=.dT []) (t':=s.toks) (λ_ _ q=>ZzA _ q) (ZzH _) (Zt3 s.heap I.big),rfl,h _ (I.hok.fresh (ZzH _))⟩
end
def ZnV:List (TE × TE)->St->Hp->(List (V × V)->Hp->Prop)->Prop
 | [],_,H,Q=>Q [] H
 | (tk,tv)::r,σ,H,Q=>tk σ H λx H1=>tv σ H1 λy H2=>ZnV r σ H2 λps H3=>Q ((x,y)::ps) H3
abbrev VV:List (V × V)->List (Value × Value)->Prop:=Paired λp q=>RelV p.1 q.1/\RelV p.2 q.2
def PPs(X:Cx)(pos:Pos)(keys:List (Option Expr))(values:List Expr)(trs:List (TE × TE)):Prop :=
 ∀(pins:List (Addr × Obj)) (s:Shared) (σ:St) (H:Hp) (Q:List (V × V)->Hp->Prop),Inv X pins σ H s->ZnV trs σ H Q ->
  wpAny (model X.prog X.w) X.A (evalPairs (pairTrees keys values X.env pos)) (λvs s'=>∃ps H',Inv X pins σ H' s'/\VV ps vs/\Q ps H') X.xe s
theorem Zvq:PPs X pos [] [] []:=λpins s σ H Q I h=>pairTrees_nil_walk ⟨[],H,I,.nil,h⟩
theorem Zup{k v:Expr}{ks:List (Option Expr)}{vs:List Expr}{tk tv:TE}{trs:List (TE × TE)}(hk:PE X k tk)(hv:PE X v tv)(hr:PPs X pos ks vs trs) :
  PPs X pos (Z k::ks) (v::vs) ((tk,tv)::trs):=λpins s σ H Q I h =>
 pairTrees_cons_walk (thn (hk pins s σ H _ I h) λu s1 ⟨x,H1,I1,rx,q1⟩=>thn (hv pins s1 σ H1 _ I1 q1) λw2 s2 ⟨y,H2,I2,ry,q2⟩=>thn (hr pins s2 σ H2 _ I2 q2) λws s3 ⟨ps,H3,I3,rel,q3⟩=>⟨(x,y)::ps,H3,I3,.cons ⟨rx,ry⟩ rel,q3⟩)
def Zhr(kvs more:List (Key × V)):List (Key × V):=more.foldl (λacc kv=>putK acc kv.1 kv.2) kvs
theorem KV.merge:∀{more:List (Key × V)} {rs:List (Key × Value)} {kvs:List (Key × V)} {vs:List (Key × Value)},KV more rs->KV kvs vs->KV (Zhr kvs more) (merged vs rs):=by
 intro more rs kvs vs r;unfold KV at r
 induction r generalizing kvs vs with
 | nil=>intro q; exact q
 | @cons p q ps qs h t ih =>
  intro r0;have e:KV (putK kvs p.1 p.2) (stored vs q.1 q.2):=by have:=r0.put p.1 h.2;rw[<-h.1]; exact this
  exact ih e
theorem Ziq:∀(more kvs:List (Key × V)),(Zhr kvs more).length<=kvs.length+more.length
 | [],kvs=>by show kvs.length<=kvs.length+0; omega
 | p::r,kvs=>by have h1:=Ziq r (putK kvs p.1 p.2);have h2:=Zhh kvs p.1 p.2;show(Zhr (putK kvs p.1 p.2) r).length<=_;rw[ZzS]; omega
theorem Zk7{P:Program}{w:World}:∀{kvs:List (Key × V)} {ws:List (Value × Value)},VV (kvs.map λkv=>(kV kv.1,kv.2)) ws->∃rs,Carries (Zaq P w) ws rs/\KV kvs rs
 | [],_,r=>by rw[ZB1]at r; cases r; exact⟨[],ZCI,.nil⟩
 | p::kvs,_,r=>by
  rw[ZzG]at r;cases r with
  | @cons a b as bs h t=>obtain⟨rs,c,q⟩:=Zk7 (P:=P) (w:=w) t;obtain⟨b1,b2⟩:=b;exact⟨(p.1,b2)::rs,⟨ZhR h.1,rfl,c⟩,.cons ⟨rfl,h.2⟩ q⟩
def ZxQ(trs:List (TE × TE)):TE:=λσ H Q=>∀p,H p=Z_->ZnV trs σ (upd H p (.dK [])) λps H2=>H2 p=Z (.dK [])/\∃kvs:List (Key × V),ps=kvs.map (λkv=>(kV kv.1,kv.2))/\kvs.length<=15/\Q (.ref p) (upd H2 p (.dK (Zhr [] kvs)))
theorem Zu0{keys:List (Option Expr)}{values:List Expr}{trs:List (TE × TE)}(h:PPs X pos keys values trs)(hall:keys.all (·.isSome)=ZEN)(hl:keys.length=values.length)(h0:keys≠[])
  (h15:keys.length<=15):PE X (.Dict keys values pos) (ZxQ trs):=by
 intro pins s σ H Q I q;have hn:=I.hok.fresh (ZzH s.heap.objs.size);have I1:=I.laid (a:=s.heap.objs.size) (o:=.dK []) (h':=s.heap.push { cls:=.type "dict",data:=.dict #[] }) (t':=s.toks) (λ_ _ q=>ZzA _ q) (ZzH _) (Zop s.heap I.big);refine wpAny_Dict_walk (knd:=Zaq X.prog X.w) hall hl h0 h15 (thn (h pins _ σ _ _ I1 (q _ hn)) λws s2 ⟨ps,H2,I2,rel,e,kvs,ep,lk,q2⟩=>?_);subst ep;obtain⟨rs,c,rk⟩:=Zk7 (P:=X.prog) (w:=X.w) rel;obtain⟨z,hd,vs0,r0,dd⟩:=Zri I2.hok e;cases r0;refine⟨rs,c,dd,λh' dd' hs=>⟨.ref s.heap.objs.size,_,?_,rfl,q2⟩⟩;have hz:(Zhr [] kvs).length<=sizeLine:=by have h1:=Ziq kvs [];rw[ZEa]at h1;rw[ZAS]; omega
 have he:∃q,h'.get? s.heap.objs.size=Z q:=let ⟨q,_,_,hq,_⟩:=dd'; ⟨q,hq⟩
 exact ZjJ I2 (by rw[e]; exact ZCI) hs he (ZrU hz hd (rk.merge .nil) dd')
structure M1(X:Cx)(o:Expr)(m:Str)(apos:Pos)(e:Expr)(cpos:Pos):Prop where
 base:ZBM o m X.env (eval o X.env)=eval o X.env
 few:((backTo cpos (ZzC [e] X.env)).all (λx=>!x.1)&&(ZDV cpos (ZCW [] X.env)).all (λx=>x.1.isSome)
  && decide (([e]:List Expr).length+([]:List Keyword).length+(if([]:List Keyword).isEmpty then 0 else 1)<30))=ZEN
 line:(apos.endLine==cpos.line)=ZEN
 trees:backTo cpos (ZzC [e] X.env)=[(ZEO,eval e X.env)]
structure M2(X:Cx)(o:Expr)(m:Str)(apos:Pos)(e f:Expr)(cpos:Pos):Prop where
 base:ZBM o m X.env (eval o X.env)=eval o X.env
 few:((backTo cpos (ZzC [e,f] X.env)).all (λx=>!x.1)&&(ZDV cpos (ZCW [] X.env)).all (λx=>x.1.isSome)
  && decide (([e,f]:List Expr).length+([]:List Keyword).length+(if([]:List Keyword).isEmpty then 0 else 1)<30))=ZEN
 line:(apos.endLine==cpos.line)=ZEN
 trees:backTo cpos (ZzC [e,f] X.env)=[(ZEO,eval e X.env),(ZEO,eval f X.env)]
def IsD(H:Hp)(a:Addr):Prop:=(∃kvs,Rd H a (.dK kvs))\/∃kvs,Rd H a (.dT kvs)
theorem ZsN(I:Inv X pins σ H s)(d:IsD H a) :
  s.TypeIs (.ref a) "dict"/\(∀b,ZAh a=.ref b->∃ob,s.heap.get? b=Z ob/\ob.dict=Z_)/\(a==ZA4)=ZEO:=by
 rcases d with⟨kvs,e⟩ | ⟨kvs,e⟩
 ·obtain⟨_,hd,vs,_,dd⟩:=ZgE I.hok e
  refine⟨dd.typeIs,λb q=>?_,hd⟩;cases q;obtain⟨ob,_,_,h1,h2,_⟩:=dd;exact⟨ob,h1,h2.2.1⟩
 ·obtain⟨_,hd,xs,_,dd⟩:=Zib I.hok e
  refine⟨dd.typeIs,λb q=>?_,hd⟩;cases q;obtain⟨ob,_,_,h1,h2,_⟩:=dd;exact⟨ob,h1,h2.2.1⟩
section
variable{X:Cx}{pins:List (Addr × Obj)}{σ:St}{H:Hp}{s:Shared}{a:Addr}{y d:V}{u r:Value}{o:Option V}{A:Around}{E:Value->Shared->Prop}
theorem Zv9(hu:A.units+1<cLine)(I:Inv X pins σ H s)(g:Zdo H a y o)(ry:RelV y u)(h:∀w' s',Inv X pins σ H s'->RelV (o.getD .non) w'->Q w' s') :
  wpAny (model X.prog X.w) A (call (.builtin "dict.get") [.ref a,u]) Q E s:=by
 rcases g with⟨kvs,k,e,ey,l⟩ | ⟨kvs,k,b,e,ey,eb,l⟩
 ·subst ey
  obtain⟨z,hd,vs,rel,dd⟩:=ZgE I.hok e;refine call_meetsIn ZC5 dd.typeIs ZEi (ZD4 _ _) (meets_dict_get (Zaq X.prog X.w) a (ZhR ry) hd) ⟨_,dd.mapOf,h _ _ (I.tok _) ?_⟩;rw[l];exact(rel.val k).getD rfl
 ·subst ey
  cases(show u=ZAh b from ry);obtain⟨z,hd,xs,rel,dd⟩:=Zib I.hok e;refine call_meetsIn ZC5 dd.typeIs ZEi (ZD4 _ _) (meetsH_dict_get (ZCA (Zaq X.prog X.w)) a b hd) ⟨ZBH hu,k,xs,Zgu I.hok eb,dd,h _ _ (I.tok _) ?_⟩;rw[l];exact(rel.val k).getD rfl
end
def ZwK(td ty:TE):TE:=λσ H Q=>td σ H λx H1=>∃a,x=.ref a/\IsD H1 a/\ty σ H1 λy H2=>∃o,Zdo H2 a y o/\Q (o.getD .non) H2
section
variable{X:Cx}{o e f:Expr}{apos cpos:Pos}{td ty tx:TE}
theorem ZtY(hu:X.A.units+1<cLine)(ho:PE X o td)(he:PE X e ty)(m:M1 X o "get" apos e cpos):PE X (.Call (.Attribute o "get" apos) [e] [] cpos) (ZwK td ty):=by intro pins s σ H Q I h;refine wpAny_Call_method m.base m.few m.line ZD5 ZC5 PySem.F.type_dict_get (thn (ho pins s σ H _ I h) λu s1 ⟨x,H1,I1,rx,a,ex,d,q1⟩=>?_);subst ex;obtain rfl:u=ZAh a:=rx;obtain⟨t1,t2,_⟩:=ZsN I1 d;refine⟨t1,t2,?_⟩;rw[m.trees];refine ZCe rfl (ZCo (ZCC (thn (he pins s1 σ H1 _ I1 q1) λiv s2 ⟨y,H2,I2,ry,ov,g,q2⟩=>ZDC ?_)));exact Zv9 hu I2 g ry λw' s3 I3 rw'=>⟨_,H2,I3,rw',q2⟩
end
end L2
namespace Att
open PySem PySem.W PySem.Calls PyProof.Rows
variable{h:Heap}{n:Nat}
theorem Zlk{P:Params}:∀(ns:List Int) (vs:List Value),WellAll P h vs (ns.map WData.int)->IntsAre vs ns:=by
 intro ns
 induction ns with
 | nil=>intro vs w;rw[ZB1]at w;cases w;exact .nil
 | cons n ns ih =>
  intro vs w;rw[ZzG]at w;cases w with
  | cons a b=>cases a;exact .cons _ _ (ih _ b)
theorem ZsX{l:OpenLaw}(hn:l.most=Z n){P:Params}{args:List WData}{vals:List Value}
  (hpre:l.row.toRowW.claim.pre args=ZEN) (hwl:WellAll P h vals args) :
  ∃a vs ns,vals=[ZAh a]/\args=[WData.list (ns.map WData.int)]/\h.get? a=Z { cls:=.type "list",data:=.seq vs.toArray }/\IntsAre vs ns/\ns.length<=n:=by
 have hsh:WShape.hasAll [] args [.list .int]=ZEN:=(pre_splitW hpre).1;have hc:l.pre.holds [] { args:=args }=ZEN:=(pre_splitW hpre).2;obtain⟨d,r,rfl,h1,h2⟩:=hasAllW_cons hsh;obtain rfl:=hasAllW_nil h2;obtain⟨xs,rfl,h3⟩:=hasW_list h1;obtain⟨ns,rfl⟩:=items_int h3;have hlen:ns.length<=n:=by
  unfold OpenLaw.pre at hc;have h4:(WTm.not (.lt (.lit (.int (n:Int))) (.len (.arg 0)))).holds [] { args:=[.list (ns.map .int)] }=ZEN:=by have h4:=(holds_andW hc).1;rw[hn]at h4;exact h4
  have h5:=condW_of h4 (w_not (w_lt w_lit (w_len_list (w_arg rfl))));rw[Zzw]at h5;refine ZB2 λq=>?_;have q':(n:Int)<((ns.length:Nat):Int):=by omega
  first
   | (rw[decide_eq_true q']at h5; exact absurd h5 (by decide))
   | (simp at h5; omega)
 cases hwl with
 | cons w1 w2 =>
  cases w2;cases w1 with
  | list ho hall=>exact⟨_,_,ns,rfl,rfl,ho,Zlk ns _ hall,hlen⟩
theorem Zsa(l:OpenLaw)(args:List WData):l.row.toRowW.claim.post args (.bool ZEN) args=ZEN :=
 postW_of (r:=l.row.toRowW) (X:=(ZEN==ZEN))
  (show WShape.has [] (.bool ZEN) .bool=ZEN by first | rfl | decide | simp[WShape.has,WShape.arms,WShape.armsAll])
  (show(WTm.eq .res (.lit (.bool ZEN))).value [] { args:=args,res:=Z (.bool ZEN),after:=args }=Z (.bool (ZEN==ZEN)) from w_eq_bool (w_res rfl) w_lit) rfl
theorem ZpR{l:OpenLaw}{q:Program}{loose:List Str}{XP:(Str->Option Value)->Heap->Prop}{YP:World->Heap->Prop}{d:DefRec}
  (hn:l.most=Z n) (hdf:d.params.defaults=[])
  (call:∀(w:World) (s₀ s₁:Shared) (mg mb:Str->Option Value) (fa:Addr) (o:Obj) (pm cd doc:Value) (a:Addr) (vs:List Value) (ns:List Int),
   Ground q loose [] XP w s₀ mg mb s₁.heap->YP w s₁.heap ->
   s₁.heap.get? fa=Z o->o.data=.func (docDef d.name d.params d.body d.scope pm cd doc)->s₁.heap.CodeRec cd d.name->mg d.name=Z (.ref fa) ->
   s₁.heap.get? a=Z { cls:=.type "list",data:=.seq vs.toArray }->IntsAre vs ns->ns.length<=n->s₁.gens=#[] ->
   codeAny (model l.prog w) callerA (.call (.ref fa) ⟨[.ref a],[]⟩) (λr s'=>r=.ok (.ret (.bool ZEN))/\OldK s₁.heap s'.heap/\s'.os=s₁.os/\AllBare s'.gens) s₁) :
  WalkO q loose XP YP l.row.toRowW d [] (λf vs=>PySem.call f vs):=by
 intro w s₀ s₁ mg mb G Y fa o pm cd doc dV kV ho hd hcd hD hmg hg args vals as hpre hlay hrd hwl hlo;obtain rfl:dV=.none:=Dflts.none hD hdf;obtain rfl:kV=.none:=Dflts.noKw hD;obtain⟨a,vs,ns,rfl,rfl,hobj,hints,hlen⟩:=ZsX hn hpre hwl;refine enter_call (ZBp (call w s₀ s₁ mg mb fa o pm cd doc a vs ns G Y ho (fd_plain hd) hcd hmg hobj hints hlen hg) λr s' hq=>?_);obtain⟨rfl,h2,h3,h4⟩:=hq;exact⟨.inl ⟨.bool ZEN,.bool ZEN,[],rfl,λ_=>rfl,.bool ZEN,Zsa l _,λ_=>⟨List.Pairwise.nil,λ_ hm=>(nomatch hm)⟩⟩,h2,h3,h4⟩
end Att
namespace L2
open PySem PySem.Spec PyProof.Rows
theorem Zl7:∀{vs:List Value} {ns:List Int},IntsAre vs ns->Vals (ns.map V.int) vs
 | _,_,.nil=>.nil
 | _,_,.cons n t h=>.cons ⟨t,rfl⟩ (Zl7 h)
end L2
namespace L2
open PySem PySem.Spec PyProof.Rows
end L2
namespace L2
open PySem PySem.Spec PyProof.Rows
variable{f:Addr}{H H':Hp}{A:Prop}{st:Stmt}{qual x:Str}
def Zb9(s:Stmt):Arguments:=match s with
 | .FunctionDef _ a _ _ _ _ _ _ _ _=>a
 | _=>{ posonlyargs:=[],args:=[],vararg:=Z_,kwonlyargs:=[],kw_defaults:=[],kwarg:=Z_,defaults:=[] }
def ZaA(s:Stmt):List Stmt:=match s with
 | .FunctionDef _ _ b _ _ _ _ _ _ _=>b
 | _=>[]
def Zh(s:Stmt):Scope:=match s with
 | .FunctionDef _ _ _ _ _ _ sc _ _ _=>sc
 | _=>{ kind:=.function,names:=[],isGenerator:=ZEO,isCoroutine:=ZEO }
abbrev CX0:CXT:=λ_ _ _ _ _ _=>False
abbrev E0:XK:=λ_ _ _=>False
theorem ZqU{X:Cx}:Passes CX0 X E0:=λ_ _ _ _ _ _ _ h=>h.elim
structure Fun(K:Zzx)(x qual:Str)(st:Stmt)(f:Addr)(fd:FuncData):Prop where
 ex:∃(oc:Value) (od:Option Addr) (kV doc pm:Value) (an:Option Addr) (cdv ct:Value) (osl:Array (Option Value)),
  fd=ZAQ x qual (Zb9 st) (ZaA st) (Zh st) .none kV doc pm an cdv ct/\K.lookup f=Z ⟨oc,od,.func fd,osl⟩/\ZBD K cdv qual=ZEN
 kp:ZAP K (.ref f)=ZEN
section
variable{P:Program}{w:World}{K:Zzx}{mg:Str->Option Value}{base:Heap}
theorem Fun.ok{x qual:Str}{st:Stmt}{f:Addr}{fd:FuncData}{N ps:List Str}{k:Nat}{sp:Sp}(F:Fun K x qual st f fd)(S:Zt N ps (Zh st))(len:∀vs H Q E,sp vs H Q E->vs.length=ps.length)
  (hbody:∀(cdv:Value) (A:Around) (outer:List Env) (s:Shared) (H:Hp) (vs:List V) (Q:VK) (E:XK),Z9 k (A.deeper (envOfC qual (Zh st) s.heap.objs.size f cdv))->sp vs H Q E ->
   ∃t,PSs (Zd0 CX0 P w K mg base N qual (Zh st) f cdv A outer s H E).nox (ZaA st) t/\t { nx:=λ_ H'=>Q .non H',rt:=Q } (start N vs) H):ZcY P w K mg base CX0 (k+1) f fd ps sp:=by
 obtain⟨oc,od,kV,doc,pm,an,cdv,ct,osl,rfl,lk,hcd⟩:=F.ex;refine Zrk lk hcd S len λA outer s H vs Q E hr hsp=>?_;obtain⟨t,h,q⟩:=hbody cdv A outer s H vs Q E hr hsp;exact⟨t,h.nox,q⟩
theorem Fun.binds{fd:FuncData}{ps:List Str}(F:Fun K x qual st f fd)
  (h:∀(kV doc pm:Value) (an:Option Addr) (cdv ct:Value) (us:List Value),us.length=ps.length->bindArgs (ZAQ x qual (Zb9 st) (ZaA st) (Zh st) .none kV doc pm an cdv ct) ⟨us,[]⟩=pure (ps.zip us)):Binds K fd ps []:=by
 obtain⟨oc,od,kV,doc,pm,an,cdv,ct,osl,rfl,lk,hcd⟩:=F.ex;exact .all (h kV doc pm an cdv ct)
theorem ZnN{oc:Value}{od an:Option Addr}{osl:Array (Option Value)}{kV doc pm cdv ct:Value}(l:K.lookup f=Z ⟨oc,od,.func (ZAQ x qual (Zb9 st) (ZaA st) (Zh st) .none kV doc pm an cdv ct),osl⟩)
  (c:ZBD K cdv qual=ZEN) (k:ZAP K (.ref f)=ZEN):Fun K x qual st f (ZAQ x qual (Zb9 st) (ZaA st) (Zh st) .none kV doc pm an cdv ct):=⟨⟨oc,od,kV,doc,pm,an,cdv,ct,osl,rfl,l,c⟩,k⟩
end
theorem ZdL{A:Around}{k:Nat}(hr:Z9 k A):A.units+1<cLine:=Nat.lt_of_le_of_lt (Nat.add_le_add_left (by decide:1<=64) _) hr.units
theorem ZlZ{B:Prop}(h:B):if ZEO=ZEN then A else B:=by rw[if_neg ZAi];exact h
theorem ZlF{B:Prop}(h:A):if ZEN=ZEN then A else B:=by rw[if_pos rfl];exact h
def Zq(H H':Hp):Prop:=∀b o,H b=Z o->H' b=Z o
theorem Zq.refl(H:Hp):Zq H H:=λ_ _ h=>h
theorem Zq.trans{H1 H2:Hp}(a:Zq H H1)(b:Zq H1 H2):Zq H H2:=λc o h=>b c o (a c o h)
theorem Zq.free(e:Zq H H'){l:Addr}(h:H' l=Option.none):H l=Option.none:=by
 cases q:H l with
 | none=>rfl
 | some o=>rw[e l o q]at h;cases h
theorem Zq.seq{K:Zzx}{a:Addr}{xs:List V}(e:Zq H H')(h:SqL K H a xs):SqL K H' a xs:=by
 rcases h with(h | ⟨o,h⟩) | h
 ·exact .inl (.inl (e _ _ h))
 ·exact .inl (.inr ⟨o,e _ _ h⟩)
 ·exact .inr h
end L2
namespace L2
open PySem PySem.Spec PyProof.Rows
section
variable{X:Cx}
theorem ZsC:ZaQ X (.builtin "len") (λxs H Q=>∃a kvs,xs=[V.ref a]/\H a=Z (.dK kvs)/\Q (.int kvs.length) H):=by intro pins s σ H xs us Q I r h;obtain⟨a,kvs,rfl,ha,q⟩:=h;obtain⟨u,rfl,ru⟩:=vals1 r;cases ru;exact Zx2 I (.inl ha) λt s' I'=>⟨.int kvs.length,H,I',⟨t,rfl⟩,q⟩
end
end L2
namespace HM
open PySem
abbrev D:=PyData
abbrev Ky:=Sum Int Str
inductive B where
 | pl (d:D)
 | ol (ds:List D)
 | ok (kvs:List (Ky × D))
 | ot (kvs:List (List Ky × D))
 | otl (kvs:List (List Ky × List D))
 | hd (es:List (D × D))
abbrev Env:=List (Option B)
inductive Out where
 | nx (r:Env)
 | rt (d:D)
 | bk (r:Env)
 | ct (r:Env)
abbrev EF:=Env->Option D
abbrev BF:=Env->Option B
abbrev TF:=Env->Option Bool
abbrev IF:=Env->Option (List D)
abbrev AF:=Env->Option (List D)
abbrev SF:=Env->Option Out
@[simp] def big:Nat:=1000000
@[simp] noncomputable def Zc (i:Nat):EF:=λr=>match r[i]? with
 | some (Z (.pl d))=>Z d
 | _=>Z_
@[simp] noncomputable def Zn (i:Nat):BF:=λr=>match r[i]? with
 | some (Z b)=>Z b
 | _=>Z_
@[simp] noncomputable def bOf (f:EF):BF:=λr=>(f r).map B.pl
def ZaE:Ky->D
 | .inl i=>.int i
 | .inr x=>.str x
noncomputable def Zg (kvs:List (List Ky × D)):List (D × D):=kvs.map λp=>(.tuple (p.1.map ZaE),p.2)
@[simp] noncomputable def frz:B->Option D
 | .pl d=>Z d
 | .ol ds=>Z (.list ds)
 | .ot kvs=>Z (.dict (Zg kvs))
 | .hd es=>Z (.dict es)
 | _=>Z_
@[simp] def eOf(f:BF):EF:=λr=>(f r).bind frz
@[simp] noncomputable def eC (d:D):EF:=λ_=>Z d
@[simp] noncomputable def op2 (g:D->D->Option D) (a b:EF):EF:=λr=>match a r with
 | some x=>match b r with
  | some y=>g x y
  | none=>Z_
 | none=>Z_
@[simp] noncomputable def ZfC (g:Int->Int->Option D):D->D->Option D
 | .int i,.int j=>g i j
 | _,_=>Z_
def ZX(i:Int):Bool:=Nat.blt i.natAbs 18446744073709551616
@[simp] def ZbI(x y:D):Option D:=ZfC (λi j=>Z (.int (i+j))) x y
@[simp] def ZlK(x y:D):Option D:=ZfC (λi j=>Z (.int (i-j))) x y
@[simp] def Zdg(x y:D):Option D:=ZfC (λi j=>if ZX i||ZX j then Z (.int (i*j))else Z_) x y
@[simp] def Zko(x y:D):Option D:=ZfC (λi j=>if 0<j then Z (.int (i % j))else Z_) x y
@[simp] def gLt(x y:D):Option D:=ZfC (λi j=>Z (.bool (decide (i<j)))) x y
@[simp] def gLe(x y:D):Option D:=ZfC (λi j=>Z (.bool (decide (i<=j)))) x y
@[simp] def gGt(x y:D):Option D:=ZfC (λi j=>Z (.bool (decide (j<i)))) x y
def Za6(d:D):Bool:=d.canLay0&&decide (d.depth<=60)
@[simp] def gEq(a b:D):Option D:=if Za6 a&&Za6 b then Z (.bool (ZAV a b))else Z_
@[simp] def Zq4(a b:D):Option D:=match b with
 | .none=>match a with
  | .none=>Z (.bool ZEN)
  | _=>Z (.bool ZEO)
 | _=>Z_
@[simp] def Zh1(a b:D):Option D:=match b with
 | .none=>match a with
  | .none=>Z (.bool ZEO)
  | _=>Z (.bool ZEN)
 | _=>Z_
@[simp] def Zlh(g g':D->D->Option D)(a b c:EF):EF:=λr=>match a r with
 | some x=>match b r with
  | some y=>match g x y with
   | some (.bool ZEN)=>match c r with
    | some z=>g' y z
    | none=>Z_
   | some (.bool ZEO)=>Z (.bool ZEO)
   | _=>Z_
  | none=>Z_
 | none=>Z_
@[simp] def Zha(a b:EF):EF:=λr=>match a r with
 | some (.bool ZEN)=>b r
 | some (.bool ZEO)=>Z (.bool ZEO)
 | _=>Z_
@[simp] noncomputable def tV (a:EF):TF:=λr=>match a r with
 | some (.bool b)=>Z b
 | _=>Z_
@[simp] def ZcZ(a:TF):TF:=λr=>(a r).map (!·)
@[simp] def tOr(a b:TF):TF:=λr=>match a r with
 | some ZEN=>Z ZEN
 | some ZEO=>b r
 | none=>Z_
@[simp] def eIf(c:TF)(a b:EF):EF:=λr=>match c r with
 | some ZEN=>a r
 | some ZEO=>b r
 | none=>Z_
@[simp] noncomputable def ZfD:B->Option (List D)
 | .pl (.tuple ds)=>Z ds
 | .pl (.list ds)=>Z ds
 | .ol ds=>Z ds
 | _=>Z_
def ixN(n:Nat)(i:Int):Option Nat :=
 if 0<=i then(if i<n then Z i.toNat else Z_)else(if -(n:Int)<=i then Z (i+n).toNat else Z_)
noncomputable def atD (ds:List D) (i:Int):Option D:=match ixN ds.length i with
 | some j=>ds[j]?
 | none=>Z_
@[simp] def eIx(a:BF)(b:EF):EF:=λr=>match a r with
 | some x=>match ZfD x with
  | some ds=>match b r with
   | some (.int i)=>atD ds i
   | _=>Z_
  | none=>Z_
 | none=>Z_
@[simp] def ZyX:B->Option Nat
 | .pl (.tuple ds)=>Z ds.length
 | .pl (.list ds)=>Z ds.length
 | .ol ds=>Z ds.length
 | .ok kvs=>Z kvs.length
 | _=>Z_
@[simp] def Za2(a:BF):EF:=λr=>match a r with
 | some x=>(ZyX x).map λ(n:Nat)=>ZAs (n:Int)
 | none=>Z_
@[simp] def Zah(a:BF):EF:=λr=>match a r with
 | some x=>(ZfD x).map λds=>.tuple ds
 | none=>Z_
@[simp] def Zf1(a:BF):BF:=λr=>match a r with
 | some x=>(ZfD x).map λds=>.ol ds
 | none=>Z_
def ZdG:List D->Option (List Bool)
 | []=>Z []
 | .bool b::r=>(ZdG r).map (b::·)
 | _::_=>Z_
@[simp] noncomputable def ZiU:B->Option (List D)
 | .pl (.list ds)=>Z ds
 | .ol ds=>Z ds
 | _=>Z_
@[simp] def Zh0(a:BF):EF:=λr=>match a r with
 | some x=>match ZiU x with
  | some ds=>(ZdG ds).map λbs=>.bool (bs.all id)
  | none=>Z_
 | none=>Z_
@[simp] def Ze:AF:=λ_=>Z []
@[simp] def Za(a:EF)(b:AF):AF:=λr=>match a r with
 | some x=>(b r).map (x::·)
 | none=>Z_
@[simp] def ZC(a:AF):EF:=λr=>(a r).map λds=>.tuple ds
@[simp] def ZbV(a:AF):BF:=λr=>(a r).map λds=>.ol ds
inductive Ty where
 | bool | int | str | tuple | list | dict
@[simp] noncomputable def Zi8:Ty->D->Bool
 | .bool,.bool _=>ZEN
 | .int,.int _=>ZEN
 | .int,.bool _=>ZEN
 | .str,.str _=>ZEN
 | .tuple,.tuple _=>ZEN
 | .list,.list _=>ZEN
 | .dict,.dict _=>ZEN
 | _,_=>ZEO
@[simp] def ZhN(a:EF)(t:Ty):EF:=λr=>match a r with
 | some (.dict _)=>Z_
 | some d=>Z (.bool (Zi8 t d))
 | none=>Z_
@[simp] def Zxz(x y:D):Option D:=ZfC (λi j=>Z (.int (if j > i then j else i))) x y
@[simp] def ZwP(x y:D):Option D:=ZfC (λi j=>Z (.int (if j<i then j else i))) x y
@[simp] def ZnI(a:EF):EF:=λr=>match a r with
 | some (.int i)=>Z (.int i)
 | some (.bool b)=>Z (.int (if b then 1 else 0))
 | _=>Z_
@[simp] def Zjk(a b:BF):BF:=λr=>match a r with
 | some (.ol xs)=>match b r with
  | some (.ol ys)=>if xs.length+ys.length<big then Z (.ol (xs++ys))else Z_
  | _=>Z_
 | _=>Z_
@[simp] def ZtL(a:BF)(b:EF):BF:=λr=>match a r with
 | some (.ol xs)=>match b r with
  | some (.int k)=>if decide (k.natAbs<1000)&&decide (xs.length<1000)then Z (.ol (ZzE k.toNat xs).flatten)else Z_
  | _=>Z_
 | _=>Z_
def sIx(n d:Nat):Option Int->Nat
 | none=>d
 | some v=>if v<0 then(v+(n:Int)).toNat else min v.toNat n
noncomputable def cutD (xs:List D) (lo hi:Option Int):List D:=(xs.drop (sIx xs.length 0 lo)).take (sIx xs.length xs.length hi-sIx xs.length 0 lo)
@[simp] def ZlN(a:Option EF)(r:Env):Option (Option Int):=match a with
 | none=>Z Z_
 | some f=>match f r with
  | some (.int i)=>Z (Z i)
  | _=>Z_
@[simp] def Ztt(a:BF)(lo hi:Option EF):BF:=λr=>match a r with
 | some x=>match ZiU x with
  | some xs=>match ZlN lo r with
   | some l=>match ZlN hi r with
    | some h=>Z (.ol (cutD xs l h))
    | none=>Z_
   | none=>Z_
  | none=>Z_
 | none=>Z_
noncomputable def ZaX:List D->Option (List Int)
 | []=>Z []
 | .int i::r=>(ZaX r).map (i::·)
 | _::_=>Z_
def Zjs:List D->Option (List (List Int))
 | []=>Z []
 | .tuple ds::r=>match ZaX ds with
  | some ns=>(Zjs r).map (ns::·)
  | none=>Z_
 | _::_=>Z_
def lexLt:List Int->List Int->Bool
 | [],[]=>ZEO
 | [],_::_=>ZEN
 | _::_,[]=>ZEO
 | a::r,b::q=>if a=b then lexLt r q else decide (a<b)
noncomputable def sortI (ns:List Int):List Int:=ns.mergeSort λa b=>decide (a<=b)
def Zfa(ts:List (List Int)):List (List Int):=ts.mergeSort λa b=>!lexLt b a
def ofInts(ns:List Int):List D:=ns.map λi=>ZAs i
def Zfn(ts:List (List Int)):List D:=ts.map λt=>Zz7 (ofInts t)
def Ze8(ds:List D):Option (List D) :=
 if ds.length<64 then match ZaX ds with
  | some ns=>Z (ofInts (sortI ns))
  | none=>match Zjs ds with
   | some ts=>if ds.length<2||ts.all (λt=>!t.isEmpty)then Z (Zfn (Zfa ts))else Z_
   | none=>Z_
 else Z_
@[simp] noncomputable def Zut:B->Option (List D)
 | .pl (.tuple ds)=>Z ds
 | .pl (.list ds)=>Z ds
 | .ol ds=>Z ds
 | .ok kvs=>Z (kvs.map λp=>ZaE p.1)
 | .ot kvs=>Z (kvs.map λp=>.tuple (p.1.map ZaE))
 | .otl kvs=>Z (kvs.map λp=>.tuple (p.1.map ZaE))
 | _=>Z_
@[simp] def Zhs(a:BF):BF:=λr=>match a r with
 | some x=>match Zut x with
  | some ds=>(Ze8 ds).map λds=>.ol ds
  | none=>Z_
 | none=>Z_
noncomputable def dedup:List Int->List Int->List Int
 | acc,[]=>acc
 | acc,i::r=>if acc.contains i then dedup acc r else dedup (acc++[i]) r
def ZtU(ns:List Int):Bool:=ns.all λn=>decide (0<=n)&&decide (n<8)
@[simp] def Zia(a:BF):BF:=λr=>match a r with
 | some x=>match ZiU x with
  | some ds=>match ZaX ds with
   | some ns=>if ZtU ns then Z (.ol (ofInts (sortI (dedup [] ns))))else Z_
   | none=>Z_
  | none=>Z_
 | none=>Z_
@[simp] def Zk(m:List D->Option D)(a:AF):EF:=λr=>match a r with
 | some ds=>m ds
 | none=>Z_
@[simp] def Zad(a:BF):IF:=λr=>match a r with
 | some x=>ZfD x
 | none=>Z_
noncomputable def ZcS (lo:Int) (n:Nat):List D:=(ZzQ n).map λ(k:Nat)=>ZAs (lo+(k:Int))
def okR(j:Int):Bool:=Nat.blt j.natAbs 1000000
@[simp] def ZbL(a:EF):IF:=λr=>match a r with
 | some (.int j)=>if okR j then Z (ZcS 0 j.toNat)else Z_
 | _=>Z_
@[simp] def ZkB(i:IF):EF:=λr=>match i r with
 | some ds=>if ds.length<big then Z (.tuple ds)else Z_
 | none=>Z_
noncomputable def Zan (c:TF) (e:EF) (r:Env):List D->Option (List D)
 | []=>Z []
 | x::xs=>match c (Z (.pl x)::r)with
  | some ZEN=>match e (Z (.pl x)::r)with
   | some y=>(Zan c e r xs).map (y::·)
   | none=>Z_
  | some ZEO=>Zan c e r xs
  | none=>Z_
@[simp] def ZS:TF:=λ_=>Z ZEN
@[simp] def ZF(i:IF)(c:TF)(e:EF):BF:=λr=>match i r with
 | some xs=>if xs.length<big then(Zan c e r xs).map λys=>.ol ys else Z_
 | none=>Z_
@[simp] def Zu(a b:SF):SF:=λr=>match a r with
 | some (.nx r')=>b r'
 | some (.rt d)=>Z (.rt d)
 | some (.bk r')=>Z (.bk r')
 | some (.ct r')=>Z (.ct r')
 | none=>Z_
@[simp] noncomputable def ZaY:SF:=λr=>Z (.nx r)
@[simp] def Zi6:SF:=λ_=>Z_
@[simp] noncomputable def ZB (a:EF):SF:=λr=>(a r).map Out.rt
@[simp] def Zae(i:Nat)(a:EF):SF:=λr=>(a r).map λd=>.nx (r.set i (Z (.pl d)))
@[simp] def ZU(i:Nat)(a:BF):SF:=λr=>(a r).map λb=>.nx (r.set i (Z b))
@[simp] def Zld(i:Nat)(r:Env):Env:=match r[i]? with
 | some (Z (.ol ds))=>r.set i (Z (.pl (.list ds)))
 | some (Z (.ot kvs))=>r.set i (Z (.pl (.dict (Zg kvs))))
 | _=>r
@[simp] def Zhb(i:Nat):SF->SF:=λa r=>a (Zld i r)
@[simp] def ZhX(a:EF):SF:=λr=>(a r).map λ_=>.nx r
@[simp] def sIf(c:TF)(a b:SF):SF:=λr=>match c r with
 | some ZEN=>a r
 | some ZEO=>b r
 | none=>Z_
noncomputable def ZaG (i:Nat) (body:SF):List D->Env->Option Out
 | [],r=>Z (.nx r)
 | x::xs,r=>match body (r.set i (Z (.pl x)))with
  | some (.nx r')=>ZaG i body xs r'
  | some (.ct r')=>ZaG i body xs r'
  | some (.bk r')=>Z (.nx r')
  | some (.rt d)=>Z (.rt d)
  | none=>Z_
@[simp] def Zbx(i:Nat)(it:IF)(body:SF):SF:=λr=>match it r with
 | some xs=>if xs.length<big then ZaG i body xs r else Z_
 | none=>Z_
noncomputable def ZbN (c:TF) (body:SF):Nat->Env->Option Out
 | 0,_=>Z_
 | n+1,r=>match c r with
  | some ZEN=>match body r with
   | some (.nx r')=>ZbN c body n r'
   | some (.ct r')=>ZbN c body n r'
   | some (.bk r')=>Z (.nx r')
   | some (.rt d)=>Z (.rt d)
   | none=>Z_
  | some ZEO=>Z (.nx r)
  | none=>Z_
@[simp] def ZeT(i:Nat)(a:EF):SF:=λr=>match r[i]? with
 | some (Z (.ol ds))=>match a r with
  | some d=>if ds.length<big then Z (.nx (r.set i (Z (.ol (ds++[d])))))else Z_
  | none=>Z_
 | _=>Z_
@[simp] def ZrE(i:Nat)(k v:EF):SF:=λr=>match v r with
 | some d=>match r[i]? with
  | some (Z (.ol ds))=>match k r with
   | some (.int n)=>match ixN ds.length n with
    | some j=>Z (.nx (r.set i (Z (.ol (ds.set j d)))))
    | none=>Z_
   | _=>Z_
  | _=>Z_
 | none=>Z_
noncomputable def putD {k v:Type} [DecidableEq k] (kvs:List (k × v)) (x:k) (y:v):List (k × v) :=
 if(kvs.any λp=>decide (p.1=x))=ZEN then kvs.map (λp=>if p.1=x then(p.1,y)else p)else kvs++[(x,y)]
noncomputable def Zj {k v:Type} [DecidableEq k] (kvs:List (k × v)) (x:k):Option v:=(kvs.find? λp=>decide (p.1=x)).map (·.2)
@[simp] def Zi2:D->Option Ky
 | .int i=>Z (.inl i)
 | .str x=>Z (.inr x)
 | _=>Z_
def ZgD:List D->Option (List Ky)
 | []=>Z []
 | d::r=>match Zi2 d with
  | some k=>(ZgD r).map (k::·)
  | none=>Z_
noncomputable def tkL:D->Option (List Ky)
 | .tuple ds=>ZgD ds
 | _=>Z_
def ZlA:List D->Option (List Ky)
 | []=>Z []
 | .int i::r=>(ZlA r).map (ZBk i::·)
 | _::_=>Z_
def Zbp:D->Option (List Ky)
 | .tuple ds=>ZlA ds
 | _=>Z_
@[simp] def Zg6(i:Nat)(k v:EF):SF:=λr=>match v r with
 | some d=>match k r with
  | some x=>match r[i]? with
   | some (Z (.ok kvs))=>match Zi2 x with
    | some y=>if kvs.length<big then Z (.nx (r.set i (Z (.ok (putD kvs y d)))))else Z_
    | none=>Z_
   | some (Z (.ot kvs))=>match Zbp x with
    | some y=>if kvs.length<big then Z (.nx (r.set i (Z (.ot (putD kvs y d)))))else Z_
    | none=>Z_
   | _=>Z_
  | none=>Z_
 | none=>Z_
@[simp] def fDk:BF:=λ_=>Z (.ok [])
@[simp] def fDt:BF:=λ_=>Z (.ot [])
@[simp] def Zxv:BF:=λ_=>Z (.otl [])
@[simp] def ZnT(k v:EF):BF:=λr=>match k r with
 | some x=>match v r with
  | some d=>match Zi2 x with
   | some y=>Z (.ok [(y,d)])
   | none=>Z_
  | none=>Z_
 | none=>Z_
def ZcC{k v:Type}[DecidableEq k](kvs:List (k × List v))(x:k):List (k × List v):=match Zj kvs x with
 | some _=>kvs
 | none=>kvs++[(x,[])]
def ZdA{k v:Type}[DecidableEq k]:List (k × List v)->k->v->List (k × List v)
 | [],_,_=>[]
 | (x,ds)::r,y,d=>if x=y then(x,ds++[d])::r else(x,ds)::ZdA r y d
@[simp] def Zoe(i:Nat)(k v:EF):SF:=λr=>match k r with
 | some x=>match r[i]? with
  | some (Z (.otl kvs))=>match Zbp x with
   | some y=>if kvs.length<big then
     match v (r.set i (Z (.otl (ZcC kvs y))))with
     | some d=>match Zj (ZcC kvs y) y with
      | some ds=>if ds.length<big then Z (.nx (r.set i (Z (.otl (ZdA (ZcC kvs y) y d)))))else Z_
      | none=>Z_
     | none=>Z_
    else Z_
   | none=>Z_
  | _=>Z_
 | none=>Z_
@[simp] def ZrC(i:Nat)(k:EF):BF:=λr=>match k r with
 | some x=>match r[i]? with
  | some (Z (.ok kvs))=>match Zi2 x with
   | some y=>(Zj kvs y).map B.pl
   | none=>Z_
  | some (Z (.ot kvs))=>match Zbp x with
   | some y=>(Zj kvs y).map B.pl
   | none=>Z_
  | some (Z (.otl kvs))=>match Zbp x with
   | some y=>(Zj kvs y).map B.ol
   | none=>Z_
  | _=>Z_
 | none=>Z_
abbrev fnD(t:Nat)(cs:List D):D:=.dict [(.none,.int (Int.ofNat t)),(.none,.list cs)]
@[simp] noncomputable def Zdm (n:Nat) (ds:List D):Env:=ds.map (λd=>Z (B.pl d))++ZzE (n-ds.length) Z_
@[simp] noncomputable def fnOf (k n:Nat) (m:SF):List D->Option D:=λds =>
 if ds.length=k then match m (Zdm n ds)with
  | some (.nx _)=>Z .none
  | some (.rt d)=>Z d
  | _=>Z_
 else Z_
end HM
namespace HM
open PySem
def Zdw(c:TF)(e:EF)(r:Env):List D->Option (List D)
 | []=>Z []
 | .tuple [x,y]::xs=>match c (Z (.pl x)::Z (.pl y)::r)with
  | some ZEN=>match e (Z (.pl x)::Z (.pl y)::r)with
   | some z=>(Zdw c e r xs).map (z::·)
   | none=>Z_
  | some ZEO=>Zdw c e r xs
  | none=>Z_
 | _=>Z_
@[simp] def ZbH(i:IF)(c:TF)(e:EF):BF:=λr=>match i r with
 | some xs=>if xs.length<big then(Zdw c e r xs).map λys=>.ol ys else Z_
 | none=>Z_
def Zxq(ds:List D)(i:Int):Option Bool:=(ZaX ds).map λns=>ns.contains i
@[simp] def ZoB(k:EF)(a:BF):EF:=λr=>match k r with
 | some (.int i)=>match a r with
  | some b=>match ZfD b with
   | some ds=>(Zxq ds i).map λc=>.bool c
   | none=>Z_
  | none=>Z_
 | _=>Z_
end HM
namespace HM
open PySem
@[simp] def ZoH(n:Nat)(c:TF)(body:SF):SF:=λr=>ZbN c body n r
end HM
namespace HM
open PySem
end HM
namespace HM
open PySem
noncomputable def ZeP:List (D × D)->Option (List (List Ky × D))
 | []=>Z []
 | (k,v)::r=>match tkL k with
  | some ks=>(ZeP r).map ((ks,v)::·)
  | none=>Z_
@[simp] def Zkv:B->Option (List (List Ky × D))
 | .ot kvs=>Z kvs
 | .pl (.dict es)=>ZeP es
 | .hd es=>ZeP es
 | _=>Z_
@[simp] def ZoP(k:EF)(a:BF):EF:=λr=>match k r with
 | some x=>match a r with
  | some b=>match Zkv b with
   | some kvs=>(Zbp x).map λy=>.bool (Zj kvs y).isSome
   | none=>Z_
  | none=>Z_
 | none=>Z_
@[simp] def Zd6(k:EF)(a:BF):EF:=λr=>match k r with
 | some x=>match a r with
  | some b=>match Zkv b with
   | some kvs=>(Zbp x).map λy=>.bool (!(Zj kvs y).isSome)
   | none=>Z_
  | none=>Z_
 | none=>Z_
@[simp] def Z8(a:BF)(k:EF):EF:=λr=>match a r with
 | some b=>match Zkv b with
  | some kvs=>match k r with
   | some x=>match Zbp x with
    | some y=>Zj kvs y
    | none=>Z_
   | none=>Z_
  | none=>Z_
 | none=>Z_
@[simp] def Zlp:D->Bool
 | .none=>ZEN
 | .bool _=>ZEN
 | .int _=>ZEN
 | .str _=>ZEN
 | _=>ZEO
@[simp] def ZhY(f:BF):EF:=λr=>(f r).bind frz
theorem Zu1(ks:List Ky):tkL (.tuple (ks.map ZaE))=Z ks:=by
 show ZgD (ks.map ZaE)=Z ks
 induction ks with
 | nil=>rfl
 | cons k ks ih=>show(match Zi2 (ZaE k)with | some q=>(ZgD (ks.map ZaE)).map (q::·) | none=>Z_)=_;rw[ih];cases k<;>rfl
theorem dec_enc(kvs:List (List Ky × D)):ZeP (Zg kvs)=Z kvs:=by
 induction kvs with
 | nil=>rfl
 | cons p kvs ih=>obtain⟨k,d⟩:=p;show(match tkL (.tuple (k.map ZaE))with | some ks=>(ZeP (Zg kvs)).map ((ks,d)::·) | none=>Z_)=_;rw[Zu1,ih];rfl
end HM
namespace HM
open PySem
@[simp] def Zk6(a:BF):EF:=λr=>match a r with
 | some x=>match ZiU x with
  | some ds=>match ZaX ds with
   | some ns=>ns.max?.map λi=>ZAs i
   | none=>Z_
  | none=>Z_
 | none=>Z_
end HM
namespace HM
open PySem
end HM
namespace HM
open PySem
@[simp] def ZjG(i:Nat)(f:BF):SF:=λr=>match r[i]? with
 | some (Z (.ol ds))=>match f r with
  | some (.ol es)=>if ds.length+es.length<big then Z (.nx (r.set i (Z (.ol (ds++es)))))else Z_
  | _=>Z_
 | _=>Z_
@[simp] def Zto(i j:Nat):SF:=λr=>match r[j]? with
 | some (Z (.ol ds))=>match ds[ds.length-1]? with
  | some d=>Z (.nx ((r.set j (Z (.ol ds.dropLast))).set i (Z (.pl d))))
  | none=>Z_
 | _=>Z_
@[simp] def Zjf(m:List D->Option D)(a:AF):BF:=λr=>match a r with
 | some ds=>match m ds with
  | some (.list ys)=>Z (.ol ys)
  | _=>Z_
 | none=>Z_
def ZaS:Option B->Bool
 | some (.hd _)=>ZEN
 | _=>ZEO
@[simp] def Zeu(i:Nat)(g:SF):SF:=λr=>match r[i]? with
 | some (Z (.pl (.dict es)))=>if r.all (λq=>!ZaS q)then match g (r.set i (Z (.hd es)))with
   | some (.nx r')=>match r'[i]? with
    | some (Z (.hd es'))=>if(r'.set i Z_).all (λq=>!ZaS q)then Z (.nx (r'.set i (Z (.pl (.dict es')))))else Z_
    | _=>Z_
   | some (.rt d)=>Z (.rt d)
   | _=>Z_
  else Z_
 | _=>g r
@[simp] def ZaH(i:Nat):IF:=λr=>match r[i]? with
 | some (Z (.pl (.tuple ds)))=>Z ds
 | some (Z (.pl (.list ds)))=>Z ds
 | some (Z (.hd es))=>(ZeP es).map λkvs=>kvs.map λp=>.tuple (p.1.map ZaE)
 | _=>Z_
@[simp] def eHd(i:Nat):EF:=λr=>match r[i]? with
 | some (Z (.pl d))=>Z d
 | some (Z (.hd es))=>Z (.dict es)
 | _=>Z_
end HM
namespace HM
open PySem
@[simp] def Zb6(a:EF)(lo hi:Option EF):EF:=λr=>match a r with
 | some (.tuple xs)=>match ZlN lo r with
  | some l=>match ZlN hi r with
   | some h=>if sIx xs.length 0 l=0/\sIx xs.length xs.length h=xs.length then Z_ else Z (.tuple (cutD xs l h))
   | none=>Z_
  | none=>Z_
 | _=>Z_
@[simp] def ZiX(a:BF)(k:EF):EF:=λr=>match a r with
 | some b=>match Zkv b with
  | some kvs=>match k r with
   | some x=>match Zbp x with
    | some y=>Z ((Zj kvs y).getD .none)
    | none=>Z_
   | none=>Z_
  | none=>Z_
 | none=>Z_
end HM
namespace HM
open PySem
noncomputable def Ze6:Nat->D->Bool
 | _,.none=>ZEN
 | _,.bool _=>ZEN
 | _,.int _=>ZEN
 | _,.str _=>ZEN
 | n+1,.tuple ds=>ds.all (Ze6 n)
 | _,_=>ZEO
@[simp] def Zg9(a b:D):Option D:=if a.canLay0&&Za6 b then Z (.bool (ZAV a b))else Z_
@[simp] def ZhW(a b:D):Option D:=if a.canLay0&&Za6 b then Z (.bool (!PyData.eqv a b))else Z_
end HM
namespace HM
open PySem
abbrev AP:=Nat->List D->List D->Option D
noncomputable def Zh5:D->Option (Nat × List D)
 | .dict [(.none,.int (Int.ofNat t)),(.none,.list cs)]=>Z (t,cs)
 | _=>Z_
@[simp] def ZcQ(ap:AP)(i:Nat)(a:AF):EF:=λr=>match r[i]? with
 | some (Z (.pl d))=>match Zh5 d with
  | some (t,cs)=>match a r with
   | some ds=>ap t cs ds
   | none=>Z_
  | none=>Z_
 | _=>Z_
noncomputable def noF:Nat->D->Bool
 | _,.none=>ZEN
 | _,.bool _=>ZEN
 | _,.int _=>ZEN
 | _,.str _=>ZEN
 | n+1,.tuple ds=>ds.all (noF n)
 | n+1,.list ds=>ds.all (noF n)
 | n+1,.dict es=>es.all λp=>(match p.1 with | .none=>ZEO | _=>ZEN)&&noF n p.2
 | _,_=>ZEO
def Zk9:List Nat->Env->Option (List D)
 | [],_=>Z []
 | i::is,r=>match r[i]? with
  | some (Z (.pl d))=>(Zk9 is r).map (d::·)
  | _=>Z_
@[simp] def Zic(m:List D->Option D)(t:Nat)(is:List Nat)(a:EF):EF:=λr=>match a r with
 | some d1=>match Zk9 is r with
  | some cs=>if cs.all (noF 20)then match m [d1,fnD t cs]with
    | some d=>if noF 20 d then Z d else Z_
    | none=>Z_
   else Z_
  | none=>Z_
 | none=>Z_
def ZfP(n m:Nat)(e:EF):List D->List D->Option D:=λcs ds=>if ds.length=n/\cs.length=m/\ds.all (noF 20)=ZEN then e ((ds++cs).map λd=>Z (B.pl d))else Z_
@[simp] def ZfV(a:BF):EF:=λr=>match a r with
 | some x=>match ZiU x with
  | some ds=>match ZaX ds with
   | some ns=>Z (match ns.min? with | some i=>.int i | none=>.none)
   | none=>Z_
  | none=>Z_
 | none=>Z_
abbrev NF:=Env->Option (List (List Ky × D))
@[simp] def Zkn(a:SF)(m:NF):NF:=λr=>match a r with
 | some (.nx r')=>m r'
 | _=>Z_
@[simp] def Zos(j:Nat):NF:=λr=>match r[j]? with
 | some (Z (.ot kvs))=>Z kvs
 | _=>Z_
def newOf(k n:Nat)(m:NF):List D->Option (List (List Ky × D)):=λds=>if ds.length=k then m (Zdm n ds)else Z_
@[simp] def Zjj(m:List D->Option (List (List Ky × D)))(a:AF):BF:=λr=>match a r with
 | some ds=>match m ds with
  | some kvs=>if kvs.all (λp=>Zlp p.2)then Z (.ot kvs)else Z_
  | none=>Z_
 | none=>Z_
end HM
namespace HM
open PySem
@[simp] def ZaU(a b:EF):EF:=λr=>match a r with
 | some (.tuple xs)=>match b r with
  | some (.tuple ys)=>if xs.length+ys.length<big then Z (.tuple (xs++ys))else Z_
  | _=>Z_
 | _=>Z_
end HM
namespace HM
open PySem
@[simp] def Zf5(ap:AP)(i:Nat)(a:AF):EF:=λr=>match r[i]? with
 | some (Z (.pl d))=>match Zh5 d with
  | some (t,cs)=>match a r with
   | some ds=>match ap t cs ds with
    | some z=>if Ze6 400 z then Z z else Z_
    | none=>Z_
   | none=>Z_
  | none=>Z_
 | _=>Z_
end HM
namespace HM
open PySem
end HM
namespace HM
open PySem
end HM
namespace HM
open PySem
end HM
namespace HM
open PySem
end HM
namespace HM
open PySem
def ZhS(n:Nat):List D->List D
 | []=>[]
 | d::ds=>.tuple [.int n,d]::ZhS (n+1) ds
@[simp] def Zm4(a:EF):IF:=λr=>match a r with
 | some (.tuple ds)=>Z (ZhS 0 ds)
 | _=>Z_
@[simp] def ZqT(a b:BF):BF:=λr=>match a r with
 | some x=>match ZiU x with
  | some xs=>match b r with
   | some y=>match ZiU y with
    | some ys=>if xs.length+ys.length<big then Z (.ol (xs++ys))else Z_
    | none=>Z_
   | none=>Z_
  | none=>Z_
 | none=>Z_
end HM
namespace HM
open PySem
end HM
namespace HM
open PySem
end HM
namespace HM
open PySem
abbrev RF:=Env->Option Str
@[simp] def rNo:RF:=λ_=>Z_
@[simp] def Zjh(x:Str)(a:AF):RF:=λr=>match a r with
 | some _=>Z x
 | none=>Z_
@[simp] def rIf(t:TF)(a b:RF):RF:=λr=>match t r with
 | some ZEN=>a r
 | some ZEO=>b r
 | none=>Z_
@[simp] def Zev(g:RF)(m:SF)(rest:RF):RF:=λr=>match g r with
 | some x=>Z x
 | none=>match m r with
  | some (.nx r')=>rest r'
  | _=>Z_
@[simp] def ZfO(m:List D->Option Str)(a:AF):RF:=λr=>match a r with
 | some ds=>m ds
 | none=>Z_
def Zkz(k n:Nat)(g:RF):List D->Option Str:=λds=>if ds.length=k then g (Zdm n ds)else Z_
@[simp] def ZoG(g:RF)(h:Str->Option D)(m:SF):SF:=λr=>match g r with
 | some x=>(h x).map .rt
 | none=>m r
def hdT(x:Str):Str->Option D:=λy=>if y==x then Z (.list [.bool ZEN,.bool ZEN])else Z_
@[simp] def Zjy(a b:EF):EF:=λr=>match a r with
 | some (.tuple xs)=>match b r with
  | some (.int k)=>if decide (0<=k)&&decide (k<1000)&&decide (xs.length<1000)then Z (.tuple (ZzE k.toNat xs).flatten)else Z_
  | _=>Z_
 | _=>Z_
end HM
namespace HP
open PySem PySem.Spec PyProof.Rows L2
variable{a b l p:Addr}{o ob u:HO}{F F' H H' H1:Hp}{vvs:List (List Key × V)}{fp':List Addr}
@[reducible] def Zc5(H':Hp)(b:Addr):HO->Prop
 | .tbl _=>∃ps',H' b=Z (.tbl ps')
 | o=>H' b=Z o
def Zax(H H':Hp):Prop:=∀b o,H b=Z o->Zc5 H' b o
theorem Zc5.of(h:H' b=Z o):Zc5 H' b o:=by cases o<;>first | exact h | exact⟨_,h⟩
theorem Zc5.ex(h:Zc5 H' b o):∃u,H' b=Z u:=by cases o<;>first | exact⟨_,h⟩ | (obtain⟨ps,e⟩:=h; exact⟨_,e⟩)
theorem Zc5.no(h:Zc5 H' b o)(n:∀ps,o≠.tbl ps):H' b=Z o:=by cases o<;>first | exact h | exact absurd rfl (n _)
theorem Zax.of{H H':Hp}(s:Zq H H'):Zax H H':=λb o h=>.of (s b o h)
theorem Zax.refl(H:Hp):Zax H H:=.of (.refl H)
theorem Zax.trans{H2:Hp}(a:Zax H H1)(b:Zax H1 H2):Zax H H2:=λc o h=>by have h1:=a c o h;cases o<;>first | exact b c _ h1 | (obtain⟨ps,e⟩:=h1; exact(show ∃ps',H2 c=Z (.tbl ps') from b c _ e))
theorem Zax.free(e:Zax H H')(h:H' l=Z_):H l=Z_:=by
 cases q:H l with
 | none=>rfl
 | some o=>obtain⟨u,z⟩:=(e l o q).ex;rw[h]at z; cases z
theorem Zax.back(e:Zax H H')(h:H l=Z o)(h':H' l=Z u)(n:∀ps,u≠.tbl ps):o=u:=by have z:=e l o h;cases o<;>first | (obtain⟨ps,q⟩:=z; rw[h']at q; cases q; exact absurd rfl (n _)) | (have z:H' l=Z _:=z; rw[h']at z; cases z; rfl)
def Zcf(H:Hp):Hp:=λb=>match H b with
 | some (.tbl _)=>Z_
 | x=>x
def nt:HO->Bool
 | .tbl _=>ZEO
 | _=>ZEN
def NoT(F:Hp):Prop:=∀b o,F b=Z o->nt o=ZEN
theorem Zck(h:H b=Z o)(n:nt o=ZEN):Zcf H b=Z o:=by unfold Zcf; rw[h];cases o<;>first | rfl | cases n
theorem ZgJ(h:Zcf H b=Z o):H b=Z o/\nt o=ZEN:=by
 unfold Zcf at h;split at h
 ·cases h
 ·rename_i n
  refine⟨h,?_⟩;cases o<;>first | rfl | exact absurd h (n _)
theorem Zfj:Zq (Zcf H) H:=λb o h=>(ZgJ h).1
theorem NoT.drop{H:Hp}:NoT (Zcf H):=λb o h=>(ZgJ h).2
theorem NoT.sub(n:NoT F)(s:Zq F H):Zq F (Zcf H):=λb o h=>Zck (s b o h) (n b o h)
theorem NoT.upd{F:Hp}{p:Addr}{o:HO}(n:NoT F)(h:nt o=ZEN):NoT (upd F p o):=λb u z=>by
 by_cases hb:b=p
 ·subst hb; rw[Zy]at z; cases z; exact h
 ·rw[Zx hb]at z; exact n b u z
theorem Zax.ntb(s:Zax H H')(h:H b=Z o)(n:nt o=ZEN):H' b=Z o:=(s b o h).no λps z=>by subst z; cases n
def Dk(vvs:List (List Key × V))(u:HO):Prop:=u=.dT vvs\/∃o,u=.frz o (.dT vvs)
def sw(a:Addr)(ob:HO)(G:Hp):Hp:=λb=>if b=a then(G a).map (λ_=>ob)else G b
class FX where
 tl:List (Addr × Str)
 fv:Nat->List PyData->Hp->Addr->Prop
 sw:∀{t:Nat} {cs:List PyData} {F:Hp} {a b:Addr} {ob:HO} {vvs:List (List Key × V)},(∀u,F a=Z u->Dk vvs u)->Dk vvs ob->fv t cs F b->fv t cs (sw a ob F) b
 drop:∀{t:Nat} {cs:List PyData} {F:Hp} {a:Addr},fv t cs F a->fv t cs (Zcf F) a
 mono:∀{t:Nat} {cs:List PyData} {F F':Hp} {a:Addr},fv t cs F a->Zq F F'->fv t cs F' a
variable[FX]
def Zaw(a:Addr)(o:Obj):HO:=.ext λh=>h.get? a=Z o
def ZlJ(o:Obj)(q:Str):Prop:=∃vs t,o.data=.fields vs/\vs[1]?=Z (.str q t)
def Tb(H:Hp):Prop:=∀P q,(P,q)∈FX.tl->∃ps,H P=Z (.tbl ps)/\TriplesOk ps.toList/\∀pos c,ZDp pos ps.toList=Z c->∃a o,c=.ref a/\H a=Z (Zaw a o)/\ZlJ o q
def ZlG:HO->Bool
 | .lst _=>ZEN
 | .dK _=>ZEN
 | .dT _=>ZEN
 | _=>ZEO
def te:HO->Bool
 | .tbl _=>ZEN
 | .ext _=>ZEN
 | _=>ZEO
theorem Zsm(h:ZlG o=ZEN)(h':te o=ZEN):False:=by cases o<;>simp_all [ZlG,te]
theorem Tb.keep(t:Tb H)(k:∀a o,H a=Z o->te o=ZEN->H' a=Z o):Tb H':=λP q hP=>by obtain⟨ps,h1,h2,h3⟩:=t P q hP;refine⟨ps,k _ _ h1 rfl,h2,λpos c hc=>?_⟩;obtain⟨a,o,e1,e2,e3⟩:=h3 pos c hc;exact⟨a,o,e1,k _ _ e2 rfl,e3⟩
theorem Dk.te{vvs:List (List Key × V)}{u:HO}(h:Dk vvs u):te u=ZEO:=by rcases h with h | ⟨o,h⟩<;>subst h<;>rfl
theorem Dk.ntt(h:Dk vvs u):nt u=ZEN:=by rcases h with h | ⟨o,h⟩<;>subst h<;>rfl
theorem Tb.sw{G:Hp}{a:Addr}{ob:HO}{vvs:List (List Key × V)}(hG:∀u,G a=Z u->Dk vvs u)(t:Tb G):Tb (HP.sw a ob G):=t.keep λb o z ht=>by
 have hb:b≠a:=λe=>by subst e; rw[(hG o z).te]at ht; cases ht
 unfold HP.sw; rw[if_neg hb]; exact z
theorem Tb.unsw{G:Hp}(hob:Dk vvs ob)(t:Tb (HP.sw a ob G)):Tb G:=t.keep λb o z ht=>by
 unfold HP.sw at z;split at z
 ·obtain⟨u,_,e⟩:=Zzy.mp z
  subst e; rw[hob.te]at ht; cases ht
 ·exact z
theorem Zc5.cong(e:H' b=H b)(h:Zc5 H b o):Zc5 H' b o:=by unfold Zc5 at h ⊢; rw[e]; exact h
theorem Zax.sw{H0 H:Hp}{a:Addr}{ob:HO}(s:Zax H0 H):Zax (HP.sw a ob H0) (HP.sw a ob H):=λb o z=>by
 by_cases hb:b=a
 ·subst hb
  unfold HP.sw at z;rw[if_pos rfl]at z;obtain⟨u,h1,h2⟩:=Zzy.mp z;obtain⟨w,hw⟩:=(s _ _ h1).ex;refine .of ?_;unfold HP.sw;rw[if_pos rfl,hw,h2.symm]; rfl
 ·unfold HP.sw at z
  rw[if_neg hb]at z;refine(s b o z).cong ?_;unfold HP.sw; rw[if_neg hb]
theorem Tb.same(t:Tb H)(s:Zq H H'):Tb H':=t.keep λa o h _=>s a o h
theorem Zjq(r:Rd F a u)(s:Zq F F'):Rd F' a u:=r.imp (λh=>s _ _ h) λ⟨o,h⟩=>⟨o,s _ _ h⟩
def Zov(K:Zzx)(a:Addr)(vs:List V):Prop:=∃(o:Obj) (its:Array Value) (n:Nat),K.lookup a=Z o/\o.cls=.type "tuple"/\o.data=.seq its n/\its.size<=sizeLine/\Vals vs its.toList
theorem ZeO{K:Zzx}{vs:List V}(h:SqT K F a vs)(s:Zq F F'):SqT K F' a vs:=h.imp (λh=>Zjq h s) id
inductive Rep(K:Zzx)(F:Hp):PyData->V->Prop where
 | non:Rep K F .none .non
 | bl (b:Bool):Rep K F (.bool b) (.bl b)
 | int (i:Int):Rep K F (.int i) (.int i)
 | str (x:Str):Rep K F (.str x) (.str x)
 | tupk {a:Addr} {x:Str} (h:Zov K a [.str x]):Rep K F (.tuple [.str x]) (.ref a)
 | tup {a:Addr} {ds:List PyData} {vs:List V} (h:F a=Z (.tup vs)) (hl:ds.length=vs.length) (hr:∀(i:Nat) (d:PyData) (v:V),ds[i]?=Z d->vs[i]?=Z v->Rep K F d v):Rep K F (.tuple ds) (.ref a)
 | lst {a:Addr} {ds:List PyData} {vs:List V} (h:SqL K F a vs) (hl:ds.length=vs.length) (hr:∀(i:Nat) (d:PyData) (v:V),ds[i]?=Z d->vs[i]?=Z v->Rep K F d v):Rep K F (.list ds) (.ref a)
 | dct {a:Addr} {es:List (PyData × PyData)} {kvs:List (List Key × PyData)} {vvs:List (List Key × V)} (h:Rd F a (.dT vvs)) (he:es=HM.Zg kvs) (hk:kvs.map (·.1)=vvs.map (·.1)) (hr:∀(i:Nat) (d:PyData) (v:V),(kvs.map (·.2))[i]?=Z d->(vvs.map (·.2))[i]?=Z v->Rep K F d v):Rep K F (.dict es) (.ref a)
 | fn {a:Addr} {t:Nat} {cs:List PyData} (h:FX.fv t cs F a):Rep K F (.dict [(.none,.int (Int.ofNat t)),(.none,.list cs)]) (.ref a)
def Zs(K:Zzx)(F:Hp)(ds:List PyData)(vs:List V):Prop:=ds.length=vs.length/\∀(i:Nat) (d:PyData) (v:V),ds[i]?=Z d->vs[i]?=Z v->Rep K F d v
section
variable{K:Zzx}{F F':Hp}{d:PyData}{v:V}{ds es:List PyData}{vs us:List V}
theorem Rep.mono(r:Rep K F d v)(s:Zq F F'):Rep K F' d v:=by
 induction r with
 | non=>exact .non
 | bl b=>exact .bl b
 | int i=>exact .int i
 | str x=>exact .str x
 | tup h hl _ ih=>exact .tup (s _ _ h) hl ih
 | tupk h=>exact .tupk h
 | lst h hl _ ih=>exact .lst (s.seq h) hl ih
 | dct h he hk _ ih=>exact .dct (Zjq h s) he hk ih
 | fn h=>exact .fn (FX.mono h s)
theorem Rep.drop(r:Rep K F d v):Rep K (Zcf F) d v:=by
 induction r with
 | non=>exact .non
 | bl b=>exact .bl b
 | int i=>exact .int i
 | str x=>exact .str x
 | tup h hl _ ih=>exact .tup (Zck h rfl) hl ih
 | tupk h=>exact .tupk h
 | lst h hl _ ih =>
  refine .lst ?_ hl ih;rcases h with(h | ⟨o,h⟩) | h
  ·exact .inl (.inl (Zck h rfl))
  ·exact .inl (.inr ⟨o,Zck h rfl⟩)
  ·exact .inr h
 | dct h he hk _ ih =>
  refine .dct ?_ he hk ih;rcases h with h | ⟨o,h⟩
  ·exact .inl (Zck h rfl)
  ·exact .inr ⟨o,Zck h rfl⟩
 | fn h=>exact .fn (FX.drop h)
theorem Zs.drop'(r:Zs K F ds vs):Zs K (Zcf F) ds vs:=⟨r.1,λi d v h1 h2=>(r.2 i d v h1 h2).drop⟩
theorem Zax.dr(s:Zax H H'):Zq (Zcf H) H':=λb o h=>s.ntb (ZgJ h).1 (ZgJ h).2
theorem Rep.monoT(r:Rep K H d v)(s:Zax H H'):Rep K H' d v:=r.drop.mono s.dr
theorem Zs.mono(r:Zs K F ds vs)(s:Zq F F'):Zs K F' ds vs:=⟨r.1,λi d v h1 h2=>(r.2 i d v h1 h2).mono s⟩
theorem Zs.nil:Zs K F [] []:=⟨rfl,λi d v h=>by simp at h⟩
theorem Zs.cons(r:Rep K F d v)(q:Zs K F ds vs):Zs K F (d::ds) (v::vs) :=
 ⟨by rw[ZzS,ZzS,q.1],λi e u h1 h2=>by
  cases i with
  | zero=>rw[ZBC]at h1 h2;cases h1; cases h2; exact r
  | succ i=>rw[ZAf]at h1 h2;exact q.2 i e u h1 h2⟩
theorem Zs.nil_inv(r:Zs K F [] vs):vs=[]:=ZAv r.1.symm
theorem Zs.cons_inv(r:Zs K F (d::ds) vs):∃v us,vs=v::us/\Rep K F d v/\Zs K F ds us:=by
 cases vs with
 | nil=>exact absurd r.1 (by simp)
 | cons v us =>
  refine⟨v,us,rfl,r.2 0 d v rfl rfl,?_,λi e u h1 h2=>r.2 (i+1) e u ?_ ?_⟩
  ·have:=r.1
   rw[ZzS,ZzS]at this;omega
  ·rw[ZAf]; exact h1
  ·rw[ZAf]; exact h2
theorem Zs.append(r:Zs K F ds vs)(q:Zs K F es us):Zs K F (ds++es) (vs++us):=by
 refine⟨by rw[ZzM,ZzM,r.1,q.1],λi e u h1 h2=>?_⟩
 by_cases hi:i<ds.length
 ·rw[ZAq hi]at h1
  rw[ZAq (by rw[<-r.1]; exact hi)]at h2;exact r.2 i e u h1 h2
 ·rw[ZAk (by omega)]at h1
  rw[ZAk (by have:=r.1; omega),<-r.1]at h2;exact q.2 _ e u h1 h2
theorem Zs.get(r:Zs K F ds vs){i:Nat}(h:ds[i]?=Z d):∃v,vs[i]?=Z v/\Rep K F d v:=by
 have hi:i<vs.length:=by rw[<-r.1]; exact(ZzL.mp h).1
 exact⟨vs[i],ZzT hi,r.2 i d _ h (ZzT hi)⟩
theorem Zs.drop(r:Zs K F ds vs)(n:Nat):Zs K F (ds.drop n) (vs.drop n) :=
 ⟨by rw[ZAO,ZAO,r.1],λi e u h1 h2=>by rw[List.getElem?_drop]at h1 h2;exact r.2 _ e u h1 h2⟩
theorem Zs.take(r:Zs K F ds vs)(n:Nat):Zs K F (ds.take n) (vs.take n) :=
 ⟨by rw[ZAN,ZAN,r.1],λi e u h1 h2=>by
  by_cases hi:i<n
  ·rw[ZDQ hi]at h1 h2
   exact r.2 _ e u h1 h2
  ·rw[List.getElem?_take_eq_none (by omega)]at h1
   cases h1⟩
theorem Zs.set(r:Zs K F ds vs)(q:Rep K F d v)(j:Nat):Zs K F (ds.set j d) (vs.set j v):=by
 refine⟨by rw[ZAL,ZAL,r.1],λi e u h1 h2=>?_⟩;have hi:i<ds.length:=by have:=(ZzL.mp h1).1; rwa [ZAL]at this
 by_cases e1:j=i
 ·subst e1
  rw[ZAr hi]at h1;rw[ZAr (by rw[<-r.1]; exact hi)]at h2;cases h1; cases h2; exact q
 ·rw[Zz9 e1]at h1 h2
  exact r.2 i e u h1 h2
theorem Zs.rep(r:Zs K F ds vs)(k:Nat):Zs K F (ZzE k ds).flatten (ZzE k vs).flatten:=by
 induction k with
 | zero=>exact Zs.nil
 | succ k ih=>rw[ZBg,ZBg,ZBR,ZBR]; exact r.append ih
theorem Zs.one(r:Rep K F d v):Zs K F [d] [v]:=.cons r .nil
end
def Fre(H:Hp)(a:Addr)(o:HO):Prop:=H a=Z_\/∃xs,o=.tup xs/\H a=Z (.tup xs)
theorem Fre.back{H H':Hp}{a:Addr}{o:HO}(s:Zax H H')(f:Fre H' a o):Fre H a o:=by
 rcases f with f | ⟨xs,e,f⟩
 ·exact .inl (s.free f)
 ·cases q:H a with
  | none=>exact .inl q
  | some u =>
   have:=s.back q f λ_ z=>by cases z
   subst this;exact .inr ⟨xs,e,q⟩
theorem Fre.no(f:Fre H a o)(h:H a=Z u)(n:∀xs,u≠.tup xs):False:=by
 rcases f with f | ⟨xs,_,f⟩
 ·rw[h]at f; cases f
 ·rw[h]at f; cases f; exact n xs rfl
structure Ext(F H F' H':Hp):Prop where
 ff:Zq F F'
 hh:Zax H H'
 sub:Zq F' H'
 new:∀a o,F' a=Z o->F a=Z o\/Fre H a o
 tab:Tb H->Tb H'
 nts:NoT F->NoT F'
theorem Ext.refl{F H:Hp}(s:Zq F H):Ext F H F H:=⟨Zq.refl F,Zax.refl H,s,λ_ _ h=>.inl h,id,id⟩
theorem Ext.trans{F H F1 H1 F2 H2:Hp}(a:Ext F H F1 H1)(b:Ext F1 H1 F2 H2):Ext F H F2 H2 :=
 ⟨a.ff.trans b.ff,a.hh.trans b.hh,b.sub,λx o h=>by
  rcases b.new x o h with q | q
  ·exact a.new x o q
  ·exact .inr (q.back a.hh),λt=>b.tab (a.tab t),λt=>b.nts (a.nts t)⟩
theorem Zkt(h:F p=Z_):Zq F (upd F p o):=λb q z=>by rw[Zx (Zas z h)]; exact z
theorem Ext.lay(e:Ext F H F' H')(h:H' p=Z_)(no:nt o=ZEN:=by rfl):Ext F H (upd F' p o) (upd H' p o):=by
 have hF:F' p=Z_:=e.sub.free h;refine⟨λb q z=>?_,e.hh.trans (.of (Zkt h)),λb q z=>?_,λb q z=>?_,λt=>(e.tab t).same (Zkt h),λt=>(e.nts t).upd no⟩
 ·rw[Zx (Zas (e.ff b q z) hF)]; exact e.ff b q z
 ·by_cases hb:b=p
  ·subst hb; rw[Zy]at z ⊢; exact z
  ·rw[Zx hb]at z ⊢; exact e.sub b q z
 ·by_cases hb:b=p
  ·subst hb; exact .inr (.inl (e.hh.free h))
  ·rw[Zx hb]at z; exact e.new b q z
theorem Ext.lay'(e:Ext F H F' H')(h:H' p=Z_):Ext F H F' (upd H' p o):=by refine⟨e.ff,e.hh.trans (.of (Zkt h)),λb q z=>?_,e.new,λt=>(e.tab t).same (Zkt h),e.nts⟩;rw[Zx (Zas (e.sub b q z) h)]; exact e.sub b q z
theorem Zq.upd'(h:F p=Z_):Zq F (upd F p o):=λb q z=>by rw[Zx (Zas z h)]; exact z
def ZbU(F H:Hp):Hp:=λa=>match H a with
 | some (.tup xs)=>Z (.tup xs)
 | _=>F a
theorem ZkF{xs:List V}(h:H a=Z (.tup xs)):ZbU F H a=Z (.tup xs):=by unfold ZbU; rw[h]
theorem ZcX(s:Zq F H):Zq F (ZbU F H):=λa o h=>by
 have:=s a o h;unfold ZbU;split
 ·rename_i xs q
  rw[q]at this;exact this
 ·exact h
theorem Ext.tups(e:Ext F H F' H'):Ext F H (ZbU F' H') H':=by
 have key:Ext F' H' (ZbU F' H') H':=by
  refine⟨ZcX e.sub,Zax.refl H',λa o h=>?_,λa o h=>?_,id,λn a o h=>?_⟩
  ·unfold ZbU at h
   split at h
   ·rename_i xs q; rw[q]; exact h
   ·exact e.sub a o h
  ·unfold ZbU at h
   split at h
   ·rename_i xs q
    cases h;exact .inr (.inr ⟨xs,rfl,q⟩)
   ·exact .inl h
  ·unfold ZbU at h
   split at h
   ·cases h; rfl
   ·exact n a o h
 exact e.trans key
inductive Zag(K:Zzx)(F H:Hp):HM.B->V->List Addr->Prop where
 | pl {d:PyData} {v:V} (r:Rep K F d v):Zag K F H (.pl d) v []
 | ol {a:Addr} {ds:List PyData} {vs:List V} (h:H a=Z (.lst vs)) (r:Zs K F ds vs):Zag K F H (.ol ds) (.ref a) [a]
 | ok {a:Addr} {kvs:List (Key × PyData)} {vvs:List (Key × V)} (h:H a=Z (.dK vvs)) (hk:kvs.map (·.1)=vvs.map (·.1)) (r:Zs K F (kvs.map (·.2)) (vvs.map (·.2))):Zag K F H (.ok kvs) (.ref a) [a]
 | ot {a:Addr} {kvs:List (List Key × PyData)} {vvs:List (List Key × V)} (h:H a=Z (.dT vvs)) (hk:kvs.map (·.1)=vvs.map (·.1)) (r:Zs K F (kvs.map (·.2)) (vvs.map (·.2))):Zag K F H (.ot kvs) (.ref a) [a]
 | otl {a:Addr} {kvs:List (List Key × List PyData)} {vvs:List (List Key × V)} {ls:List Addr} (h:H a=Z (.dT vvs)) (hk:kvs.map (·.1)=vvs.map (·.1)) (hv:vvs.map (·.2)=ls.map V.ref)
   (r:∀(i:Nat) (ds:List PyData) (l:Addr),(kvs.map (·.2))[i]?=Z ds->ls[i]?=Z l->∃vs,H l=Z (.lst vs)/\Zs K F ds vs):Zag K F H (.otl kvs) (.ref a) (a::ls)
 | hd {a:Addr} {o:Obj} {es:List (PyData × PyData)} {kvs:List (List Key × PyData)} {vvs:List (List Key × V)} (h:F a=Z (.frz o (.dT vvs))) (he:es=HM.Zg kvs) (hk:kvs.map (·.1)=vvs.map (·.1)) (r:Zs K F (kvs.map (·.2)) (vvs.map (·.2))):Zag K F H (.hd es) (.ref a) []
 | hf {a:Addr} {t:Nat} {cs:List PyData} (h:FX.fv t cs F a):Zag K F H (.hd [(.none,.int (Int.ofNat t)),(.none,.list cs)]) (.ref a) []
section
variable{K:Zzx}{F F' H H':Hp}{b:HM.B}{v:V}{fp:List Addr}
theorem Zag.mono(r:Zag K F H b v fp)(s:Zq F F')(k:∀a∈fp,∀o,H a=Z o->Zc5 H' a o):Zag K F' H' b v fp:=by
 cases r with
 | pl r=>exact .pl (r.mono s)
 | ol h r=>exact .ol (k _ (by simp) _ h) (r.mono s)
 | ok h hk r=>exact .ok (k _ (by simp) _ h) hk (r.mono s)
 | ot h hk r=>exact .ot (k _ (by simp) _ h) hk (r.mono s)
 | hd h he hk r=>exact .hd (s _ _ h) he hk (r.mono s)
 | hf h=>exact .hf (FX.mono h s)
 | otl h hk hv r=>refine .otl (k _ (by simp) _ h) hk hv λi ds l h1 h2=>?_;obtain⟨vs,q1,q2⟩:=r i ds l h1 h2;exact⟨vs,k l (ZzD _ (Zz5 h2)) _ q1,q2.mono s⟩
theorem Zag.there2(r:Zag K F H b v fp)(h:a∈fp):∃o,H a=Z o/\ZlG o=ZEN:=by
 cases r with
 | pl r=>simp at h
 | hd _ _ _ _=>simp at h
 | hf _=>simp at h
 | ol q r=>simp at h; subst h; exact⟨_,q,rfl⟩
 | ok q hk r=>simp at h; subst h; exact⟨_,q,rfl⟩
 | ot q hk r=>simp at h; subst h; exact⟨_,q,rfl⟩
 | @otl a' kvs vvs ls q hk hv r =>
  rcases ZzK.mp h with e | e
  ·subst e; exact⟨_,q,rfl⟩
  ·obtain⟨i,hi⟩:=List.getElem?_of_mem e
   have hl:kvs.length=ls.length:=by have e1:=congrArg ZAg hk;have e2:=congrArg ZAg hv;rw[Zzw,Zzw]at e1 e2;omega
   have hi':i<kvs.length:=by rw[hl]; exact(ZzL.mp hi).1
   obtain⟨vs,q1,_⟩:=r i (kvs[i].2) a (by simp[hi']) hi;exact⟨_,q1,rfl⟩
theorem Zag.there'(r:Zag K F H b v fp)(h:a∈fp):∃o,H a=Z o/\∀xs,o≠.tup xs:=by
 cases r with
 | pl r=>simp at h
 | hd _ _ _ _=>simp at h
 | hf _=>simp at h
 | ol q r=>simp at h; subst h; exact⟨_,q,λ_ z=>by cases z⟩
 | ok q hk r=>simp at h; subst h; exact⟨_,q,λ_ z=>by cases z⟩
 | ot q hk r=>simp at h; subst h; exact⟨_,q,λ_ z=>by cases z⟩
 | @otl a' kvs vvs ls q hk hv r =>
  rcases ZzK.mp h with e | e
  ·subst e; exact⟨_,q,λ_ z=>by cases z⟩
  ·obtain⟨i,hi⟩:=List.getElem?_of_mem e
   have hl:kvs.length=ls.length:=by have e1:=congrArg ZAg hk;have e2:=congrArg ZAg hv;rw[Zzw,Zzw]at e1 e2;omega
   have hi':i<kvs.length:=by rw[hl]; exact(ZzL.mp hi).1
   obtain⟨vs,q1,_⟩:=r i (kvs[i].2) a (by simp[hi']) hi;exact⟨_,q1,λ_ z=>by cases z⟩
theorem Zag.there(r:Zag K F H b v fp)(h:a∈fp):∃o,H a=Z o:=let ⟨o,q,_⟩:=r.there' h; ⟨o,q⟩
end
structure Zbi(K:Zzx)(F0 H0 F H:Hp)(r:HM.Env)(σ:L2.St)(fp:Nat->List Addr):Prop where
 ext:Ext F0 H0 F H
 len:r.length=σ.length
 at_:∀(i:Nat) (b:HM.B),r[i]?=Z (Z b)->∃v,σ[i]?=Z (Z v)/\Zag K F H b v (fp i)
 emp:∀(i:Nat),(∀b,r[i]?≠Z (Z b))->fp i=[]
 own:∀(i:Nat) (a:Addr),a∈fp i->F a=Z_/\H0 a=Z_
 nd:∀i,(fp i).Nodup
 dis:∀(i j:Nat) (a:Addr),i≠j->a∈fp i->¬a∈fp j
 tb:Tb H0
 nt:NoT F0
def At(K:Zzx)(F0 H0 F H:Hp)(r:HM.Env)(σ:L2.St):Prop:=∃fp,Zbi K F0 H0 F H r σ fp
section
variable{K:Zzx}{F0 H0 F H F' H':Hp}{r:HM.Env}{σ:L2.St}{fp:Nat->List Addr}{i:Nat}{b:HM.B}{v:V}{d:PyData}
theorem Zbi.bound(e:Zbi K F0 H0 F H r σ fp)(h:a∈fp i):∃b,r[i]?=Z (Z b):=by
 cases q:r[i]? with
 | none=>rw[e.emp i (λb z=>by rw[q]at z; cases z)]at h; simp at h
 | some x =>
  cases x with
  | none=>rw[e.emp i (λb z=>by rw[q]at z; cases z)]at h; simp at h
  | some b=>exact⟨b,rfl⟩
theorem Zbi.there'(e:Zbi K F0 H0 F H r σ fp){a:Addr}(h:a∈fp i):∃o,H a=Z o/\∀xs,o≠.tup xs:=by obtain⟨b,hb⟩:=e.bound h;obtain⟨v,_,q⟩:=e.at_ i b hb;exact q.there' h
theorem Zbi.there2(e:Zbi K F0 H0 F H r σ fp){a:Addr}(h:a∈fp i):∃o,H a=Z o/\ZlG o=ZEN:=by obtain⟨b,hb⟩:=e.bound h;obtain⟨v,_,q⟩:=e.at_ i b hb;exact q.there2 h
theorem Zbi.there(e:Zbi K F0 H0 F H r σ fp)(h:a∈fp i):∃o,H a=Z o:=let ⟨o,q,_⟩:=e.there' h; ⟨o,q⟩
theorem Zbi.sub(e:Zbi K F0 H0 F H r σ fp):Zq F H:=e.ext.sub
theorem Zbi.grow(e:Zbi K F0 H0 F H r σ fp)(x:Ext F H F' H'):Zbi K F0 H0 F' H' r σ fp:=by
 refine⟨e.ext.trans x,e.len,λi b h=>?_,e.emp,λi a h=>⟨?_,(e.own i a h).2⟩,e.nd,e.dis,e.tb,e.nt⟩
 ·obtain⟨v,h1,h2⟩:=e.at_ i b h
  exact⟨v,h1,h2.mono x.ff λa _ o q=>x.hh a o q⟩
 ·cases q:F' a with
  | none=>rfl
  | some o =>
   rcases x.new a o q with z | z
   ·rw[(e.own i a h).1]at z; cases z
   ·obtain⟨o',h',hn⟩:=e.there' h
    exact(z.no h' hn).elim
theorem At.grow(e:At K F0 H0 F H r σ)(x:Ext F H F' H'):At K F0 H0 F' H' r σ:=let ⟨fp,e⟩:=e; ⟨fp,e.grow x⟩
theorem At.tb(e:At K F0 H0 F H r σ):Tb H:=let ⟨_,e⟩:=e; e.ext.tab e.tb
theorem At.tbx(e:At K F0 H0 F H r σ)(x:Ext F H F' H'):Tb H':=x.tab e.tb
theorem At.nt(e:At K F0 H0 F H r σ):NoT F:=let ⟨_,e⟩:=e; e.ext.nts e.nt
theorem At.ntx(e:At K F0 H0 F H r σ)(x:Ext F H F' H'):NoT F':=x.nts e.nt
theorem At.nt0(e:At K F0 H0 F H r σ):NoT F0:=let ⟨_,e⟩:=e; e.nt
theorem At.sub(e:At K F0 H0 F H r σ):Zq F H:=let ⟨_,e⟩:=e; e.ext.sub
theorem At.ext(e:At K F0 H0 F H r σ):Ext F0 H0 F H:=let ⟨_,e⟩:=e; e.ext
theorem At.refl(e:At K F0 H0 F H r σ):Ext F H F H:=.refl e.sub
theorem At.plain(e:At K F0 H0 F H r σ)(h:r[i]?=Z (Z (.pl d))):∃v,σ[i]?=Z (Z v)/\Rep K F d v:=by
 obtain⟨fp,e⟩:=e;obtain⟨v,h1,h2⟩:=e.at_ i _ h;generalize fp i=f at h2;cases h2 with
 | pl q=>exact⟨v,h1,q⟩
theorem At.any(e:At K F0 H0 F H r σ)(h:r[i]?=Z (Z b)):∃v fp,σ[i]?=Z (Z v)/\Zag K F H b v fp:=by obtain⟨fp,e⟩:=e;obtain⟨v,h1,h2⟩:=e.at_ i _ h;exact⟨v,_,h1,h2⟩
theorem At.store(e:At K F0 H0 F H r σ)(q:Zag K F H b v fp')(nd:fp'.Nodup)(h1:∀a∈fp',F a=Z_/\H0 a=Z_)(h2:∀fp,Zbi K F0 H0 F H r σ fp->∀j a,j≠i->a∈fp j->¬a∈fp') :
  At K F0 H0 F H (r.set i (Z b)) (σ.set i (Z v)):=by
 obtain⟨fp,e⟩:=e;have h2:=h2 fp e
 by_cases hi:i<r.length
 ·refine⟨λj=>if j=i then fp' else fp j,e.ext,by rw[ZAL,ZAL,e.len],λj c h=>?_,λj h=>?_,λj a h=>?_,λj=>?_,λj k a hjk h=>?_,e.tb,e.nt⟩
  ·by_cases hj:j=i
   ·subst hj
    rw[ZAr hi]at h;cases h;refine⟨v,ZAr (by rw[<-e.len]; exact hi),?_⟩;rw[if_pos rfl]; exact q
   ·rw[Zz9 (ZAG hj)]at h
    obtain⟨u,q1,q2⟩:=e.at_ j c h;refine⟨u,by rw[Zz9 (ZAG hj)]; exact q1,?_⟩;rw[if_neg hj]; exact q2
  ·by_cases hj:j=i
   ·subst hj
    exact absurd (ZAr hi) (h b)
   ·show(if j=i then fp' else fp j)=[]
    rw[if_neg hj];exact e.emp j λc z=>h c (by rw[Zz9 (ZAG hj)]; exact z)
  ·by_cases hj:j=i
   ·rw[if_pos hj]at h; exact h1 a h
   ·rw[if_neg hj]at h; exact e.own j a h
  ·show(if j=i then fp' else fp j).Nodup
   by_cases hj:j=i
   ·rw[if_pos hj]; exact nd
   ·rw[if_neg hj]; exact e.nd j
  ·show ¬a∈(if k=i then fp' else fp k)
   by_cases hj:j=i
   ·rw[if_pos hj]at h
    by_cases hk:k=i
    ·exact absurd (hj.trans hk.symm) hjk
    ·rw[if_neg hk]; exact λz=>h2 k a hk z h
   ·rw[if_neg hj]at h
    by_cases hk:k=i
    ·rw[if_pos hk]; exact h2 j a hj h
    ·rw[if_neg hk]; exact e.dis j k a hjk h
 ·have e1:r.set i (Z b)=r:=ZDW (by omega)
  have e2:σ.set i (Z v)=σ:=ZDW (by have:=e.len; omega);rw[e1,e2];exact⟨fp,e⟩
theorem At.set(e:At K F0 H0 F H r σ)(q:Rep K F d v):At K F0 H0 F H (r.set i (Z (.pl d))) (σ.set i (Z v)) :=
 e.store (.pl q) ZBc (λa h=>by simp at h) λ_ _ _ _ _ _ h=>by simp at h
theorem Zbi.changeW(e:Zbi K F0 H0 F H r σ fp)(hv:σ[i]?=Z (Z v))(q:Zag K F H' b v fp')(nd:fp'.Nodup)(h1:∀a∈fp',a∈fp i\/(F a=Z_/\H0 a=Z_/\∀j,a ∉ fp j))
  (h2:∀a o,H a=Z o->¬a∈fp i->H' a=Z o):At K F0 H0 F H' (r.set i (Z b)) σ:=by
 have sF:Zq F H':=λa o z=>h2 a o (e.sub a o z) λm=>by rw[(e.own i a m).1]at z; cases z
 have sH:Zax H0 H':=λa o z=>by
  have nm:¬a∈fp i:=λm=>by rw[(e.own i a m).2]at z; cases z
  have y:=e.ext.hh a o z;cases o<;>first | exact h2 a _ y nm | (obtain⟨ps,q⟩:=y; exact⟨ps,h2 a _ q nm⟩)
 have sT:Tb H0->Tb H':=λt=>(e.ext.tab t).keep λa o z ho=>h2 a o z λm=>by obtain⟨o',q1,q2⟩:=e.there2 m;rw[z]at q1; cases q1; exact Zsm q2 ho
 have e':Zbi K F0 H0 F H' (r.set i Z_) (σ.set i Z_) (λj=>if j=i then[]else fp j):=by
  refine⟨⟨e.ext.ff,sH,sF,e.ext.new,sT,e.ext.nts⟩,by rw[ZAL,ZAL,e.len],λj c h=>?_,λj h=>?_,λj a h=>?_,λj=>?_,λj k a hjk h=>?_,e.tb,e.nt⟩
  ·by_cases hj:j=i
   ·subst hj
    by_cases hi:j<r.length
    ·rw[ZAr hi]at h; cases h
    ·rw[ZEo (by rw[ZAL]; omega)]at h; cases h
   ·rw[Zz9 (ZAG hj)]at h
    obtain⟨u,q1,q2⟩:=e.at_ j c h;refine⟨u,by rw[Zz9 (ZAG hj)]; exact q1,?_⟩;rw[if_neg hj];exact q2.mono (Zq.refl F) λa ha o z=>.of (h2 a o z (e.dis j i a hj ha))
  ·show(if j=i then[]else fp j)=[]
   by_cases hj:j=i
   ·rw[if_pos hj]
   ·rw[if_neg hj]
    exact e.emp j λc z=>h c (by rw[Zz9 (ZAG hj)]; exact z)
  ·by_cases hj:j=i
   ·rw[if_pos hj]at h; simp at h
   ·rw[if_neg hj]at h; exact e.own j a h
  ·show(if j=i then[]else fp j).Nodup
   by_cases hj:j=i
   ·rw[if_pos hj]; exact ZBc
   ·rw[if_neg hj]; exact e.nd j
  ·show ¬a∈(if k=i then[]else fp k)
   by_cases hj:j=i
   ·rw[if_pos hj]at h; simp at h
   ·rw[if_neg hj]at h
    by_cases hk:k=i
    ·rw[if_pos hk]; simp
    ·rw[if_neg hk]; exact e.dis j k a hjk h
 have hF:∀a∈fp',F a=Z_/\H0 a=Z_:=λa ha=>by
  rcases h1 a ha with z | z
  ·exact e.own i a z
  ·exact⟨z.1,z.2.1⟩
 have e2:=At.store (i:=i) ⟨_,e'⟩ q nd hF λfq eq j a hj ha z=>by
  obtain⟨c,hc⟩:=eq.bound ha;rw[Zz9 (ZAG hj)]at hc;obtain⟨u1,s1,r1⟩:=eq.at_ j c (by rw[Zz9 (ZAG hj)]; exact hc);obtain⟨u2,s2,r2⟩:=e.at_ j c hc;rw[Zz9 (ZAG hj),s2]at s1;cases s1;have hm:a∈fp j:=by
   have r2':=r2.mono (H':=H') (Zq.refl F) λa ha o z=>.of (h2 a o z (e.dis j i a hj ha))
   clear r2
   generalize fq j=f1 at r1 ha;generalize fp j=f2 at r2' ⊢;cases r1 with
   | pl _=>simp at ha
   | hd _ _ _ _=>simp at ha
   | hf _=>simp at ha
   | ol _ _=>cases r2' with | ol _ _=>exact ha
   | ok _ _ _=>cases r2' with | ok _ _ _=>exact ha
   | ot _ _ _=>cases r2' with | ot _ _ _=>exact ha
   | otl a1 _ v1 _ =>
    cases r2' with
    | otl a2 _ v2 _ =>
     rw[a1]at a2;cases a2;rw[v1]at v2;have:∀{l l':List Addr},l.map V.ref=l'.map V.ref->l=l':=by
      intro l
      induction l with
      | nil=>intro l' h; cases l' with | nil=>rfl | cons _ _=>simp at h
      | cons x xs ih =>
       intro l' h;cases l' with
       | nil=>simp at h
       | cons y ys =>
        rw[ZzG,ZzG]at h;injection h with h1 h2
        injection h1 with h1
        rw[h1,ih h2]
     rw[<-this v2]; exact ha
  rcases h1 a z with w | w
  ·exact e.dis j i a hj hm w
  ·exact w.2.2 j hm
 rw[ZC9,ZC9]at e2;have es:σ.set i (Z v)=σ:=by have hi:i<σ.length:=(ZzL.mp hv).1;have hq:σ[i]=Z v:=(ZzL.mp hv).2;rw[<-hq];exact ZCi hi
 rwa [es]at e2
theorem Zbi.change(e:Zbi K F0 H0 F H r σ fp)(hv:σ[i]?=Z (Z v))(q:Zag K F H' b v fp')(nd:fp'.Nodup)(h1:∀a∈fp',a∈fp i\/H a=Z_)
  (h2:∀a o,H a=Z o->¬a∈fp i->H' a=Z o):At K F0 H0 F H' (r.set i (Z b)) σ :=
 e.changeW hv q nd (λa ha=>(h1 a ha).imp id λz=>⟨e.sub.free z,e.ext.hh.free z,λj hj=>by obtain⟨o,ho⟩:=e.there hj;rw[z]at ho; cases ho⟩) h2
theorem At.storeNew{Hb:Hp}(e:At K F0 H0 F H r σ)(hb:At K F0 H0 F' Hb r σ)(sb:Zax Hb H)(q:Zag K F H b v fp')(nd:fp'.Nodup)(h1:∀a∈fp',F a=Z_/\Hb a=Z_) :
  At K F0 H0 F H (r.set i (Z b)) (σ.set i (Z v)):=by
 refine e.store q nd (λa h=>⟨(h1 a h).1,hb.ext.hh.free (h1 a h).2⟩) λfp e1 j a hj ha z=>?_;obtain⟨fq,eb⟩:=hb;obtain⟨c,hc⟩:=e1.bound ha;obtain⟨u1,s1,r1⟩:=e1.at_ j c hc;obtain⟨u2,s2,r2⟩:=eb.at_ j c hc;rw[s2]at s1;cases s1;have hn:=(h1 a z).2;have old:∀{x:Addr} {o o':HO},Hb x=Z o->H x=Z o'->(∀ps,o'≠.tbl ps)->o=o':=λ{x o o'} h1 h2 n=>sb.back h1 h2 n;generalize fp j=f1 at r1 ha;generalize fq j=f2 at r2;cases r1 with
 | pl _=>simp at ha
 | hd _ _ _ _=>simp at ha
 | hf _=>simp at ha
 | ol k _=>cases r2 with | ol k' _=>simp at ha; subst ha; rw[hn]at k'; cases k'
 | ok k _ _=>cases r2 with | ok k' _ _=>simp at ha; subst ha; rw[hn]at k'; cases k'
 | ot k _ _=>cases r2 with | ot k' _ _=>simp at ha; subst ha; rw[hn]at k'; cases k'
 | otl k _ v1 _ =>
  cases r2 with
  | otl k' hk' v2 r2' =>
   have eo:=old k' k λ_ z=>by cases z
   injection eo with eo
   subst eo;have v2':=v2;rw[v1]at v2;rcases ZzK.mp ha with z2 | z2
   ·subst z2; rw[hn]at k'; cases k'
   ·have:V.ref a∈ZBN V.ref _:=ZzI.mpr ⟨a,z2,rfl⟩
    rw[v2]at this;obtain⟨a',m1,m2⟩:=ZzI.mp this;injection m2 with m2
    subst m2;obtain⟨o,ho⟩:=Zag.there (Zag.otl k' hk' v2' r2') (ZzD _ m1);rw[hn]at ho; cases ho
theorem At.rebase(e:At K F0 H0 F H r σ):At K F H0 F H r σ:=by obtain⟨fp,e⟩:=e;exact⟨fp,⟨Zq.refl F,e.ext.hh,e.ext.sub,λ_ _ z=>.inl z,e.ext.tab,id⟩,e.len,e.at_,e.emp,e.own,e.nd,e.dis,e.tb,e.ext.nts e.nt⟩
theorem Ext.unbase{F1:Hp}(x:Ext F0 H0 F1 H1)(y:Ext F1 H0 F H):Ext F0 H0 F H :=
 ⟨x.ff.trans y.ff,y.hh,y.sub,λa o z=>(y.new a o z).elim (λq=>x.new a o q) .inr,y.tab,λt=>y.nts (x.nts t)⟩
theorem At.unbase{F1 H1:Hp}(x:Ext F0 H0 F1 H1)(n:NoT F0)(e:At K F1 H0 F H r σ):At K F0 H0 F H r σ:=by obtain⟨fp,e⟩:=e;exact⟨fp,x.unbase e.ext,e.len,e.at_,e.emp,e.own,e.nd,e.dis,e.tb,n⟩
theorem Zbi.freeze{fp:Nat->List Addr}(e:Zbi K F0 H0 F H r σ fp)(i:Nat){b:HM.B}{d:PyData}(hb:r[i]?=Z (Z b))(h1:σ[i]?=Z (Z (.ref a)))(hfp:fp i=[a])(ha:H a=Z ob)(hr:Zq F (upd F a ob)->Rep K (upd F a ob) d (.ref a))(no:HP.nt ob=ZEN:=by rfl) :
  ∃F',Ext F0 H0 F' H/\Zq F F'/\At K F0 H0 F' H (r.set i (Z (.pl d))) σ:=by
 have hF:F a=Z_:=(e.own i a (by rw[hfp]; simp)).1;have s:Zq F (upd F a ob):=Zq.upd' hF;have x:Ext F0 H0 (upd F a ob) H:=by
  refine⟨e.ext.ff.trans s,e.ext.hh,λc o z=>?_,λc o z=>?_,e.ext.tab,λt=>(e.ext.nts t).upd no⟩
  ·by_cases hc:c=a
   ·subst hc; rw[Zy]at z; cases z; exact ha
   ·rw[Zx hc]at z; exact e.sub c o z
  ·by_cases hc:c=a
   ·subst hc; exact .inr (.inl (e.own i c (by rw[hfp]; simp)).2)
   ·rw[Zx hc]at z; exact e.ext.new c o z
 refine⟨_,x,s,?_⟩;have e1:Zbi K F0 H0 (upd F a ob) H (r.set i Z_) (σ.set i Z_) (λj=>if j=i then[]else fp j):=by
  refine⟨x,by rw[ZAL,ZAL,e.len],λj c h=>?_,λj h=>?_,λj c h=>?_,λj=>?_,λj k c hjk h=>?_,e.tb,e.nt⟩
  ·by_cases hj:j=i
   ·subst hj
    rw[ZAr (ZzL.mp hb).1]at h; cases h
   ·rw[Zz9 (ZAG hj)]at h
    obtain⟨u,q1,q2⟩:=e.at_ j c h;refine⟨u,by rw[Zz9 (ZAG hj)]; exact q1,?_⟩;rw[if_neg hj]; exact q2.mono s λ_ _ _ z=>.of z
  ·show(if j=i then[]else fp j)=[]
   by_cases hj:j=i
   ·rw[if_pos hj]
   ·rw[if_neg hj]
    exact e.emp j λc z=>h c (by rw[Zz9 (ZAG hj)]; exact z)
  ·by_cases hj:j=i
   ·rw[if_pos hj]at h; simp at h
   ·rw[if_neg hj]at h
    have hca:c≠a:=λz=>e.dis j i c hj h (by rw[hfp,z]; simp);exact⟨by rw[Zx hca]; exact(e.own j c h).1,(e.own j c h).2⟩
  ·show(if j=i then[]else fp j).Nodup
   by_cases hj:j=i
   ·rw[if_pos hj]; exact ZBc
   ·rw[if_neg hj]; exact e.nd j
  ·show ¬c∈(if k=i then[]else fp k)
   by_cases hj:j=i
   ·rw[if_pos hj]at h; simp at h
   ·rw[if_neg hj]at h
    by_cases hk:k=i
    ·rw[if_pos hk]; simp
    ·rw[if_neg hk]; exact e.dis j k c hjk h
 have rp:=hr s;have e2:=At.set (i:=i) ⟨_,e1⟩ rp;rw[ZC9,ZC9]at e2;have es:σ.set i (Z (.ref a))=σ:=by have hi:i<σ.length:=(ZzL.mp h1).1;have hq:σ[i]=Z (.ref a):=(ZzL.mp h1).2;rw[<-hq];exact ZCi hi
 rwa [es]at e2
theorem At.freeze(e:At K F0 H0 F H r σ)(i:Nat):∃F',Ext F0 H0 F' H/\Zq F F'/\At K F0 H0 F' H (HM.Zld i r) σ:=by
 unfold HM.Zld;split
 ·rename_i ds hb
  obtain⟨fp,e⟩:=e;obtain⟨v,h1,h2⟩:=e.at_ i _ hb;generalize hfp:fp i=f at h2;cases h2 with
  | @ol a _ vs ha q=>exact e.freeze i hb h1 hfp ha λs=>.lst (.of Zy) q.1 (q.mono s).2
 ·rename_i kvs hb
  obtain⟨fp,e⟩:=e;obtain⟨v,h1,h2⟩:=e.at_ i _ hb;generalize hfp:fp i=f at h2;cases h2 with
  | @ot a _ vvs ha hk q=>exact e.freeze i hb h1 hfp ha λs=>.dct (.inl Zy) rfl hk (q.mono s).2
 ·exact⟨F,e.ext,Zq.refl F,e⟩
end
inductive Now(K:Zzx)(r:HM.Env)(σ:L2.St)(H:Hp)(C:Hp->Hp->Hp->Prop):Prop
 | mk (F0 H0 F:Hp) (at_:At K F0 H0 F H r σ) (k:C F0 H0 F):Now K r σ H C
end HP
namespace HP
open PySem PySem.Spec PyProof.Rows L2
variable{X:Cx}{f:HM.AF}{r:HM.Env}{F:Hp}{i:Int}{es rest:List Expr}{j:Nat}{g:PyData->PyData->Option PyData}{K:Zzx}{x:Str}
variable[FX]
def tAt(K:Zzx)(r:HM.Env)(P:Hp->Hp->Hp->V->Prop):TE:=λσ H Q=>Now K r σ H λF0 H0 F=>∀v F' H',Ext F H F' H'->P H F' H' v->Q v H'
def XE(X:Cx)(e:Expr)(f:HM.EF):Prop:=∀r d,f r=Z d->PE X e (tAt X.K r λ_ F' _ v=>Rep X.K F' d v)
def XB(X:Cx)(e:Expr)(f:HM.BF):Prop:=∀r b,f r=Z b->PE X e (tAt X.K r λ_ F' H' v=>∃fp,Zag X.K F' H' b v fp)
def XF(X:Cx)(e:Expr)(f:HM.BF):Prop:=∀r b,f r=Z b->PE X e (tAt X.K r λH F' H' v=>∃fp,Zag X.K F' H' b v fp/\fp.Nodup/\∀a∈fp,F' a=Z_/\H a=Z_)
def XT(X:Cx)(e:Expr)(f:HM.TF):Prop:=∀r c,f r=Z c->PT X e λσ H Q=>Now X.K r σ H λF0 H0 F=>∀F' H',Ext F H F' H'->Q c H'
def XW(X:Cx)(e:Expr)(f:HM.TF):Prop:=∀r c,f r=Z c->PW X e λσ H Q=>Now X.K r σ H λF0 H0 F=>∀F' H',Ext F H F' H'->Q c H'
structure XA(X:Cx)(es:List Expr)(f:HM.AF):Prop where
 len:∀r ds,f r=Z ds->ds.length=es.length
 pa:∀r ds,f r=Z ds->PA X es λσ H Q=>Now X.K r σ H λF0 H0 F=>∀vs F' H',Ext F H F' H'->Zs X.K F' ds vs->Q vs H'
def ItD(K:Zzx)(J:It)(ds:List PyData)(F:Hp):Prop:=∀F' H,Zq F F'->Zq F' H ->
 (∀(i:Nat) (d:PyData),ds[i]?=Z d->J.go i H/\∀x H',J.yld i H x H'->H'=H/\Rep K (ZbU F' H) d x)/\J.stop ds.length H
def XI(X:Cx)(tg e:Expr)(f:HM.IF):Prop:=∀r ds,f r=Z ds->PI X tg e λσ H R=>Now X.K r σ H λF0 H0 F=>∀J F' H',Ext F H F' H'->ItD X.K J ds F'->R J H'
def ZyO(K:Zzx)(F0 H0:Hp)(o:HM.Out)(E:Ends):Prop:=match o with
 | .nx r=>∀σ F H,At K F0 H0 F H r σ->E.nx σ H
 | .rt d=>∀v F H,Ext F0 H0 F H->Rep K F d v->E.rt v H
 | .bk r=>∀σ F H,At K F0 H0 F H r σ->E.bk σ H
 | .ct r=>∀σ F H,At K F0 H0 F H r σ->E.ct σ H
def tSt(K:Zzx)(r:HM.Env)(o:HM.Out):TS:=λE σ H=>Now K r σ H λF0 H0 F=>ZyO K F0 H0 o E
def XS(X:Cx)(st:Stmt)(g:HM.SF):Prop:=∀r o,g r=Z o->PS X st (tSt X.K r o)
def XSs(X:Cx)(sts:List Stmt)(g:HM.SF):Prop:=∀r o,g r=Z o->PSs X sts (tSt X.K r o)
theorem PE.imp{e:Expr}{t u:TE}(h:PE X e t)(hi:∀σ H Q,u σ H Q->t σ H Q):PE X e u:=λpins s σ H Q I q=>h pins s σ H Q I (hi σ H Q q)
theorem PT.imp{e:Expr}{t u:TT}(h:PT X e t)(hi:∀σ H Q,u σ H Q->t σ H Q):PT X e u:=λpins s σ H Q I q=>h pins s σ H Q I (hi σ H Q q)
theorem PW.imp{e:Expr}{t u:TT}(h:PW X e t)(hi:∀σ H Q,u σ H Q->t σ H Q):PW X e u:=λwh pins s σ H Q I q=>h wh pins s σ H Q I (hi σ H Q q)
theorem PA.imp{t u:TA}(h:PA X es t)(hi:∀σ H Q,u σ H Q->t σ H Q):PA X es u:=λp pins s σ H Q I q=>h p pins s σ H Q I (hi σ H Q q)
theorem PS.imp{st:Stmt}{t u:TS}(h:PS X st t)(hi:∀E σ H,u E σ H->t E σ H):PS X st u:=λpins s σ H E I q=>h pins s σ H E I (hi E σ H q)
theorem PSs.imp{sts:List Stmt}{t u:TS}(h:PSs X sts t)(hi:∀E σ H,u E σ H->t E σ H):PSs X sts u:=λpins s σ H E I q=>h pins s σ H E I (hi E σ H q)
section
variable{X:Cx}{a b c e:Expr}{fa fb fc:HM.EF}{pos p:Pos}
theorem Ztm{i:Nat}{d:PyData}(h:HM.Zc i r=Z d):r[i]?=Z (Z (.pl d)):=by
 unfold HM.Zc at h;split at h
 ·rename_i q; cases h; exact q
 ·cases h
theorem ZtO{i:Nat}{d:HM.B}(h:HM.Zn i r=Z d):r[i]?=Z (Z d):=by
 unfold HM.Zn at h;split at h
 ·rename_i q; cases h; exact q
 ·cases h
theorem Zd(i:Nat){pos:Pos}(hN:X.N[i]?=Z x:=by rfl)(hv:Vis X.env.scope x:=by first | exact ZAt rfl | exact Zz8 (ZAt rfl) | exact Zz8 (Zz8 rfl))(hd:(x==("__debug__":Str))=ZEO:=by decide)
  (hcd:(x==("__classdict__":Str))=ZEO:=by decide):XE X (.Name x pos) (HM.Zc i):=by
 intro r d h;refine PE.imp (ZbQ hN hv hd hcd) λσ H Q ⟨F0,H0,F,at_,k⟩=>?_;obtain⟨v,h1,h2⟩:=at_.plain (Ztm h);exact⟨v,h1,k v F H at_.refl h2⟩
theorem Zr(i:Nat){pos:Pos}(hN:X.N[i]?=Z x:=by rfl)(hv:Vis X.env.scope x:=by first | exact ZAt rfl | exact Zz8 (ZAt rfl) | exact Zz8 (Zz8 rfl))(hd:(x==("__debug__":Str))=ZEO:=by decide)
  (hcd:(x==("__classdict__":Str))=ZEO:=by decide):XB X (.Name x pos) (HM.Zn i):=by
 intro r d h;refine PE.imp (ZbQ hN hv hd hcd) λσ H Q ⟨F0,H0,F,at_,k⟩=>?_;obtain⟨v,fp,h1,h2⟩:=at_.any (ZtO h);exact⟨v,h1,k v F H at_.refl ⟨fp,h2⟩⟩
theorem ZdM{v:V}{d:PyData}(h:PE X e (tC v))(r:∀F,Rep X.K F d v):XE X e (HM.eC d):=by intro r' d' h';cases h';exact PE.imp h λσ H Q ⟨F0,H0,F,at_,k⟩=>k v F H at_.refl (r F)
theorem Zi:XE X (.Constant (.int i) j pos) (HM.eC (.int i)):=ZdM Zsd λ_=>.int i
theorem Zbt{q:Bool}:XE X (.Constant (.bool q) j pos) (HM.eC (.bool q)):=ZdM Zyd λ_=>.bl q
theorem ZeE:XE X (.Constant .none j pos) (HM.eC .none):=ZdM ZrW λ_=>.non
theorem Zfc:XE X (.Constant (.str x) j pos) (HM.eC (.str x)):=ZdM Zwn λ_=>.str x
theorem ZfW(hm:∃t,X.mg x=Z (.int i t))(hg:Gl X x:=by rfl)(hd:(x==("__debug__":Str))=ZEO:=by decide):XE X (.Name x pos) (HM.eC (.int i)):=by obtain⟨t,hm⟩:=hm;exact ZdM (Zju hg hm (v:=.int i) ⟨t,rfl⟩ hd) λ_=>.int i
theorem ZvT{p':Pos}:XE X (.UnaryOp .USub (.Constant (.int i) j p') pos) (HM.eC (.int (-i))):=by intro r d h;cases h;intro pins s σ H Q I q;obtain⟨F0,H0,F,at_,k⟩:=q;refine UnaryOp_ (thn (Zsd pins s σ H (λv H'=>v=.int i/\H'=H) I ⟨rfl,rfl⟩) λu s1 ⟨x,H1,I1,r1,e1,e2⟩=>?_);subst e1 e2;obtain⟨t,rfl⟩:=r1;exact neg_int ⟨.int (-i),H1,I1.tok _,⟨_,rfl⟩,k _ F H1 at_.refl (.int _)⟩
theorem ZaB(h:XE X e fa):XB X e (HM.bOf fa):=by intro r b hb;obtain⟨d,h1,h2⟩:=Zzy.mp hb;subst h2;exact PE.imp (h r d h1) λσ H Q ⟨F0,H0,F,at_,k⟩=>⟨F0,H0,F,at_,λv F' H' x q=>k v F' H' x ⟨[],.pl q⟩⟩
theorem ZaF{f:HM.BF}(h:XF X e f):XB X e f:=λr b hb=>PE.imp (h r b hb) λσ H Q ⟨F0,H0,F,at_,k⟩=>⟨F0,H0,F,at_,λv F' H' x ⟨fp,q,_⟩=>k v F' H' x ⟨fp,q⟩⟩
theorem Zcm{f:HM.BF}(h:XF X e f):XE X e (HM.eOf f):=by
 intro r d hd;unfold HM.eOf at hd;obtain⟨b,h1,h2⟩:=ZCO.mp hd;refine PE.imp (h r b h1) λσ H Q ⟨F0,H0,F,at_,k⟩=>⟨F0,H0,F,at_,λv F' H' x ⟨fp,q,_,hn⟩=>?_⟩;cases q with
 | pl q=>cases h2;exact k v F' H' x q
 | @ol l ds vs hl q =>
  cases h2;have hF:F' l=Z_:=(hn l (by simp)).1;have s:Zq F' (upd F' l (.lst vs)):=Zq.upd' hF;refine k _ (upd F' l (.lst vs)) H' ⟨x.ff.trans s,x.hh,λc o z=>?_,λc o z=>?_,x.tab,λt=>(x.nts t).upd rfl⟩ (.lst (.of Zy) q.1 (q.mono s).2)
  ·by_cases hc:c=l
   ·subst hc; rw[Zy]at z; cases z; exact hl
   ·rw[Zx hc]at z; exact x.sub c o z
  ·by_cases hc:c=l
   ·subst hc; exact .inr (.inl (hn c (by simp)).2)
   ·rw[Zx hc]at z; exact x.new c o z
 | @ot l kvs vvs hl hk q =>
  cases h2;have hF:F' l=Z_:=(hn l (by simp)).1;have s:Zq F' (upd F' l (.dT vvs)):=Zq.upd' hF;refine k _ (upd F' l (.dT vvs)) H' ⟨x.ff.trans s,x.hh,λc o z=>?_,λc o z=>?_,x.tab,λt=>(x.nts t).upd rfl⟩ (.dct (.inl Zy) rfl hk (q.mono s).2)
  ·by_cases hc:c=l
   ·subst hc; rw[Zy]at z; cases z; exact hl
   ·rw[Zx hc]at z; exact x.sub c o z
  ·by_cases hc:c=l
   ·subst hc; exact .inr (.inl (hn c (by simp)).2)
   ·rw[Zx hc]at z; exact x.new c o z
 | ok _ _ _=>cases h2
 | hd h3 h4 h5 h6=>cases h2; exact k _ F' H' x (.dct (.inr ⟨_,h3⟩) h4 h5 h6.2)
 | hf h3=>cases h2; exact k _ F' H' x (.fn h3)
 | otl _ _ _ _=>cases h2
def Bin(K:Zzx)(r:R2)(g:PyData->PyData->Option PyData):Prop:=∀(F H:Hp) (x y z:PyData) (v w:V) (Q:VK),Zq F H->g x y=Z z->Rep K F x v->Rep K F y w->(∀u,Rep K F z u->Q u H)->r v w H Q
structure Zn7(X:Cx)(op:Operator)(g:PyData->PyData->Option PyData):Prop where
 ex:∃r,OpR X (ZBL op) r/\Bin X.K r g
structure Zfy(X:Cx)(op:CmpOp)(g:PyData->PyData->Option PyData):Prop where
 ex:∃r,OpR X (ZAU op) r/\Bin X.K r g
 n1:op≠.In
 n2:op≠.NotIn
theorem ZhA{d:PyData}(h:HM.op2 g fa fb r=Z d):∃x y,fa r=Z x/\fb r=Z y/\g x y=Z d:=by
 unfold HM.op2 at h;split at h
 ·split at h
  ·exact⟨_,_,by assumption,by assumption,h⟩
  ·cases h
 ·cases h
theorem two{x y:PyData}{P:Hp->Hp->Hp->V->Prop}{σ:L2.St}{H:Hp}{Q:VK}{R:V->V->Hp->VK->Prop}(h:tAt K r P σ H Q)
  (hk:∀H F2 H2 v w,Zq F2 H2->Rep K F2 x v->Rep K F2 y w->(∀u F3 H3,Ext F2 H2 F3 H3->P H F3 H3 u->Q u H3)->Zax H H2->R v w H2 Q) :
  tOp R (tAt K r λ_ F' _ v=>Rep K F' x v) (tAt K r λ_ F' _ v=>Rep K F' y v) σ H Q:=by
 obtain⟨F0,H0,F,at_,k⟩:=h;refine⟨F0,H0,F,at_,λv F1 H1 x1 r1=>⟨F0,H0,F1,at_.grow x1,λw F2 H2 x2 r2=>?_⟩⟩;exact hk H F2 H2 v w x2.sub (r1.mono x2.ff) r2 (λu F3 H3 x3 q=>k u F3 H3 ((x1.trans x2).trans x3) q) (x1.hh.trans x2.hh)
theorem ZI{op:Operator}(o:Zn7 X op g)(ha:XE X a fa)(hb:XE X b fb):XE X (.BinOp a op b pos) (HM.op2 g fa fb):=by intro r d h;obtain⟨x,y,h1,h2,h3⟩:=ZhA h;obtain⟨R,o1,o2⟩:=o.ex;refine PE.imp (ZjB o1 (ha r x h1) (hb r y h2)) λσ H Q q=>?_;exact two q λ_ F2 H2 v w s r1 r2 k _=>o2 F2 H2 x y d v w Q s h3 r1 r2 λu ru=>k u F2 H2 (.refl s) ru
theorem ZkM{op:CmpOp}(o:Zfy X op g)(ha:XE X a fa)(hb:XE X b fb):XE X (.Compare a [op] [b] pos) (HM.op2 g fa fb):=by intro r d h;obtain⟨x,y,h1,h2,h3⟩:=ZhA h;obtain⟨R,o1,o2⟩:=o.ex;refine PE.imp (Zqn o1 (ha r x h1) (hb r y h2) (ZkE _ o.n1 o.n2)) λσ H Q q=>?_;exact two q λ_ F2 H2 v w s r1 r2 k _=>o2 F2 H2 x y d v w Q s h3 r1 r2 λu ru=>k u F2 H2 (.refl s) ru
theorem Zk4{c:Bool}(h:HM.tV fa r=Z c):fa r=Z (.bool c):=by
 unfold HM.tV at h;split at h
 ·rename_i q; cases h; exact q
 ·cases h
theorem Rep.bool_inv{c:Bool}{v:V}(h:Rep K F (.bool c) v):v=.bl c:=by cases h; rfl
theorem Rep.int_inv{v:V}(h:Rep K F (.int i) v):v=.int i:=by cases h; rfl
theorem Rep.none_inv{v:V}(h:Rep K F .none v):v=.non:=by cases h; rfl
theorem ZaC{op:CmpOp}(o:Zfy X op g)(ha:XE X a fa)(hb:XE X b fb):XT X (.Compare a [op] [b] pos) (HM.tV (HM.op2 g fa fb)):=by intro r d h;obtain⟨x,y,h1,h2,h3⟩:=ZhA (Zk4 h);obtain⟨R,o1,o2⟩:=o.ex;refine PT.imp (ZuY o1 (ha r x h1) (hb r y h2) (ZkE _ o.n1 o.n2)) λσ H Q ⟨F0,H0,F,at_,k⟩=>?_;refine⟨F0,H0,F,at_,λv F1 H1 x1 r1=>⟨F0,H0,F1,at_.grow x1,λw F2 H2 x2 r2=>?_⟩⟩;refine o2 F2 H2 x y _ v w _ x2.sub h3 (r1.mono x2.ff) r2 λu ru=>?_;exact⟨d,ru.bool_inv,k F2 H2 (x1.trans x2)⟩
theorem Zbq(h:XE X e fa)(he:∀whole,isTrue e X.env whole=(do let v <-whole; standAt e.pos; holding [v] (truthy v)):=by intro _; rfl):XT X e (HM.tV fa):=by intro r c hc;refine PT.imp (Zwb (h r _ (Zk4 hc)) he) λσ H Q ⟨F0,H0,F,at_,k⟩=>?_;exact⟨F0,H0,F,at_,λv F1 H1 x1 r1=>⟨c,r1.bool_inv,k F1 H1 x1⟩⟩
theorem ZbZ{t:HM.TF}(h:XT X a t):XT X (.UnaryOp .Not a pos) (HM.ZcZ t):=by intro r c hc;obtain⟨d,h1,h2⟩:=Zzy.mp hc;subst h2;refine PT.imp (Zwz (h r d h1)) λσ H Q ⟨F0,H0,F,at_,k⟩=>?_;exact⟨F0,H0,F,at_,λF1 H1 x1=>k F1 H1 x1⟩
theorem Zm6{t:HM.TF}(h:XW X e t):XT X e t:=λr c hc=>(h r c hc).pt
theorem Zix{t:HM.TF}(h:XT X a t):XW X (.BoolOp .Or [a] pos) t:=λr c hc=>ZwC (h r c hc)
theorem ZtI{e:Expr}:PW X e λ_ _ _=>False:=λ_ _ _ _ _ _ _ h=>h.elim
theorem Zh6{e:Expr}:PE X e λ_ _ _=>False:=λ_ _ _ _ _ _ h=>h.elim
theorem ZkN{t u:HM.TF}(ha:XT X a t)(hb:XW X (.BoolOp .Or (b::rest) pos) u):XW X (.BoolOp .Or (a::b::rest) pos) (HM.tOr t u):=by
 intro r c hc;unfold HM.tOr at hc;split at hc
 ·rename_i q
  cases hc;refine PW.imp (Zuy (ha r ZEN q) ZtI) λσ H Q ⟨F0,H0,F,at_,k⟩=>?_;exact⟨F0,H0,F,at_,λF1 H1 x1=>ZlF (k F1 H1 x1)⟩
 ·rename_i q
  refine PW.imp (Zuy (ha r ZEO q) (hb r c hc)) λσ H Q ⟨F0,H0,F,at_,k⟩=>?_;exact⟨F0,H0,F,at_,λF1 H1 x1=>ZlZ ⟨F0,H0,F1,at_.grow x1,λF2 H2 x2=>k F2 H2 (x1.trans x2)⟩⟩
 ·cases hc
theorem Zfd{op:BoolOp}(h:XE X a fa):XE X (.BoolOp op [a] pos) fa:=λr d hd=>ZwR (h r d hd)
theorem Zfe(ha:XE X a fa)(hb:XE X (.BoolOp .And (b::rest) pos) fb):XE X (.BoolOp .And (a::b::rest) pos) (HM.Zha fa fb):=by
 intro r d hd;unfold HM.Zha at hd;split at hd
 ·rename_i q
  refine PE.imp (Zsc (ha r _ q) (hb r d hd)) λσ H Q ⟨F0,H0,F,at_,k⟩=>?_;exact⟨F0,H0,F,at_,λv F1 H1 x1 r1=>⟨ZEN,r1.bool_inv,ZlF ⟨F0,H0,F1,at_.grow x1,λw F2 H2 x2 r2=>k w F2 H2 (x1.trans x2) r2⟩⟩⟩
 ·rename_i q
  cases hd;refine PE.imp (Zsc (ha r _ q) Zh6) λσ H Q ⟨F0,H0,F,at_,k⟩=>?_;exact⟨F0,H0,F,at_,λv F1 H1 x1 r1=>⟨ZEO,r1.bool_inv,ZlZ (k _ F1 H1 x1 (.bl ZEO))⟩⟩
 ·cases hd
theorem Zur{t:HM.TF}(hc:XT X c t)(ha:XE X a fa)(hb:XE X b fb):XE X (.IfExp c a b pos) (HM.eIf t fa fb):=by
 intro r d hd;unfold HM.eIf at hd;split at hd
 ·rename_i q
  refine PE.imp (Zor (hc r _ q) (ha r d hd) Zh6) λσ H Q ⟨F0,H0,F,at_,k⟩=>?_;exact⟨F0,H0,F,at_,λF1 H1 x1=>ZlF ⟨F0,H0,F1,at_.grow x1,λw F2 H2 x2 r2=>k w F2 H2 (x1.trans x2) r2⟩⟩
 ·rename_i q
  refine PE.imp (Zor (hc r _ q) Zh6 (hb r d hd)) λσ H Q ⟨F0,H0,F,at_,k⟩=>?_;exact⟨F0,H0,F,at_,λF1 H1 x1=>ZlZ ⟨F0,H0,F1,at_.grow x1,λw F2 H2 x2 r2=>k w F2 H2 (x1.trans x2) r2⟩⟩
 ·cases hd
theorem Zm7{op op':CmpOp}{g':PyData->PyData->Option PyData}(o:Zfy X op g)(o':Zfy X op' g')(ha:XE X a fa)(hb:XE X b fb)(hc:XE X c fc)
  (hm:lastMarks [op,op'] [b,c]=ZEO:=by with_unfolding_all rfl):XE X (.Compare a [op,op'] [b,c] pos) (HM.Zlh g g' fa fb fc):=by
 intro r d hd;unfold HM.Zlh at hd;obtain⟨R,o1,o2⟩:=o.ex;obtain⟨R',o1',o2'⟩:=o'.ex;split at hd
 ·rename_i x hx
  split at hd
  ·rename_i y hy
   split at hd
   ·rename_i hg
    split at hd
    ·rename_i z hz
     refine PE.imp (ZoJ o1 o1' (ha r x hx) (hb r y hy) (hc r z hz) hm) λσ H Q ⟨F0,H0,F,at_,k⟩=>?_;refine⟨F0,H0,F,at_,λv F1 H1 x1 r1=>⟨F0,H0,F1,at_.grow x1,λw F2 H2 x2 r2=>?_⟩⟩;refine o2 F2 H2 x y _ v w _ x2.sub hg (r1.mono x2.ff) r2 λu ru=>?_;refine⟨ZEN,ru.bool_inv,ZlF ⟨F0,H0,F2,(at_.grow x1).grow x2,λw' F3 H3 x3 r3=>?_⟩⟩;exact o2' F3 H3 y z d w w' Q x3.sub hd (r2.mono x3.ff) r3 λu' ru'=>k u' F3 H3 ((x1.trans x2).trans x3) ru'
    ·cases hd
   ·rename_i hg
    cases hd;refine PE.imp (ZoJ o1 o1' (ha r x hx) (hb r y hy) Zh6 hm) λσ H Q ⟨F0,H0,F,at_,k⟩=>?_;refine⟨F0,H0,F,at_,λv F1 H1 x1 r1=>⟨F0,H0,F1,at_.grow x1,λw F2 H2 x2 r2=>?_⟩⟩;refine o2 F2 H2 x y _ v w _ x2.sub hg (r1.mono x2.ff) r2 λu ru=>?_;exact⟨ZEO,ru.bool_inv,ZlZ (k _ F2 H2 (x1.trans x2) (.bl ZEO))⟩
   ·cases hd
  ·cases hd
 ·cases hd
theorem Zf:XA X [] HM.Ze:=by refine⟨λr ds h=>by cases h; rfl,λr ds h=>?_⟩;cases h;exact PA.imp ZbJ λσ H Q ⟨F0,H0,F,at_,k⟩=>k [] F H at_.refl .nil
theorem Zb(ha:XE X e fa)(hr:XA X es f)(hs:ZzC (e::es) X.env=(ZEO,eval e X.env)::ZzC es X.env:=by rfl):XA X (e::es) (HM.Za fa f):=by
 refine⟨λr ds h=>?_,λr ds h=>?_⟩
 ·unfold HM.Za at h
  split at h
  ·obtain⟨xs,h1,h2⟩:=Zzy.mp h
   subst h2;rw[ZzS,ZzS,hr.len r xs h1]
  ·cases h
 unfold HM.Za at h;split at h
 ·rename_i x hx
  obtain⟨xs,h1,h2⟩:=Zzy.mp h;subst h2;refine PA.imp (Zaa (ha r x hx) (hr.pa r xs h1) hs) λσ H Q ⟨F0,H0,F,at_,k⟩=>?_;exact⟨F0,H0,F,at_,λv F1 H1 x1 r1=>⟨F0,H0,F1,at_.grow x1,λvs F2 H2 x2 r2=>k (v::vs) F2 H2 (x1.trans x2) (.cons (r1.mono x2.ff) r2)⟩⟩
 ·cases h
theorem ZJ{x1:Nat}(h:XA X es f)(hl:es.length<=100:=by exact Nat.le_of_ble_eq_true rfl):XE X (.Tuple es x1 pos) (HM.ZC f):=by
 intro r d hd;obtain⟨ds,h1,h2⟩:=Zzy.mp hd;subst h2;refine PE.imp (ZwD (h.pa r ds h1)) λσ H Q ⟨F0,H0,F,at_,k⟩=>⟨F0,H0,F,at_,λvs F1 H1 x1 r1=>⟨?_,λp hp=>?_⟩⟩
 ·have e1:=h.len r ds h1
  have e2:=r1.1;have e3:(100:Nat)<=sizeLine:=by decide
  omega
 ·have hF:F1 p=Z_:=x1.sub.free hp
  exact k _ (upd F1 p (.tup vs)) _ (x1.lay hp) (.tup Zy r1.1 (r1.mono (Zq.upd' hF)).2)
theorem Zba(h:XA X es f)(hl:es.length<=100:=by exact Nat.le_of_ble_eq_true rfl):XF X (.List es pos) (HM.ZbV f):=by
 intro r d hd;obtain⟨ds,h1,h2⟩:=Zzy.mp hd;subst h2;refine PE.imp (Zsf (h.pa r ds h1)) λσ H Q ⟨F0,H0,F,at_,k⟩=>⟨F0,H0,F,at_,λvs F1 H1 x1 r1=>⟨?_,λp hp=>?_⟩⟩
 ·have e1:=h.len r ds h1
  have e2:=r1.1;have e3:(100:Nat)<=sizeLine:=by decide
  omega
 ·have hF:F1 p=Z_:=x1.sub.free hp
  refine k _ F1 _ (x1.lay' hp) ⟨[p],.ol Zy r1,by simp,λa ha=>?_⟩;have:a=p:=by simpa using ha
  subst this;exact⟨hF,x1.hh.free hp⟩
end
end HP
namespace HP
open PySem PySem.Spec PyProof.Rows L2
variable{f:Addr}{fd:FuncData}{g:HM.SF}{base:Heap}{N ps:List Str}{p':Pos}{P:Program}{K:Zzx}{st:Stmt}{qual x:Str}{mg:Str->Option Value}{w:World}
variable[FX]
section
variable{X:Cx}{a b c e:Expr}{fa fb fc:HM.EF}{pos p:Pos}{st:Stmt}{rest:List Stmt}{g u:HM.SF}
theorem Zmh(h:X.xe=λ_ _=>False):PassesOwn (model X.prog X.w) X.A X.env X.xe:=by rw[h]; exact PassesOwn.never
theorem Zal:XSs X [] HM.ZaY:=by intro r o h;cases h;exact PSs.imp Zvc λE σ H ⟨F0,H0,F,at_,k⟩=>k σ F H at_
theorem Zo(h:XS X st g):XSs X [st] g:=λr o ho=>ZlY (h r o ho)
theorem Zl(h1:XS X st g)(h2:XSs X rest u):XSs X (st::rest) (HM.Zu g u):=by
  intro r o h
  unfold HM.Zu at h
  split at h
  · rename_i r' q
    refine PSs.imp (ZdS (h1 r _ q) (h2 r' o h)) λE σ H ⟨F0,H0,F,at_,k⟩=>?_
    exact⟨F0,H0,F,at_,λσ' F' H' at'=>⟨F0,H0,F',at',k⟩⟩
  all_goals first
    | cases h
      rename_i q
      refine PSs.imp (ZdS (h1 r _ q) ZcF) λE σ H ⟨F0,H0,F,at_,k⟩=>?_
      exact⟨F0,H0,F,at_,k⟩
    | cases h
theorem ZhB:XS X st HM.Zi6:=λr o h=>nomatch h
theorem Zz(h:XE X e fa):XS X (.Return (Z e) pos) (HM.ZB fa):=by intro r o ho;obtain⟨d,h1,h2⟩:=Zzy.mp ho;subst h2;refine PS.imp (ZiS (h r d h1)) λE σ H ⟨F0,H0,F,at_,k⟩=>?_;exact⟨F0,H0,F,at_,λv F' H' x q=>k v F' H' (at_.ext.trans x) q⟩
theorem ZfX(h:XE X e fa)(hs:ZBG e Z_ pos.line X.env=pure ZEO:=by rfl):XS X (.Expr e pos) (HM.ZhX fa):=by intro r o ho;obtain⟨d,h1,h2⟩:=Zzy.mp ho;subst h2;refine PS.imp (Zhu (h r d h1) hs) λE σ H ⟨F0,H0,F,at_,k⟩=>?_;exact⟨F0,H0,F,at_,λv F' H' x q=>k σ F' H' (at_.grow x)⟩
theorem Za7{t:HM.TF}{sa sb:List Stmt}(hc:XT X c t)(ha:XSs X sa g)(hb:XSs X sb u):XS X (.If c sa sb pos) (HM.sIf t g u):=by
 intro r o ho;unfold HM.sIf at ho;split at ho
 ·rename_i q
  refine PS.imp (Zm3 (hc r _ q) (ha r o ho) ZcF) λE σ H ⟨F0,H0,F,at_,k⟩=>?_;exact⟨F0,H0,F,at_,λF' H' x=>ZlF ⟨F0,H0,F',at_.grow x,k⟩⟩
 ·rename_i q
  refine PS.imp (Zm3 (hc r _ q) ZcF (hb r o ho)) λE σ H ⟨F0,H0,F,at_,k⟩=>?_;exact⟨F0,H0,F,at_,λF' H' x=>ZlZ ⟨F0,H0,F',at_.grow x,k⟩⟩
 ·cases ho
theorem Zff(i:Nat)(h:XS X st g):XS X st (HM.Zhb i g):=by intro r o ho;refine PS.imp (h (HM.Zld i r) o ho) λE σ H ⟨F0,H0,F,at_,k⟩=>?_;obtain⟨F',_,_,a'⟩:=at_.freeze i;exact⟨F0,H0,F',a',k⟩
theorem Z5(i:Nat)(hN:X.N.Nodup)(h:XE X e fa)(hi:X.N[i]?=Z x:=by rfl)(hx:Loc X.env.scope x:=by first | exact ZAt rfl | exact Zz8 rfl)
  (hs:ZBG e (Z (.Name x p')) pos.line X.env=pure ZEO:=by rfl) (hf:X.fn x=ZEN\/X.env.scope.names.lookup x=Z .local:=by first | exact .inl rfl | exact .inr rfl) :
  XS X (.Assign [.Name x p'] e pos) (HM.Zae i fa):=by
 intro r o ho;obtain⟨d,h1,h2⟩:=Zzy.mp ho;subst h2;refine PS.imp (ZnW hN hi hx (h r d h1) hs hf) λE σ H ⟨F0,H0,F,at_,k⟩=>?_;exact⟨F0,H0,F,at_,λv F' H' x q=>k _ F' H' ((at_.grow x).set q)⟩
theorem Zay(i:Nat){f:HM.BF}(hN:X.N.Nodup)(h:XF X e f)(hi:X.N[i]?=Z x:=by rfl)(hx:Loc X.env.scope x:=by first | exact ZAt rfl | exact Zz8 rfl)
  (hs:ZBG e (Z (.Name x p')) pos.line X.env=pure ZEO:=by rfl) (hf:X.fn x=ZEN\/X.env.scope.names.lookup x=Z .local:=by first | exact .inl rfl | exact .inr rfl) :
  XS X (.Assign [.Name x p'] e pos) (HM.ZU i f):=by
 intro r o ho;obtain⟨d,h1,h2⟩:=Zzy.mp ho;subst h2;refine PS.imp (ZnW hN hi hx (h r d h1) hs hf) λE σ H ⟨F0,H0,F,at_,k⟩=>?_;exact⟨F0,H0,F,at_,λv F' H' x ⟨fp,q,nd,hn⟩=>k _ F' H' ((at_.grow x).storeNew at_ x.hh q nd hn)⟩
theorem Zcq(i:Nat){iter:Expr}{body:List Stmt}{fi:HM.IF}(hN:X.N.Nodup)(hxe:X.xe=λ_ _=>False)(hc:X.calm=ZEN)(hi:XI X (.Name x p') iter fi)(hb:XSs X body g)(hix:X.N[i]?=Z x:=by rfl)
  (hx:Loc X.env.scope x:=by first | exact ZAt rfl | exact Zz8 rfl) (hf:X.fn x=ZEN\/X.env.scope.names.lookup x=Z .local:=by first | exact .inl rfl | exact .inr rfl)
  (hs:∀x,ZBd iter X.env x=pure x:=by intro _; rfl):XS X (.For (.Name x p') iter body [] pos) (HM.Zbx i fi g):=by
 intro r o ho;unfold HM.Zbx at ho;split at ho
 ·rename_i ds hds
  split at ho
  ·rename_i hbig
   have pb:PSs X body (λE σ H=>∃r o,g r=Z o/\tSt X.K r o E σ H):=λpins s σ H E I ⟨r,o,h1,h2⟩=>hb r o h1 pins s σ H E I h2;refine PS.imp (Zxd (Zmh hxe) hc (hi r ds hds) (Zjx hN hix hx hf) pb hs) λE σ H ⟨F0,H0,F,at_,k⟩=>?_;refine⟨F0,H0,F,at_,λJ F1 H1 x1 it=>?_⟩;refine⟨λn m σ H=>∃F r,At X.K F0 H0 F H r σ/\Zq F1 F/\n+m=ds.length/\HM.ZaG i g (ds.drop n) r=Z o,⟨ds.length,F1,r,at_.grow x1,Zq.refl _,by omega,ho⟩,?_⟩
   rintro n m σ H ⟨F2,r2,at2,s2,hn,go⟩
   obtain⟨it1,it2⟩:=it F2 H s2 at2.sub;cases m with
   | zero =>
    have e:n=ds.length:=by omega
    subst e;rw[List.drop_length]at go;cases go;exact .inl ⟨it2,k σ F2 H at2⟩
   | succ m =>
    have hlt:n<ds.length:=by omega
    rw[ZDK hlt]at go;obtain⟨j1,j2⟩:=it1 n ds[n] (ZzT hlt);refine .inr ⟨j1,λσ' H'=>∃F r,At X.K F0 H0 F H' r σ'/\Zq F1 F/\HM.ZaG i g (ds.drop (n+1)) r=Z o,λσ' H' ⟨F,r,a1,a2,a3⟩=>⟨m,by omega,F,r,a1,a2,by omega,a3⟩,λy H' hy=>?_⟩;obtain⟨e1,ry⟩:=j2 y H' hy;subst e1;obtain⟨F3,at3,s3,ry⟩:∃F3,At X.K F0 H0 F3 H' r2 σ/\Zq F1 F3/\Rep X.K F3 ds[n] y:=⟨_,at2.grow at2.refl.tups,s2.trans (ZcX at2.sub),ry⟩;have a3:=at3.set (i:=i) ry;have a4:=a3.rebase;unfold HM.ZaG at go;split at go
    ·rename_i r' hr
     exact⟨_,_,hr,F3,H0,F3,a4,λσ' F' H' a'=>⟨F',r',a'.unbase at3.ext at3.nt0,s3.trans a'.ext.ff,go⟩⟩
    ·rename_i r' hr
     exact⟨_,_,hr,F3,H0,F3,a4,λσ' F' H' a'=>⟨F',r',a'.unbase at3.ext at3.nt0,s3.trans a'.ext.ff,go⟩⟩
    ·rename_i r' hr
     cases go;exact⟨_,_,hr,F3,H0,F3,a4,λσ' F' H' a'=>k σ' F' H' (a'.unbase at3.ext at3.nt0)⟩
    ·rename_i d hr
     cases go;exact⟨_,_,hr,F3,H0,F3,a4,λv F' H' x q=>k v F' H' (at3.ext.unbase x) q⟩
    ·cases go
  ·cases ho
 ·cases ho
end
def spD(K:Zzx)(n:Nat)(M:List PyData->Option PyData):Sp:=λvs H Q _=>∃F ds d,vs.length=n/\Zq F H/\Tb H/\NoT F/\Zs K F ds vs/\M ds=Z d/\∀v F' H',Ext F H F' H'->Rep K F' d v->Q v H'
structure Callee(P:Program)(w:World)(K:Zzx)(mg:Str->Option Value)(base:Heap)(k:Nat)(x:Str)(M:List PyData->Option PyData):Prop where
 ex:∃f fd ps,(∀ds d,M ds=Z d->ds.length=ps.length)/\ZcY P w K mg base CX0 k f fd ps (spD K ps.length M)/\mg x=Z (.ref f)/\ZAP K (.ref f)=ZEN/\Binds K fd ps []
theorem Callee.mono{P:Program}{w:World}{K:Zzx}{mg:Str->Option Value}{base:Heap}{j k:Nat}{x:Str}{M:List PyData->Option PyData}(C:Callee P w K mg base j x M)(h:j<=k):Callee P w K mg base k x M:=by obtain⟨f,fd,ps,l,F,r⟩:=C.ex;exact⟨f,fd,ps,l,F.mono h,r⟩
section
variable{X:Cx}{pos p:Pos}{e:Expr}{es:List Expr}{f:HM.AF}
theorem Zm{k:Nat}{M:List PyData->Option PyData}(C:Callee X.prog X.w X.K X.mg X.base k x M)(hr:Z9 k X.A)(ha:XA X (e::es) f)(hg:Gl X x:=by rfl)(hdb:(x==("__debug__":Str))=ZEO:=by decide)
  (he:ZzC (e::es) X.env=(ZEO,eval e X.env)::ZzC es X.env:=by rfl) (hpl:(backTo pos (ZzC es X.env)).any (·.1)=ZEO:=by rfl):XE X (.Call (.Name x p) (e::es) [] pos) (HM.Zk M f):=by
 intro r d hd;unfold HM.Zk at hd;split at hd
 ·rename_i ds hds
  obtain⟨fa,fd,ps,hl,F,hm,hk,hb⟩:=C.ex;refine PE.imp (Zjt (E:=E0) F hr hg hm hk hb .nil ZqU (ha.pa r ds hds) hdb he hpl) λσ H Q ⟨F0,H0,F1,at_,k⟩=>?_;refine⟨F0,H0,F1,at_,λvs F' H' x q=>?_⟩;show spD X.K ps.length M (vs++[]) H' Q E0;rw[ZAe];exact⟨F',ds,d,by rw[<-q.1]; exact hl ds d hd,x.sub,at_.tbx x,at_.ntx x,q,hd,λv F2 H2 x2 q2=>k v F2 H2 (x.trans x2) q2⟩
 ·cases hd
end
theorem ZeI{F H:Hp}{ds:List PyData}{vs:List V}(s:Zq F H)(tb:Tb H)(nt:NoT F)(q:Zs K F ds vs)(hl:ds.length<=N.length):At K F H F H (HM.Zdm N.length ds) (L2.start N vs):=by
 have hv:=q.1;refine⟨λ_=>[],.refl s,?_,λi b h=>?_,λ_ _=>rfl,λi a h=>by simp at h,λ_=>ZBc,λi j a _ h=>by simp at h,tb,nt⟩
 ·unfold HM.Zdm L2.start
  rw[ZzM,ZzM,Zzw,Zzw,Zz6,Zz6,hv]
 ·unfold HM.Zdm at h
  by_cases hi:i<ds.length
  ·rw[ZAq (by rw[Zzw]; exact hi),Zz2,ZzT hi]at h
   cases h;obtain⟨v,h1,h2⟩:=q.get (ZzT hi);refine⟨v,?_,.pl h2⟩;unfold L2.start;rw[ZAq (by rw[Zzw,<-hv]; exact hi),Zz2,h1];rfl
  ·rw[ZAk (by rw[Zzw]; omega),ZBB]at h
   split at h<;>cases h
theorem Zqh{k:Nat}(Fn:Fun K x qual st f fd)(S:Zt N ps (Zh st))
  (body:∀(cdv:Value) (A:Around) (outer:List Env) (s:Shared) (H:Hp) (E:XK),Z9 k (A.deeper (envOfC qual (Zh st) s.heap.objs.size f cdv))->XSs (Zd0 CX0 P w K mg base N qual (Zh st) f cdv A outer s H E).nox (ZaA st) g) :
  ZcY P w K mg base CX0 (k+1) f fd ps (spD K ps.length (HM.fnOf ps.length N.length g)):=by
 have hpl:ps.length<=N.length:=by have:=congrArg ZAg S.pre; rw[ZAN]at this; omega
 refine Fn.ok S (λvs H Q E h=>?_) (λcdv A outer s H vs Q E hr h=>?_)
 ·obtain⟨_,_,_,h,_⟩:=h
  exact h
 ·obtain⟨F,ds,d,hl,sub,tb,nt,q,hM,kk⟩:=h
  unfold HM.fnOf at hM;split at hM
  ·rename_i hds
   have a0:=ZeI (N:=N) sub tb nt q (by omega);split at hM
   ·rename_i r hr'
    cases hM;exact⟨_,body cdv A outer s H E hr _ _ hr',F,H,F,a0,λσ F' H' a'=>kk .non F' H' a'.ext .non⟩
   ·rename_i d' hr'
    cases hM;exact⟨_,body cdv A outer s H E hr _ _ hr',F,H,F,a0,λv F' H' x q=>kk v F' H' x q⟩
   ·cases hM
  ·cases hM
theorem Zsn{k:Nat}(Fn:Fun K x qual st f fd)(S:Zt N ps (Zh st))(hm:mg x=Z (.ref f))(hb:Binds K fd ps [])
  (body:∀(cdv:Value) (A:Around) (outer:List Env) (s:Shared) (H:Hp) (E:XK),Z9 k (A.deeper (envOfC qual (Zh st) s.heap.objs.size f cdv))->XSs (Zd0 CX0 P w K mg base N qual (Zh st) f cdv A outer s H E).nox (ZaA st) g) :
  Callee P w K mg base (k+1) x (HM.fnOf ps.length N.length g):=by
 refine⟨f,fd,ps,λds d h=>?_,Zqh Fn S body,hm,Fn.kp,hb⟩;unfold HM.fnOf at h;split at h
 ·assumption
 ·cases h
end HP
namespace HP
open PySem PySem.Spec PyProof.Rows L2
variable{q:HM.B}{F H:Hp}{ds:List PyData}{K:Zzx}
variable[FX]
section
variable{X:Cx}{a b c e:Expr}{fa fb fc:HM.EF}{pos p:Pos}
theorem Zgr{h:Int->Int->Option PyData}{x y z:PyData}(e:HM.ZfC h x y=Z z):∃i j,x=.int i/\y=.int j/\h i j=Z z:=by
 unfold HM.ZfC at e;split at e
 ·exact⟨_,_,rfl,rfl,e⟩
 ·cases e
theorem ZoQ{g:Int->Int->V}{h:Int->Int->PyData}(hr:∀F i j,Rep K F (h i j) (g i j)):Bin K (rI0 g) (HM.ZfC λi j=>Z (h i j)):=by intro F H x y z v w Q s e r1 r2 k;obtain⟨i,j,rfl,rfl,e⟩:=Zgr e;cases e;exact⟨i,j,r1.int_inv,r2.int_inv,k _ (hr F i j)⟩
theorem Zb7:Zn7 X .Add HM.ZbI:=⟨_,Zw1,ZoQ λ_ _ _=>.int _⟩
theorem Zuh:Zn7 X .Sub HM.ZlK:=⟨_,ZxB,ZoQ λ_ _ _=>.int _⟩
theorem Zfv:Zn7 X .Mult HM.Zdg:=by
 refine⟨_,Zv8,λF H x y z v w Q s e r1 r2 k=>?_⟩;obtain⟨i,j,rfl,rfl,e'⟩:=Zgr e;split at e'
 ·rename_i hs
  cases e';refine⟨i,j,r1.int_inv,r2.int_inv,?_,k _ (.int _)⟩;unfold HM.ZX at hs;rw[ZBt,ZCJ,ZCJ]at hs;unfold Zrb;omega
 ·cases e'
theorem oMod:Zn7 X .Mod HM.Zko:=by
 refine⟨_,ZwO,λF H x y z v w Q s e r1 r2 k=>?_⟩;obtain⟨i,j,rfl,rfl,e'⟩:=Zgr e;split at e'
 ·rename_i hs
  cases e';exact⟨i,j,r1.int_inv,r2.int_inv,hs,k _ (.int _)⟩
 ·cases e'
theorem cLt:Zfy X .Lt HM.gLt:=⟨⟨_,Zyc,ZoQ λ_ _ _=>.bl _⟩,by decide,by decide⟩
theorem cLe:Zfy X .LtE HM.gLe:=⟨⟨_,Zx8,ZoQ λ_ _ _=>.bl _⟩,by decide,by decide⟩
theorem cGt:Zfy X .Gt HM.gGt:=⟨⟨_,ZxK,ZoQ λ_ _ _=>.bl _⟩,by decide,by decide⟩
theorem Rep.non_iff{d:PyData}{v:V}(h:Rep K F d v):decide (v=.non)=match d with | .none=>ZEN | _=>ZEO:=by cases h<;>first | rfl | exact decide_eq_false (λz=>nomatch z)
theorem ZyE:Zfy X .Is HM.Zq4:=by
 refine⟨⟨_,Zxh,λF H x y z v w Q s e r1 r2 k=>?_⟩,by decide,by decide⟩;unfold HM.Zq4 at e;split at e
 ·refine⟨r2.none_inv,k _ ?_⟩
  rw[r1.non_iff];split at e
  ·cases e; exact .bl _
  ·rename_i hx
   cases e;cases x<;>first | exact .bl _ | exact absurd rfl hx
 ·cases e
theorem ZuE:Zfy X .IsNot HM.Zh1:=by
 refine⟨⟨_,Zvl,λF H x y z v w Q s e r1 r2 k=>?_⟩,by decide,by decide⟩;unfold HM.Zh1 at e;split at e
 ·refine⟨r2.none_inv,k _ ?_⟩
  rw[r1.non_iff];split at e
  ·cases e; exact .bl _
  ·rename_i hx
   cases e;cases x<;>first | exact .bl _ | exact absurd rfl hx
 ·cases e
theorem Zhc{h:Heap}:∀{ds:List PyData} {us:List Value},ds.length=us.length->(∀(i:Nat) d u,ds[i]?=Z d->us[i]?=Z u->∃as,Reads h u d as)->∃as,ReadsAll h us ds as
 | [],[],_,_=>⟨[],.nil⟩
 | [],_::_,hl,_=>by simp at hl
 | _::_,[],hl,_=>by simp at hl
 | d::ds,u::us,hl,k=>by obtain⟨as,h1⟩:=k 0 d u rfl rfl;obtain⟨bs,h2⟩:=Zhc (ds:=ds) (us:=us) (by simpa using hl) λi d u e1 e2=>k (i+1) d u (by simpa using e1) (by simpa using e2);exact⟨_,.cons h1 h2⟩
theorem Zp2:∀{ds:List PyData},ZCf ds=ZEN->∀{i:Nat} {d:PyData},ds[i]?=Z d->d.canLay0=ZEN
 | [],_,i,d,e=>by simp at e
 | x::ds,h,i,d,e=>by
  have h':(x.canLay0&&ZCf ds)=ZEN:=h;rw[ZzW]at h';cases i with
  | zero=>rw[ZBC]at e; cases e; exact h'.1
  | succ i=>rw[ZAf]at e; exact Zp2 h'.2 e
theorem Zo2(h:ZCf ds=ZEN){i:Nat}{d:PyData}(e:ds[i]?=Z d):d.canLay0=ZEN:=Zp2 h e
theorem Rep.reads{pins:List (Addr × Obj)}{s:Shared}{σ:L2.St}{d:PyData}{v:V}(I:Inv X pins σ H s)(sub:Zq F H)(r:Rep X.K F d v):d.canLay0=ZEN->∀u,RelV v u->∃as,Reads s.heap u d as:=by
 induction r with
 | non=>intro _ u ru; cases ru; exact⟨[],.none⟩
 | bl b=>intro _ u ru; cases ru; exact⟨[],.bool b⟩
 | int i=>intro _ u ru; obtain⟨t,rfl⟩:=ru; exact⟨[],.int i t⟩
 | str x=>intro _ u ru; obtain⟨t,rfl⟩:=ru; exact⟨[],.str x t⟩
 | dct _ _ _ _ _=>intro z; cases z
 | fn _=>intro z; cases z
 | @tupk a x h=>intro z u ru;cases ru;obtain⟨its,rv,⟨o,ho,hc,n,hd⟩,_⟩:=I.tuple (.inr h);obtain⟨u,rfl,t,rfl⟩:=rv.one;exact⟨_,.tuple ho hc hd (by simpa using ReadsAll.cons (.str x t) .nil)⟩
 | @tup a ds vs h hl _ ih =>
  intro z u ru;cases ru;obtain⟨its,rv,⟨o,ho,hc,n,hd⟩,_⟩:=I.tuple (.of (sub _ _ h));obtain⟨as,hr⟩:=Zhc (h:=s.heap) (ds:=ds) (us:=its) (hl.trans rv.length) λi d u e1 e2=>by
   have hi:i<vs.length:=by rw[<-hl]; exact(ZzL.mp e1).1
   obtain⟨u',q1,q2⟩:=rv.get (ZzT hi);rw[e2]at q1;cases q1;exact ih i d _ e1 (ZzT hi) (Zo2 z e1) u q2
  exact⟨_,.tuple ho hc hd (by simpa using hr)⟩
 | @lst a ds vs h hl _ ih =>
  intro z u ru;cases ru;obtain⟨its,rv,⟨o,n,ho,hc,_,hd⟩,_⟩:=I.list (sub.seq h);obtain⟨as,hr⟩:=Zhc (h:=s.heap) (ds:=ds) (us:=its) (hl.trans rv.length) λi d u e1 e2=>by
   have hi:i<vs.length:=by rw[<-hl]; exact(ZzL.mp e1).1
   obtain⟨u',q1,q2⟩:=rv.get (ZzT hi);rw[e2]at q1;cases q1;exact ih i d _ e1 (ZzT hi) (Zo2 z e1) u q2
  exact⟨_,.list ho hc hd (by simpa using hr)⟩
def Zy9(K:Zzx)(neg:Bool):R2:=λv w H Q=>∃F x y,Zq F H/\Rep K F x v/\Rep K F y w/\HM.Za6 x=ZEN/\HM.Za6 y=ZEN/\Q (.bl (if neg then !PyData.eqv x y else ZAV x y)) H
theorem ZfT{d:PyData}(h:HM.Za6 d=ZEN):d.canLay0=ZEN/\d.depth<=60:=by unfold HM.Za6 at h;simpa using h
theorem ZxJ{k:Nat}(hr:Z9 k X.A):OpR X (ZAU .Eq) (Zy9 X.K ZEO):=by intro pins s σ H v w u u' Q I r1 r2 ⟨F,x,y,sub,q1,q2,p1,p2,q⟩;obtain⟨a1,a2⟩:=ZfT p1;obtain⟨b1,b2⟩:=ZfT p2;obtain⟨as,h1⟩:=q1.reads I sub a1 u r1;obtain⟨bs,h2⟩:=q2.reads I sub b1 u' r2;refine ZEj X.prog X.w X.A X.xe s u u' x y as bs _ h1 h2 a1 b1 ?_ ⟨.bl _,H,I,rfl,q⟩;have:=hr.un;have:min x.depth y.depth<=60:=ZAn (Nat.min_le_left _ _) a2;omega
theorem cEq{k:Nat}(hr:Z9 k X.A):Zfy X .Eq HM.gEq:=by
 refine⟨⟨_,ZxJ hr,λF H x y z v w Q s e r1 r2 k=>?_⟩,by decide,by decide⟩;unfold HM.gEq at e;split at e
 ·rename_i hp
  cases e;rw[ZzW]at hp;exact⟨F,x,y,s,r1,r2,hp.1,hp.2,k _ (.bl _)⟩
 ·cases e
theorem ZkC{v:V}{fp:List Addr}(sub:Zq F H)(r:Zag K F H q v fp)(h:HM.ZfD q=Z ds):∃a vs,v=.ref a/\(SqL K H a vs\/SqT K H a vs)/\Zs K F ds vs:=by
 cases r with
 | pl r =>
  cases r with
  | tup h1 h2 h3=>cases h; exact⟨_,_,rfl,.inr (.of (sub _ _ h1)),h2,h3⟩
  | @tupk a x h1=>cases h; exact⟨_,_,rfl,.inr (.inr h1),.one (.str x)⟩
  | lst h1 h2 h3=>cases h; exact⟨_,_,rfl,.inl (sub.seq h1),h2,h3⟩
  | dct _ _ _ _=>cases h
  | fn _=>cases h
  | non=>cases h
  | bl _=>cases h
  | int _=>cases h
  | str _=>cases h
 | ol h1 r=>cases h; exact⟨_,_,rfl,.inl (.of h1),r⟩
 | ok _ _ _=>cases h
 | hd _ _ _ _=>cases h
 | hf _=>cases h
 | ot _ _ _=>cases h
 | otl _ _ _ _=>cases h
theorem ZuM{vs:List V}{i:Int}{d:PyData}(r:Zs K F ds vs)(h:HM.atD ds i=Z d):∃v,atI vs i=Z v/\Rep K F d v:=by
 unfold HM.atD at h;split at h
 ·rename_i j hj
  obtain⟨v,h1,h2⟩:=r.get h;refine⟨v,?_,h2⟩;unfold atI;rw[<-r.1,show ixN ds.length i=Z j from hj];exact h1
 ·cases h
theorem ZN{fb':HM.BF}(ha:XB X a fb')(hb:XE X b fb)(hs:Zqj b:=by intro _ _; rfl):XE X (.Subscript a b pos) (HM.eIx fb' fb):=by
 intro r d h;unfold HM.eIx at h;split at h
 ·rename_i x hx
  split at h
  ·rename_i ds hds
   split at h
   ·rename_i i hi
    refine PE.imp (ZxT Zxi (ha r x hx) (hb r _ hi) hs) λσ H Q ⟨F0,H0,F,at_,k⟩=>?_;refine⟨F0,H0,F,at_,λv F1 H1 x1 ⟨fp,r1⟩=>⟨F0,H0,F1,at_.grow x1,λw F2 H2 x2 r2=>?_⟩⟩;obtain⟨l,vs,e1,hq,rs⟩:=ZkC x2.sub (r1.mono x2.ff λ_ _ _ z=>x2.hh _ _ z) hds;obtain⟨u,hu,ru⟩:=ZuM rs h;have fin:=k u F2 H2 (x1.trans x2) ru;rcases hq with hq | hq
    ·exact .inl ⟨l,vs,i,u,e1,r2.int_inv,hq,hu,fin⟩
    ·exact .inr (.inl ⟨l,vs,i,u,e1,r2.int_inv,hq,hu,fin⟩)
   ·cases h
  ·cases h
 ·cases h
def PAB(X:Cx)(e:Expr)(r:HM.Env)(q:HM.B):Prop:=PA X [e] λσ H Q=>Now X.K r σ H λF0 H0 F=>∀v fp F' H',Ext F H F' H'->Zag X.K F' H' q v fp->Q [v] H'
theorem Zfp{f:HM.BF}{r:HM.Env}(ha:XB X e f)(h:f r=Z q)(hs:ZzC [e] X.env=[(ZEO,eval e X.env)]:=by rfl):PAB X e r q:=by refine PA.imp (Zaa (ha r q h) ZbJ hs) λσ H Q ⟨F0,H0,F,at_,k⟩=>?_;exact⟨F0,H0,F,at_,λv F1 H1 x1 ⟨fp,r1⟩=>k v fp F1 H1 x1 r1⟩
end
end HP
namespace HP
open PySem PySem.Spec PyProof.Rows L2
variable[FX]
theorem Zww:ZAy "all" = Z (.builtin "all"):=by decide +kernel
theorem Zw7:ZAy "len" = Z (.builtin "len"):=by decide +kernel
theorem Zsi:ZAy "max" = Z (.builtin "max"):=by decide +kernel
theorem Zsu:ZAy "min" = Z (.builtin "min"):=by decide +kernel
theorem Zmv:ZAy "sorted" = Z (.builtin "sorted"):=by decide +kernel
theorem Zio:ZAy "isinstance" = Z (.builtin "isinstance"):=by decide +kernel
theorem Zn9:ZAy "int" = Z (.type "int"):=by decide +kernel
theorem ZvD:ZAy "bool" = Z (.type "bool"):=by decide +kernel
theorem Zvt:ZAy "list" = Z (.type "list"):=by decide +kernel
theorem Zkw:ZAy "tuple" = Z (.type "tuple"):=by decide +kernel
theorem Zxs:ZAy "set" = Z (.type "set"):=by decide +kernel
section
variable{X:Cx}{a b c e:Expr}{fa fb fc:HM.EF}{pos p:Pos}{f:HM.BF}
theorem Zbr(hm:X.mg "len" = Z_)(ha:XB X a f)(hg:Gl X "len":=by rfl)(hs:ZzC [a] X.env=[(ZEO,eval a X.env)]:=by rfl):XE X (.Call (.Name "len" p) [a] [] pos) (HM.Za2 f):=by
 intro r d h;unfold HM.Za2 at h;split at h
 ·rename_i x hx
  obtain⟨n,h1,h2⟩:=Zzy.mp h;subst h2;refine PE.imp (ZcK (ZoR.or ZsC) hg hm Zw7 (Zfp ha hx hs) (he:=hs)) λσ H Q ⟨F0,H0,F,at_,k⟩=>?_;refine⟨F0,H0,F,at_,λv fp F1 H1 x1 r1=>?_⟩;have fin:=λ(m:Nat) (e:m=n)=>k (.int m) F1 H1 x1 (by rw[e]; exact .int _);cases r1 with
  | pl q =>
   cases q with
   | tup q1 q2 q3=>cases h1; exact .inl ⟨_,_,rfl,.inr (.of (x1.sub _ _ q1)),fin _ q2.symm⟩
   | tupk q1=>cases h1; exact .inl ⟨_,_,rfl,.inr (.inr q1),fin _ rfl⟩
   | lst q1 q2 q3=>cases h1; exact .inl ⟨_,_,rfl,.inl (x1.sub.seq q1),fin _ q2.symm⟩
   | dct _ _ _ _=>cases h1
   | fn _=>cases h1
   | non=>cases h1
   | bl _=>cases h1
   | int _=>cases h1
   | str _=>cases h1
  | ol q1 q2=>cases h1; exact .inl ⟨_,_,rfl,.inl (.of q1),fin _ q2.1.symm⟩
  | ok q1 q2 q3=>cases h1;refine .inr ⟨_,_,rfl,q1,fin _ ?_⟩;have:=congrArg ZAg q2;rw[Zzw,Zzw]at this;exact this.symm
  | ot _ _ _=>cases h1
  | otl _ _ _ _=>cases h1
  | hd _ _ _ _=>cases h1
  | hf _=>cases h1
 ·cases h
theorem ZaD(hm:X.mg "tuple" = Z_)(ha:XB X a f)(hg:Gl X "tuple":=by rfl)(hs:ZzC [a] X.env=[(ZEO,eval a X.env)]:=by rfl):XE X (.Call (.Name "tuple" p) [a] [] pos) (HM.Zah f):=by
 intro r d h;unfold HM.Zah at h;split at h
 ·rename_i x hx
  obtain⟨ds,h1,h2⟩:=Zzy.mp h;subst h2;refine PE.imp (Zdl ZmT hg hm Zkw (Zfp ha hx hs) (he:=hs)) λσ H Q ⟨F0,H0,F,at_,k⟩=>?_;refine⟨F0,H0,F,at_,λv fp F1 H1 x1 r1=>?_⟩;have new:∀(vs:List V),Zs X.K F1 ds vs->∀l,H1 l=Z_->Q (.ref l) (upd H1 l (.tup vs)):=λvs q l hl=>k _ (upd F1 l (.tup vs)) _ (x1.lay hl) (.tup Zy q.1 (q.mono (Zq.upd' (x1.sub.free hl))).2);cases r1 with
  | pl q =>
   cases q with
   | tup q1 q2 q3=>cases h1; exact⟨_,_,rfl,.inr ⟨.of (x1.sub _ _ q1),k _ F1 H1 x1 (.tup q1 q2 q3)⟩⟩
   | tupk q1=>cases h1; exact⟨_,_,rfl,.inr ⟨.inr q1,k _ F1 H1 x1 (.tupk q1)⟩⟩
   | lst q1 q2 q3=>cases h1; exact⟨_,_,rfl,.inl ⟨x1.sub.seq q1,new _ ⟨q2,q3⟩⟩⟩
   | dct _ _ _ _=>cases h1
   | fn _=>cases h1
   | non=>cases h1
   | bl _=>cases h1
   | int _=>cases h1
   | str _=>cases h1
  | ol q1 q2=>cases h1; exact⟨_,_,rfl,.inl ⟨.of q1,new _ q2⟩⟩
  | ok _ _ _=>cases h1
  | ot _ _ _=>cases h1
  | otl _ _ _ _=>cases h1
  | hd _ _ _ _=>cases h1
  | hf _=>cases h1
 ·cases h
theorem ZdY{K:Zzx}{F H F1 H1:Hp}{ds:List PyData}{vs:List V}{l:Addr}{P:V->Hp->Hp->Prop}(x1:Ext F H F1 H1)(q:Zs K F1 ds vs)(hl:H1 l=Z_)
  (k:∀v F' H',Ext F H F' H'->(∃fp,Zag K F' H' (.ol ds) v fp/\fp.Nodup/\∀a∈fp,F' a=Z_/\H a=Z_)->P v F' H'):P (.ref l) F1 (upd H1 l (.lst vs)):=by
 refine k _ F1 _ (x1.lay' hl) ⟨[l],.ol Zy q,by simp,λa ha=>?_⟩;have:a=l:=by simpa using ha
 subst this;exact⟨x1.sub.free hl,x1.hh.free hl⟩
theorem Zgz(hm:X.mg "list" = Z_)(ha:XB X a f)(hg:Gl X "list":=by rfl)(hs:ZzC [a] X.env=[(ZEO,eval a X.env)]:=by rfl):XF X (.Call (.Name "list" p) [a] [] pos) (HM.Zf1 f):=by
 intro r d h;unfold HM.Zf1 at h;split at h
 ·rename_i x hx
  obtain⟨ds,h1,h2⟩:=Zzy.mp h;subst h2;refine PE.imp (Zdl Zn1 hg hm Zvt (Zfp ha hx hs) (he:=hs)) λσ H Q ⟨F0,H0,F,at_,k⟩=>?_;refine⟨F0,H0,F,at_,λv fp F1 H1 x1 r1=>?_⟩;obtain⟨l,vs,e1,hq,rs⟩:=ZkC x1.sub r1 h1;subst e1;exact⟨l,vs,rfl,hq,λl' hl'=>ZdY (P:=λv _ H'=>Q v H') x1 rs hl' k⟩
 ·cases h
theorem Zk8{K:Zzx}{F:Hp}:∀{ds:List PyData} {vs:List V} {bs:List Bool},HM.ZdG ds=Z bs->Zs K F ds vs->vs=bs.map V.bl
 | [],vs,bs,h,r=>by cases h;exact r.nil_inv
 | d::ds,vs,bs,h,r=>by
  obtain⟨v,us,rfl,r1,r2⟩:=r.cons_inv;cases d with
  | bool b=>obtain⟨bs',h1,h2⟩:=Zzy.mp h;subst h2;rw[r1.bool_inv,Zk8 h1 r2];rfl
  | none=>cases h
  | int _=>cases h
  | str _=>cases h
  | list _=>cases h
  | tuple _=>cases h
  | dict _=>cases h
end
end HP
namespace HP
open PySem PySem.Spec PyProof.Rows L2
variable{p2:Pos}
variable[FX]
section
variable{X:Cx}{a b c e:Expr}{fa fb fc:HM.EF}{pos p:Pos}{f:HM.BF}
theorem ZpO:∀{bs:List Bool} {us:List Value},Vals (bs.map V.bl) us->LSm.BoolsAre us bs:=by
 intro bs
 induction bs with
 | nil=>intro us r; rw[ZB1]at r; cases r; exact .nil
 | cons b bs ih =>
  intro us r;rw[ZzG]at r;cases r with
  | cons r1 r2=>cases r1;exact .cons b (ih r2)
theorem Zw2{A:Around}{s:Shared}{l:Addr}{vs:List Value}{bs:List Bool}{dflt:Bool}(hh:A.handled=Z_)(hl:s.heap.IsList l vs.toArray)(hb:LSm.BoolsAre vs bs){E:Value->Shared->Prop}{Q:Value->Shared->Prop}{prog:Program}{w:World}
  (h:∀it fp wr (P:Nat->Value->Prop) St,Walks prog w A it fp wr vs.length P St->St 0 (s.heap.push { cls:=.type "list_iterator",data:=.fields #[.ref l,rawInt 0] })->TruthOf prog w A P (λi=>(bs[i]?).getD dflt)->wr=[s.heap.objs.size]->it=s.heap.objs.size->Q (.ref it) { s with heap:=s.heap.push { cls:=.type "list_iterator",data:=.fields #[.ref l,rawInt 0] } }) :
  wpAny (model prog w) A (pyIter (.ref l)) Q E s:=by
 have hlt:l<s.heap.objs.size:=let ⟨_,e,_⟩:=hl; ZzO e
 refine ZDD hl ?_;have W:=Walks.list (prog:=prog) (w:=w) hh s.heap.objs.size l (ZzU hlt) vs.toArray;rw[ZzN]at W;refine h _ _ _ _ _ W ⟨⟨_,ZzP _ rfl,rfl,rfl⟩,hl.push _⟩ (λi v s' Q' E' hP hQ=>?_) rfl rfl;obtain⟨b,e,rfl⟩:=hb.get i v (by simpa using hP);simp only[e,Option.getD_some]at hQ;exact ZBw hQ
theorem Zr9(hc:X.calm=ZEN):ZaQ X (.builtin "all") (λxs H Q=>∃(p:Addr) (bs:List Bool),xs=[.ref p]/\SqL X.K H p (bs.map V.bl)/\Q (.bl (bs.all id)) H):=by intro pins s σ H xs us Q I r h;obtain⟨p,bs,rfl,hq,q⟩:=h;obtain⟨u,rfl,rx⟩:=vals1 r;cases rx;obtain⟨its,rv,pl,hz⟩:=I.list hq;have hb:=ZpO rv;refine call_all_walk (Zw2 (dflt:=ZEN) (A:=X.A.in1) (I.ok.hd hc) pl.isList hb λit fp wr P St W st tr e1 e2=>?_);subst e1 e2;refine⟨_,_,_,_,P,St,_,rfl,W,st,tr,λh' tk hk=>?_⟩;rw[hb.length,LSm.range_all bs];exact⟨.bl _,H,I.kept (LSm.kept_iter hk),rfl,q⟩
theorem ZdX{K:Zzx}{F H:Hp}{q:HM.B}{v:V}{fp:List Addr}{ds:List PyData}(sub:Zq F H)(r:Zag K F H q v fp)(h:HM.ZiU q=Z ds):∃a vs,v=.ref a/\SqL K H a vs/\Zs K F ds vs:=by
 cases r with
 | pl r =>
  cases r with
  | lst h1 h2 h3=>cases h; exact⟨_,_,rfl,sub.seq h1,h2,h3⟩
  | dct _ _ _ _=>cases h
  | fn _=>cases h
  | tupk _=>cases h
  | tup _ _ _=>cases h
  | non=>cases h
  | bl _=>cases h
  | int _=>cases h
  | str _=>cases h
 | ol h1 r=>cases h; exact⟨_,_,rfl,.of h1,r⟩
 | ok _ _ _=>cases h
 | hd _ _ _ _=>cases h
 | hf _=>cases h
 | ot _ _ _=>cases h
 | otl _ _ _ _=>cases h
theorem Zf6(hm:X.mg "all" = Z_)(hc:X.calm=ZEN)(ha:XB X a f)(hg:Gl X "all":=by rfl)(hs:ZzC [a] X.env=[(ZEO,eval a X.env)]:=by rfl):XE X (.Call (.Name "all" p) [a] [] pos) (HM.Zh0 f):=by
 intro r d h;unfold HM.Zh0 at h;split at h
 ·rename_i x hx
  split at h
  ·rename_i ds hds
   obtain⟨bs,h1,h2⟩:=Zzy.mp h;subst h2;refine PE.imp (ZcK (Zr9 hc) hg hm Zww (Zfp ha hx hs) (he:=hs)) λσ H Q ⟨F0,H0,F,at_,k⟩=>?_;refine⟨F0,H0,F,at_,λv fp F1 H1 x1 r1=>?_⟩;obtain⟨l,vs,e1,hq,rs⟩:=ZdX x1.sub r1 hds;rw[Zk8 h1 rs]at hq;exact⟨l,bs,by rw[e1],hq,k _ F1 H1 x1 (.bl _)⟩
  ·cases h
 ·cases h
theorem Zok{tyn:String}{t:HM.Ty}(hr:∀(s:Shared) (d:PyData) (v:V) (u:Value) (Q:Value->Shared->Prop),RelV v u->(∃(K:Zzx) (F:Hp),Rep K F d v)->(∀es,d≠.dict es)->(∀x,v=.ref x->∃o,s.heap.get? x=Z o/\((∃ds,d=.tuple ds/\o.cls=.type "tuple")\/(∃ds,d=.list ds/\o.cls=.type "list")\/∃ds,d=.dict ds/\o.cls=.type "dict")) ->
   (∀tk,Q (.bool (HM.Zi8 t d)) { s with toks:=tk })->wpAny (model X.prog X.w) X.A (call (.builtin "isinstance") [u,.type tyn]) Q X.xe s) :
  ZaQ X (.builtin "isinstance") (λxs H Q=>∃F d v,xs=[v,.ty tyn]/\Zq F H/\Rep X.K F d v/\(∀es,d≠.dict es)/\Q (.bl (HM.Zi8 t d)) H):=by
 intro pins s σ H xs us Q I r h;obtain⟨F,d,v,rfl,sub,rp,nd,q⟩:=h;obtain⟨u,u',rfl,ru,ru'⟩:=vals2 r;cases(show u'=ZBU tyn from ru');refine hr s d v u _ ru ⟨_,_,rp⟩ nd (λx e=>?_) λtk=>⟨.bl _,H,I.tok tk,rfl,q⟩;subst e;cases rp with
 | tup h1 h2 h3=>obtain⟨its,rv,⟨o,ho,hc,n,hd⟩,_⟩:=I.tuple (.of (sub _ _ h1));exact⟨o,ho,.inl ⟨_,rfl,hc⟩⟩
 | tupk h1=>obtain⟨its,rv,⟨o,ho,hc,n,hd⟩,_⟩:=I.tuple (.inr h1);exact⟨o,ho,.inl ⟨_,rfl,hc⟩⟩
 | lst h1 h2 h3=>obtain⟨its,rv,⟨o,n,ho,hc,_,hd⟩,_⟩:=I.list (sub.seq h1);exact⟨o,ho,.inr (.inl ⟨_,rfl,hc⟩)⟩
 | @dct a es kvs vvs h1 _ _ _=>obtain⟨_,_,xs,_,o,es,ep,q1,q2,_⟩:=(show Z4 X.prog X.w H s.heap x (.dT vvs) from Zll I.hok (Zjq h1 sub));exact⟨o,q1,.inr (.inr ⟨_,rfl,q2.1⟩)⟩
 | fn _=>exact absurd rfl (nd _)
theorem Ztv:ZaQ X (.builtin "isinstance") (λxs H Q=>∃F d v,xs=[v,.ty "bool"]/\Zq F H/\Rep X.K F d v/\(∀es,d≠.dict es)/\Q (.bl (HM.Zi8 .bool d)) H):=by
 refine Zok λs d v u Q ru ⟨K,F,rp⟩ nd ho k=>?_;cases rp with
 | non=>cases ru; exact IsiPair.NoneType_bool (k _)
 | bl _=>cases ru; exact IsiPair.bool_bool (k _)
 | int _=>obtain⟨t,rfl⟩:=ru; exact IsiPair.int_bool (k _)
 | str _=>obtain⟨t,rfl⟩:=ru; exact IsiPair.str_bool (k _)
 | tup _ _ _ | tupk _ =>
  cases ru;obtain⟨o,h1,⟨_,_,h2⟩ | ⟨_,e,_⟩ | ⟨_,e,_⟩⟩:=ho _ rfl
  ·exact IsiPair.tuple_bool h1 h2 (k _)
  ·cases e
  ·cases e
 | lst _ _ _ =>
  cases ru;obtain⟨o,h1,⟨_,e,_⟩ | ⟨_,_,h2⟩ | ⟨_,e,_⟩⟩:=ho _ rfl
  ·cases e
  ·exact IsiPair.list_bool h1 h2 (k _)
  ·cases e
 | dct _ _ _ _ =>
  cases ru;obtain⟨o,h1,⟨_,e,_⟩ | ⟨_,e,_⟩ | ⟨_,_,h2⟩⟩:=ho _ rfl
  ·cases e
  ·cases e
  ·exact IsiPair.dict_bool h1 h2 (k _)
 | fn _=>exact absurd rfl (nd _)
theorem Zvn:ZaQ X (.builtin "isinstance") (λxs H Q=>∃F d v,xs=[v,.ty "int"]/\Zq F H/\Rep X.K F d v/\(∀es,d≠.dict es)/\Q (.bl (HM.Zi8 .int d)) H):=by
 refine Zok λs d v u Q ru ⟨K,F,rp⟩ nd ho k=>?_;cases rp with
 | non=>cases ru; exact IsiPair.NoneType_int (k _)
 | bl _=>cases ru; exact IsiPair.bool_int (k _)
 | int _=>obtain⟨t,rfl⟩:=ru; exact IsiPair.int_int (k _)
 | str _=>obtain⟨t,rfl⟩:=ru; exact IsiPair.str_int (k _)
 | tup _ _ _ | tupk _ =>
  cases ru;obtain⟨o,h1,⟨_,_,h2⟩ | ⟨_,e,_⟩ | ⟨_,e,_⟩⟩:=ho _ rfl
  ·exact IsiPair.tuple_int h1 h2 (k _)
  ·cases e
  ·cases e
 | lst _ _ _ =>
  cases ru;obtain⟨o,h1,⟨_,e,_⟩ | ⟨_,_,h2⟩ | ⟨_,e,_⟩⟩:=ho _ rfl
  ·cases e
  ·exact IsiPair.list_int h1 h2 (k _)
  ·cases e
 | dct _ _ _ _ =>
  cases ru;obtain⟨o,h1,⟨_,e,_⟩ | ⟨_,e,_⟩ | ⟨_,_,h2⟩⟩:=ho _ rfl
  ·cases e
  ·cases e
  ·exact IsiPair.dict_int h1 h2 (k _)
 | fn _=>exact absurd rfl (nd _)
theorem ZsB:ZaQ X (.builtin "isinstance") (λxs H Q=>∃F d v,xs=[v,.ty "tuple"]/\Zq F H/\Rep X.K F d v/\(∀es,d≠.dict es)/\Q (.bl (HM.Zi8 .tuple d)) H):=by
 refine Zok λs d v u Q ru ⟨K,F,rp⟩ nd ho k=>?_;cases rp with
 | non=>cases ru; exact IsiPair.NoneType_tuple (k _)
 | bl _=>cases ru; exact IsiPair.bool_tuple (k _)
 | int _=>obtain⟨t,rfl⟩:=ru; exact IsiPair.int_tuple (k _)
 | str _=>obtain⟨t,rfl⟩:=ru; exact IsiPair.str_tuple (k _)
 | tup _ _ _ | tupk _ =>
  cases ru;obtain⟨o,h1,⟨_,_,h2⟩ | ⟨_,e,_⟩ | ⟨_,e,_⟩⟩:=ho _ rfl
  ·exact IsiPair.tuple_tuple h1 h2 (k _)
  ·cases e
  ·cases e
 | lst _ _ _ =>
  cases ru;obtain⟨o,h1,⟨_,e,_⟩ | ⟨_,_,h2⟩ | ⟨_,e,_⟩⟩:=ho _ rfl
  ·cases e
  ·exact IsiPair.list_tuple h1 h2 (k _)
  ·cases e
 | dct _ _ _ _ =>
  cases ru;obtain⟨o,h1,⟨_,e,_⟩ | ⟨_,e,_⟩ | ⟨_,_,h2⟩⟩:=ho _ rfl
  ·cases e
  ·cases e
  ·exact IsiPair.dict_tuple h1 h2 (k _)
 | fn _=>exact absurd rfl (nd _)
theorem Zm8{tyn:Str}{tys:String}{t:HM.Ty}(hR:ZaQ X (.builtin "isinstance") (λxs H Q=>∃F d v,xs=[v,.ty tys]/\Zq F H/\Rep X.K F d v/\(∀es,d≠.dict es)/\Q (.bl (HM.Zi8 t d)) H))(bt:ZAy tyn=Z (.type tys))
  (hm:X.mg "isinstance" = Z_) (hm2:X.mg tyn=Z_) (ha:XE X a fa) (hg:Gl X "isinstance") (hg2:Gl X tyn) (hn:tyn ≠ "__name__") (hd:(tyn==("__debug__":Str))=ZEO)
  (hs1:ZzC [a,.Name tyn p2] X.env=(ZEO,eval a X.env)::ZzC [.Name tyn p2] X.env) (hs2:ZzC [.Name tyn p2] X.env=[(ZEO,eval (.Name tyn p2) X.env)]):XE X (.Call (.Name "isinstance" p) [a,.Name tyn p2] [] pos) (HM.ZhN fa t):=by
 intro r d h;have key:∃x,fa r=Z x/\(∀es,x≠.dict es)/\d=.bool (HM.Zi8 t x):=by
  unfold HM.ZhN at h;split at h
  ·cases h
  ·rename_i x hn hx
   cases h;exact⟨x,hx,λes z=>hn es (by rw[z]),rfl⟩
  ·cases h
 obtain⟨x,h1,nd,h2⟩:=key;subst h2;refine PE.imp (ZcK hR hg hm Zio (Zaa (ha r x h1) (Zaa (Zqu (v:=.ty tys) hg2 hm2 bt rfl hn hd) ZbJ (by rw[hs2]; rfl)) hs1) (he:=hs1) (hpl:=by rw[hs2]; rfl)) λσ H Q ⟨F0,H0,F,at_,k⟩=>?_;exact⟨F0,H0,F,at_,λv F1 H1 x1 r1=>⟨F1,x,v,rfl,x1.sub,r1,nd,k _ F1 H1 x1 (.bl _)⟩⟩
theorem Zo9(hm:X.mg "isinstance" = Z_)(hm2:X.mg "bool" = Z_)(ha:XE X a fa)(hg:Gl X "isinstance":=by rfl)(hg2:Gl X "bool":=by rfl)(hs1:ZzC [a,.Name "bool" p2] X.env=(ZEO,eval a X.env)::ZzC [.Name "bool" p2] X.env:=by rfl) :
  XE X (.Call (.Name "isinstance" p) [a,.Name "bool" p2] [] pos) (HM.ZhN fa .bool):=Zm8 Ztv ZvD hm hm2 ha hg hg2 (by decide) (by decide) hs1 rfl
theorem Zqx(hm:X.mg "isinstance" = Z_)(hm2:X.mg "int" = Z_)(ha:XE X a fa)(hg:Gl X "isinstance":=by rfl)(hg2:Gl X "int":=by rfl)(hs1:ZzC [a,.Name "int" p2] X.env=(ZEO,eval a X.env)::ZzC [.Name "int" p2] X.env:=by rfl) :
  XE X (.Call (.Name "isinstance" p) [a,.Name "int" p2] [] pos) (HM.ZhN fa .int):=Zm8 Zvn Zn9 hm hm2 ha hg hg2 (by decide) (by decide) hs1 rfl
theorem Ziy(hm:X.mg "isinstance" = Z_)(hm2:X.mg "tuple" = Z_)(ha:XE X a fa)(hg:Gl X "isinstance":=by rfl)(hg2:Gl X "tuple":=by rfl)(hs1:ZzC [a,.Name "tuple" p2] X.env=(ZEO,eval a X.env)::ZzC [.Name "tuple" p2] X.env:=by rfl) :
  XE X (.Call (.Name "isinstance" p) [a,.Name "tuple" p2] [] pos) (HM.ZhN fa .tuple):=Zm8 ZsB Zkw hm hm2 ha hg hg2 (by decide) (by decide) hs1 rfl
theorem ZvU(hm:X.mg "max" = Z_)(hc:X.calm=ZEN)(ha:XE X a fa)(hb:XE X b fb)(hg:Gl X "max":=by rfl)(hs1:ZzC [a,b] X.env=(ZEO,eval a X.env)::ZzC [b] X.env:=by rfl)(hs2:ZzC [b] X.env=[(ZEO,eval b X.env)]:=by rfl) :
  XE X (.Call (.Name "max" p) [a,b] [] pos) (HM.op2 HM.Zxz fa fb):=by
 intro r d h;obtain⟨x,y,h1,h2,h3⟩:=ZhA h;obtain⟨i,j,rfl,rfl,e⟩:=Zgr h3;cases e;refine PE.imp (ZcK (ZsK hc) hg hm Zsi (Zaa (ha r _ h1) (Zaa (hb r _ h2) ZbJ hs2) hs1) (he:=hs1) (hpl:=by rw[hs2]; rfl)) λσ H Q ⟨F0,H0,F,at_,k⟩=>?_;exact⟨F0,H0,F,at_,λv F1 H1 x1 r1=>⟨F0,H0,F1,at_.grow x1,λw F2 H2 x2 r2=>⟨i,j,by rw[r1.int_inv,r2.int_inv],k _ F2 H2 (x1.trans x2) (.int _)⟩⟩⟩
theorem ZvV(hm:X.mg "min" = Z_)(hc:X.calm=ZEN)(ha:XE X a fa)(hb:XE X b fb)(hg:Gl X "min":=by rfl)(hs1:ZzC [a,b] X.env=(ZEO,eval a X.env)::ZzC [b] X.env:=by rfl)(hs2:ZzC [b] X.env=[(ZEO,eval b X.env)]:=by rfl) :
  XE X (.Call (.Name "min" p) [a,b] [] pos) (HM.op2 HM.ZwP fa fb):=by
 intro r d h;obtain⟨x,y,h1,h2,h3⟩:=ZhA h;obtain⟨i,j,rfl,rfl,e⟩:=Zgr h3;cases e;refine PE.imp (ZcK (Zsb hc) hg hm Zsu (Zaa (ha r _ h1) (Zaa (hb r _ h2) ZbJ hs2) hs1) (he:=hs1) (hpl:=by rw[hs2]; rfl)) λσ H Q ⟨F0,H0,F,at_,k⟩=>?_;exact⟨F0,H0,F,at_,λv F1 H1 x1 r1=>⟨F0,H0,F1,at_.grow x1,λw F2 H2 x2 r2=>⟨i,j,by rw[r1.int_inv,r2.int_inv],k _ F2 H2 (x1.trans x2) (.int _)⟩⟩⟩
theorem Zs3(hm:X.mg "int" = Z_)(ha:XE X a fa)(hg:Gl X "int":=by rfl)(hs:ZzC [a] X.env=[(ZEO,eval a X.env)]:=by rfl):XE X (.Call (.Name "int" p) [a] [] pos) (HM.ZnI fa):=by
 intro r d h;unfold HM.ZnI at h;split at h
 ·rename_i i hi
  cases h;refine PE.imp (Zdl Zma hg hm Zn9 (Zaa (ha r _ hi) ZbJ hs) (he:=hs)) λσ H Q ⟨F0,H0,F,at_,k⟩=>?_;exact⟨F0,H0,F,at_,λv F1 H1 x1 r1=>.inl ⟨i,by rw[r1.int_inv],k _ F1 H1 x1 (.int _)⟩⟩
 ·rename_i q hq
  cases h;refine PE.imp (Zdl Zma hg hm Zn9 (Zaa (ha r _ hq) ZbJ hs) (he:=hs)) λσ H Q ⟨F0,H0,F,at_,k⟩=>?_;exact⟨F0,H0,F,at_,λv F1 H1 x1 r1=>.inr ⟨q,by rw[r1.bool_inv],k _ F1 H1 x1 (.int _)⟩⟩
 ·cases h
end
end HP
namespace HP
open PySem PySem.Spec PyProof.Rows L2
variable{ga:HM.BF}{r:HM.Env}{F F0 H H0:Hp}{σ:L2.St}{ds:List PyData}{vs:List V}{i:Nat}{p1 p2:Pos}{K:Zzx}{x:Str}
variable[FX]
section
variable{X:Cx}{a b c e:Expr}{fa fb fc:HM.EF}{pos p:Pos}{f:HM.BF}{tg:Expr}
theorem PI.imp{X:Cx}{tg e:Expr}{t u:TI}(h:PI X tg e t)(hi:∀σ H R,u σ H R->t σ H R):PI X tg e u:=λpins s σ H R I q=>h pins s σ H R I (hi σ H R q)
theorem ZwG{l:Expr}{tl:TE}(hl:PE X l tl):PI X tg l (λσ H R=>tl σ H λx H1=>∃a,x=.ref a/\((∃xs,SqL X.K H1 a xs)/\R (Itl X.K a) H1\/(∃xs,SqT X.K H1 a xs)/\R (Itt X.K a) H1)):=by
 intro pins s σ H R I h;refine thn (hl pins s σ H _ I h) λv s1 ⟨x,H1,I1,r1,q1⟩=>?_;obtain⟨a,e,q1⟩:=q1;subst e;cases r1;rcases q1 with⟨⟨xs,hq⟩,q⟩ | ⟨⟨xs,hq⟩,q⟩
 ·obtain⟨its,rv,p,hz⟩:=I1.list hq
  refine ZDD p.isList ⟨s1.heap.objs.size,[s1.heap.objs.size],_,_,H1,rfl,I1.kept (t':=s1.toks) λb o e=>ZzA _ e,ZsR a _,⟨_,ZzP _ rfl,rfl,rfl⟩,λb hb=>?_,q⟩;obtain rfl:b=s1.heap.objs.size:=by simpa using hb
  exact I1.fpOk (ZzH _) (I1.hok.fresh (ZzH _))
 ·obtain⟨its,rv,p,hz⟩:=I1.tuple hq
  refine ZDq (show s1.heap.IsTuple a its.toArray from p) ⟨s1.heap.objs.size,[s1.heap.objs.size],_,_,H1,rfl,I1.kept (t':=s1.toks) λb o e=>ZzA _ e,ZqR a _,⟨_,ZzP _ rfl,rfl,rfl⟩,λb hb=>?_,q⟩;obtain rfl:b=s1.heap.objs.size:=by simpa using hb
  exact I1.fpOk (ZzH _) (I1.hok.fresh (ZzH _))
theorem Zug{a:Addr}(h:SqL K F a vs)(r:Zs K F ds vs):ItD K (Itl K a) ds F:=by intro F' H s1 s2;have hq:SqL K H a vs:=(s1.trans s2).seq h;refine⟨λi d hd=>?_,⟨vs,hq,by rw[r.1]; exact ZzH _⟩⟩;obtain⟨v,h1,h2⟩:=r.get hd;refine⟨⟨vs,v,hq,h1⟩,λx H' hy=>?_⟩;obtain⟨e,y⟩:=hy;refine⟨e,?_⟩;have:=y vs hq;rw[h1]at this;cases this;exact h2.mono (s1.trans (ZcX s2))
theorem Zt1{a:Addr}(h:SqT K F a vs)(r:Zs K F ds vs):ItD K (Itt K a) ds F:=by intro F' H s1 s2;have hq:SqT K H a vs:=ZeO h (s1.trans s2);refine⟨λi d hd=>?_,⟨vs,hq,by rw[r.1]; exact ZzH _⟩⟩;obtain⟨v,h1,h2⟩:=r.get hd;refine⟨⟨vs,v,hq,h1⟩,λx H' hy=>?_⟩;obtain⟨e,y⟩:=hy;refine⟨e,?_⟩;have:=y vs hq;rw[h1]at this;cases this;exact h2.mono (s1.trans (ZcX s2))
theorem Zvd{a:Addr}(h:F a=Z (.tup vs))(r:Zs K F ds vs):ItD K (Itt K a) ds F:=by intro F' H s1 s2;have hq:SqT K H a vs:=.of (s2 _ _ (s1 _ _ h));refine⟨λi d hd=>?_,⟨vs,hq,by rw[r.1]; exact ZzH _⟩⟩;obtain⟨v,h1,h2⟩:=r.get hd;refine⟨⟨vs,v,hq,h1⟩,λx H' hy=>?_⟩;obtain⟨e,y⟩:=hy;refine⟨e,?_⟩;have:=y vs hq;rw[h1]at this;cases this;exact h2.mono (s1.trans (ZcX s2))
theorem Zaj(h:XE X e fa):XI X tg e (HM.Zad (HM.bOf fa)):=by
 intro r ds hd;unfold HM.Zad HM.bOf at hd;cases hx:fa r with
 | none=>rw[hx]at hd; cases hd
 | some d =>
  rw[hx]at hd;have hd:HM.ZfD (.pl d)=Z ds:=hd;refine PI.imp (ZwG (h r d hx)) λσ H R ⟨F0,H0,F,at_,k⟩=>?_;refine⟨F0,H0,F,at_,λv F1 H1 x1 r1=>?_⟩;cases r1 with
  | @tupk a x h1=>cases hd;exact⟨a,rfl,.inr ⟨⟨_,.inr h1⟩,k _ F1 H1 x1 (Zt1 (.inr h1) (.one (.str x)))⟩⟩
  | @tup a ds' vs h1 h2 h3=>cases hd;exact⟨a,rfl,.inr ⟨⟨vs,.of (x1.sub _ _ h1)⟩,k _ F1 H1 x1 (Zvd h1 ⟨h2,h3⟩)⟩⟩
  | @lst a ds' vs h1 h2 h3=>cases hd;exact⟨a,rfl,.inl ⟨⟨vs,x1.sub.seq h1⟩,k _ F1 H1 x1 (Zug h1 ⟨h2,h3⟩)⟩⟩
  | dct _ _ _ _=>cases hd
  | fn _=>cases hd
  | non=>cases hd
  | bl _=>cases hd
  | int _=>cases hd
  | str _=>cases hd
theorem Zvr(lo:Int)(n:Nat):ItD K (Itr lo n) (HM.ZcS lo n) F:=by
 intro F' H s1 s2;have hl:(HM.ZcS lo n).length=n:=by unfold HM.ZcS; rw[Zzw,ZBS]
 refine⟨λi d hd=>?_,?_⟩
 ·have hi:i<n:=by rw[<-hl]; exact(ZzL.mp hd).1
  unfold HM.ZcS at hd;rw[Zz2,List.getElem?_range hi]at hd;cases hd;exact⟨hi,λx H' ⟨e1,e2⟩=>⟨e1,by rw[e2]; exact .int _⟩⟩
 ·rw[hl]; exact ZzH _
theorem Zp4{j:Int}(h:HM.okR j=ZEN):-1000000<j/\j<1000000:=by unfold HM.okR at h;rw[ZCJ]at h;omega
theorem Zca(hm:X.mg "range" = Z_)(ha:XE X a fa)(hg:Gl X "range":=by rfl)(hs:ZzC [a] X.env=[(ZEO,eval a X.env)]:=by rfl):XI X tg (.Call (.Name "range" p) [a] [] pos) (HM.ZbL fa):=by
 intro r ds hd;unfold HM.ZbL at hd;split at hd
 ·rename_i j hj
  split at hd
  ·rename_i hok
   cases hd;obtain⟨k1,k2⟩:=Zp4 hok;refine PI.imp (ZrV hg hm (Zaa (ha r _ hj) ZbJ hs) hs) λσ H R ⟨F0,H0,F,at_,k⟩=>?_;exact⟨F0,H0,F,at_,λv F1 H1 x1 r1=>⟨j,by rw[r1.int_inv],by omega,by omega,k _ F1 H1 x1 (Zvr 0 j.toNat)⟩⟩
  ·cases hd
 ·cases hd
theorem Zhi{gb:HM.BF}(ha:XB X a ga)(hb:XB X b gb):XF X (.BinOp a .Add b pos) (HM.Zjk ga gb):=by
 intro r d h;unfold HM.Zjk at h;split at h
 ·rename_i xs hx
  split at h
  ·rename_i ys hy
   split at h
   ·rename_i hz
    cases h;refine PE.imp (ZjB ZwY (ha r _ hx) (hb r _ hy)) λσ H Q ⟨F0,H0,F,at_,k⟩=>?_;refine⟨F0,H0,F,at_,λv F1 H1 x1 ⟨fp,r1⟩=>⟨F0,H0,F1,at_.grow x1,λw F2 H2 x2 ⟨fq,r2⟩=>?_⟩⟩;cases r1 with
    | ol h1 q1 =>
     cases r2 with
     | ol h2 q2 =>
      have q1':=q1.mono x2.ff;refine⟨_,_,_,_,rfl,rfl,x2.hh _ _ h1,h2,?_,λl hl=>ZdY (P:=λv _ H'=>Q v H') (x1.trans x2) (q1'.append q2) hl k⟩;have e1:=q1.1;have e2:=q2.1;have e3:(1000000:Nat)<=sizeLine:=by decide
      unfold HM.big at hz;omega
   ·cases h
  ·cases h
 ·cases h
theorem ZvW(ha:XB X a ga)(hb:XE X b fb):XF X (.BinOp a .Mult b pos) (HM.ZtL ga fb):=by
 intro r d h;unfold HM.ZtL at h;split at h
 ·rename_i xs hx
  split at h
  ·rename_i i hy
   split at h
   ·rename_i hz
    cases h;rw[ZzW,decide_eq_true_eq,decide_eq_true_eq]at hz;refine PE.imp (ZjB Zw6 (ha r _ hx) (hb r _ hy)) λσ H Q ⟨F0,H0,F,at_,k⟩=>?_;refine⟨F0,H0,F,at_,λv F1 H1 x1 ⟨fp,r1⟩=>⟨F0,H0,F1,at_.grow x1,λw F2 H2 x2 r2=>?_⟩⟩;cases r1 with
    | ol h1 q1 =>
     have q1':=q1.mono x2.ff;refine⟨_,i,_,rfl,r2.int_inv,x2.hh _ _ h1,by omega,by omega,?_,λl hl=>ZdY (P:=λv _ H'=>Q v H') (x1.trans x2) (q1'.rep i.toNat) hl k⟩;have e1:=q1.1;have e3:(1000*1000:Nat)<=sizeLine:=by decide
     refine ZAn (Nat.mul_le_mul (?_:_<=1000) (?_:_<=1000)) e3<;>omega
   ·cases h
  ·cases h
 ·cases h
def XO(X:Cx)(e:Option Expr)(f:Option HM.EF):Prop:=∀r o,HM.ZlN f r=Z o->PO X e λσ H Q=>Now X.K r σ H λF0 H0 F=>∀F' H',Ext F H F' H'->Q o H'
theorem ZeQ:XO X Z_ Z_:=by intro r o h;cases h;intro pins s σ H Q I q;obtain⟨F0,H0,F,at_,k⟩:=q;exact Zu5 pins s σ H Q I (k F H at_.refl)
theorem ZeL(h:XE X e fa):XO X (Z e) (Z fa):=by
 intro r o ho;unfold HM.ZlN at ho;split at ho
 ·rename_i z; cases z
 ·rename_i g z
  cases z;split at ho
  ·rename_i i hi
   cases ho;intro pins s σ H Q I q;obtain⟨F0,H0,F,at_,k⟩:=q;exact Zu9 (h r _ hi) pins s σ H Q I ⟨F0,H0,F,at_,λv F1 H1 x1 r1=>⟨i,r1.int_inv,k F1 H1 x1⟩⟩
  ·cases ho
theorem ZvX{lo hi:Option Expr}{fl fh:Option HM.EF}(ha:XB X a ga)(hl:XO X lo fl)(hh:XO X hi fh):XF X (.Subscript a (.Slice lo hi Z_ p2) pos) (HM.Ztt ga fl fh):=by
 intro r d h;unfold HM.Ztt at h;split at h
 ·rename_i x hx
  split at h
  ·rename_i xs hxs
   split at h
   ·rename_i l hl'
    split at h
    ·rename_i u hu'
     cases h;refine PE.imp (Zo5 Zvk (ha r _ hx) (hl r _ hl') (hh r _ hu')) λσ H Q ⟨F0,H0,F,at_,k⟩=>?_;refine⟨F0,H0,F,at_,λv F1 H1 x1 ⟨fp,r1⟩=>⟨F0,H0,F1,at_.grow x1,λF2 H2 x2=>⟨F0,H0,F2,(at_.grow x1).grow x2,λF3 H3 x3=>?_⟩⟩⟩;have x23:=x2.trans x3;obtain⟨l',vs,e1,hq,rs⟩:=ZdX x3.sub (r1.mono x23.ff λ_ _ _ z=>x23.hh _ _ z) hxs;refine⟨l',vs,e1,hq,λl2 hl2=>ZdY (P:=λv _ H'=>Q v H') (x1.trans x23) ?_ hl2 k⟩;unfold HM.cutD Zhf;rw[<-rs.1];exact(rs.drop _).take _
    ·cases h
   ·cases h
  ·cases h
 ·cases h
theorem Zbi.val{fp:Nat->List Addr}(e:Zbi K F0 H0 F H r σ fp)(h:r[i]?=Z (Z (.ol ds))) :
  ∃l vs,σ[i]?=Z (Z (.ref l))/\H l=Z (.lst vs)/\Zs K F ds vs/\fp i=[l]:=by
 obtain⟨v,h1,h2⟩:=e.at_ i _ h;generalize hf:fp i=q at h2;cases h2 with
 | ol k1 k2=>exact⟨_,_,h1,k1,k2,rfl⟩
theorem At.chgList{es:List PyData}(e:At K F0 H0 F H r σ)(h:r[i]?=Z (Z (.ol ds))) :
  ∃l vs,σ[i]?=Z (Z (.ref l))/\H l=Z (.lst vs)/\Zs K F ds vs/\∀us,Zs K F es us->At K F0 H0 F (upd H l (.lst us)) (r.set i (Z (.ol es))) σ:=by
 obtain⟨fp,e⟩:=e;obtain⟨l,vs,h1,h2,h3,h4⟩:=e.val h;refine⟨l,vs,h1,h2,h3,λus q=>e.change (fp':=[l]) h1 (.ol Zy q) (by simp) (λa ha=>.inl (by rw[h4]; exact ha)) λa o z hn=>?_⟩;rw[Zx (λz=>hn (by rw[h4,z]; simp))];exact z
theorem Zfg(i:Nat){p3:Pos}(ha:XE X a fa)(hN:X.N[i]?=Z x:=by rfl)(hv:Vis X.env.scope x:=by first | exact ZAt rfl | exact Zz8 (ZAt rfl) | exact Zz8 (Zz8 rfl))(hd:(x==("__debug__":Str))=ZEO:=by decide)(hcd:(x==("__classdict__":Str))=ZEO:=by decide)
  (hbase:ZBM (.Name x p1) "append" X.env (eval (.Name x p1) X.env)=eval (.Name x p1) X.env:=by rfl)
  (hfew:((backTo p3 (ZzC [a] X.env)).all (λx=>!x.1)&&(ZDV p3 (ZCW [] X.env)).all (λx=>x.1.isSome)&&decide (([a]:List Expr).length+([]:List Keyword).length+(if([]:List Keyword).isEmpty then 0 else 1)<30))=ZEN:=by rfl)
  (hline:(p2.endLine==p3.line)=ZEN:=by rfl) (hs:ZzC [a] X.env=[(ZEO,eval a X.env)]:=by rfl):XS X (.Expr (.Call (.Attribute (.Name x p1) "append" p2) [a] [] p3) pos) (HM.ZeT i fa):=by
 intro r o h;unfold HM.ZeT at h;split at h
 ·rename_i ds hds
  split at h
  ·rename_i d hd'
   split at h
   ·rename_i hz
    cases h;refine PS.imp (Zhu (Zrt ZB9 ZDX ZDY Zjo (ZbQ hN hv hd hcd) (Zaa (ha r d hd') ZbJ hs) hbase hfew hline hs rfl)) λE σ H ⟨F0,H0,F,at_,k⟩=>?_;obtain⟨l,vs,e1,e2,e3,_⟩:=at_.chgList (es:=ds) hds;refine⟨.ref l,e1,.inl ⟨rfl,_,SqL.of e2⟩,F0,H0,F,at_,λv F1 H1 x1 r1=>?_⟩;have at1:=at_.grow x1;obtain⟨l',vs',f1,f2,f3,f4⟩:=at1.chgList (es:=ds++[d]) hds;rw[e1]at f1;cases f1;refine⟨_,vs',v,rfl,rfl,f2,?_,k _ F1 _ (f4 _ (f3.append (.one r1)))⟩;have e4:=f3.1;have e5:(1000000:Nat)<=sizeLine:=by decide
    unfold HM.big at hz;omega
   ·cases h
  ·cases h
 ·cases h
theorem ZuG(i:Nat)(hk:XE X b fb)(ha:XE X a fa)(hN:X.N[i]?=Z x:=by rfl)(hv:Vis X.env.scope x:=by first | exact ZAt rfl | exact Zz8 (ZAt rfl) | exact Zz8 (Zz8 rfl))(hd:(x==("__debug__":Str))=ZEO:=by decide)(hcd:(x==("__classdict__":Str))=ZEO:=by decide)
  (hsub:∀v,assign (.Subscript (.Name x p1) b p2) X.env v=(do
   let ov <-holding [v] (eval (.Name x p1) X.env)
   let iv <-holding [v,ov] (eval b X.env)
   standAt p2
   holding [v,ov,iv] (setItem ov iv v)
   release [v,ov,iv] []):=by intro _; rfl)
  (hs:swapsWithSole [.Subscript (.Name x p1) b p2] a pos.line X.env=pure ZEO:=by rfl) (hw:swappedStores [.Subscript (.Name x p1) b p2] a X.env=pure Z_:=by rfl)
  (h1:(ZCG [.Subscript (.Name x p1) b p2] X.env).map (·.2)=[assign (.Subscript (.Name x p1) b p2) X.env]:=by rfl):XS X (.Assign [.Subscript (.Name x p1) b p2] a pos) (HM.ZrE i fb fa):=by
 intro r o h;unfold HM.ZrE at h;split at h
 ·rename_i d hd'
  split at h
  ·rename_i ds hds
   split at h
   ·rename_i n hn
    split at h
    ·rename_i j hj
     cases h;refine PS.imp (ZwM (ha r d hd') (Zxr (ZbQ hN hv hd hcd) (hk r _ hn) set_list hsub) hs hw h1) λE σ H ⟨F0,H0,F,at_,k⟩=>?_;refine⟨F0,H0,F,at_,λv F1 H1 x1 r1=>?_⟩;have at1:=at_.grow x1;obtain⟨l,vs,e1,e2,e3,_⟩:=at1.chgList (es:=ds) hds;refine⟨.ref l,e1,F0,H0,F1,at1,λw F2 H2 x2 r2=>?_⟩;obtain⟨l',vs',f1,f2,f3,f4⟩:=(at1.grow x2).chgList (es:=ds.set j d) hds;rw[e1]at f1;cases f1;refine⟨_,vs',n,j,rfl,r2.int_inv,f2,?_,k _ F2 _ (f4 _ (f3.set (r1.mono x2.ff) j))⟩;rw[<-f3.1];exact hj
    ·cases h
   ·cases h
  ·cases h
 ·cases h
end
end HP
namespace HP
open PySem PySem.Spec PyProof.Rows L2
variable[FX]
section
variable{K:Zzx}{F:Hp}{κ:Type}[DecidableEq κ]
def ZaM(K:Zzx)(F:Hp)(kvs:List (κ × PyData))(vvs:List (κ × V)):Prop:=kvs.map (·.1)=vvs.map (·.1)/\Zs K F (kvs.map (·.2)) (vvs.map (·.2))
theorem ZaM.nil:ZaM K F ([]:List (κ × PyData)) []:=⟨rfl,.nil⟩
theorem ZaM.cons{k:κ}{d:PyData}{v:V}{kvs:List (κ × PyData)}{vvs:List (κ × V)}(r:Rep K F d v)(q:ZaM K F kvs vvs):ZaM K F ((k,d)::kvs) ((k,v)::vvs) :=
 ⟨by rw[ZzG,ZzG,q.1],by rw[ZzG,ZzG]; exact .cons r q.2⟩
theorem ZaM.inv{kvs:List (κ × PyData)}{vvs:List (κ × V)}(q:ZaM K F kvs vvs):(kvs=[]/\vvs=[])\/∃k d v kvs' vvs',kvs=(k,d)::kvs'/\vvs=(k,v)::vvs'/\Rep K F d v/\ZaM K F kvs' vvs':=by
 cases kvs with
 | nil =>
  cases vvs with
  | nil=>exact .inl ⟨rfl,rfl⟩
  | cons p r=>exact absurd q.1 (by simp)
 | cons p kvs' =>
  cases vvs with
  | nil=>exact absurd q.1 (by simp)
  | cons p' vvs' =>
   obtain⟨k,d⟩:=p;obtain⟨k',v⟩:=p';obtain⟨q1,q2⟩:=q;rw[ZzG,ZzG]at q1 q2;injection q1 with e1 e2
   have e1:k=k':=e1;subst e1;obtain⟨v',us,e3,r1,r2⟩:=q2.cons_inv;injection e3 with e3 e4
   refine .inr ⟨k,d,v,kvs',vvs',rfl,rfl,?_,e2,?_⟩
   ·rw[show v=v' from e3]; exact r1
   ·rw[e4]; exact r2
theorem ZaM.len{kvs:List (κ × PyData)}{vvs:List (κ × V)}(q:ZaM K F kvs vvs):kvs.length=vvs.length:=by
 have:=congrArg ZAg q.1
 rwa [Zzw,Zzw]at this
theorem ZaM.any{kvs:List (κ × PyData)}{vvs:List (κ × V)}(k:κ)(q:ZaM K F kvs vvs):(kvs.any λp=>decide (p.1=k))=vvs.any λp=>decide (p.1=k):=by
 have e:∀{β:Type} (l:List (κ × β)),(l.any λp=>decide (p.1=k))=(l.map (·.1)).any λx=>decide (x=k):=λl=>by rw[List.any_map]; rfl
 rw[e,e,q.1]
theorem ZaM.repl{d:PyData}{v:V}(k:κ)(r:Rep K F d v):∀{kvs:List (κ × PyData)} {vvs:List (κ × V)},ZaM K F kvs vvs->ZaM K F (kvs.map λp=>if p.1=k then(p.1,d)else p) (vvs.map λp=>if p.1=k then(p.1,v)else p)
 | [],vvs,q=>by
  rcases q.inv with⟨_,e⟩ | ⟨_,_,_,_,_,e,_⟩
  ·subst e; exact .nil
  ·cases e
 | p::kvs,vvs,q=>by
  rcases q.inv with⟨e,_⟩ | ⟨k',d',v',kvs',vvs',e1,e2,r1,r2⟩
  ·cases e
  ·cases e1
   subst e2;have ih:=ZaM.repl k r r2;rw[ZzG,ZzG]
   by_cases h:k'=k
   ·rw[if_pos h,if_pos h]; exact .cons r ih
   ·rw[if_neg h,if_neg h]; exact .cons r1 ih
theorem ZaM.snoc{kvs:List (κ × PyData)}{vvs:List (κ × V)}{k:κ}{d:PyData}{v:V}(q:ZaM K F kvs vvs)(r:Rep K F d v):ZaM K F (kvs++[(k,d)]) (vvs++[(k,v)]) :=
 ⟨by rw[Zz4,Zz4,q.1]; rfl,by rw[Zz4,Zz4]; exact q.2.append (.one r)⟩
theorem ZaM.put{kvs:List (κ × PyData)}{vvs:List (κ × V)}{d:PyData}{v:V}(q:ZaM K F kvs vvs)(k:κ)(r:Rep K F d v):ZaM K F (HM.putD kvs k d) (putK vvs k v):=by
 unfold HM.putD putK;rw[q.any k]
 by_cases h:(vvs.any λp=>decide (p.1=k))=ZEN
 ·rw[if_pos h,if_pos h]; exact q.repl k r
 ·rw[if_neg h,if_neg h]; exact q.snoc r
theorem ZaM.look{k:κ}:∀{kvs:List (κ × PyData)} {vvs:List (κ × V)},ZaM K F kvs vvs->(∀d,HM.Zj kvs k=Z d->∃v,ZaI vvs k=Z v/\Rep K F d v)/\(HM.Zj kvs k=Z_->ZaI vvs k=Z_)
 | [],vvs,q=>by
  rcases q.inv with⟨_,e⟩ | ⟨_,_,_,_,_,e,_⟩
  ·subst e; exact⟨λd h=>(by cases h),λ_=>rfl⟩
  ·cases e
 | p::kvs,vvs,q=>by
  rcases q.inv with⟨e,_⟩ | ⟨k',d',v',kvs',vvs',e1,e2,r1,r2⟩
  ·cases e
  ·cases e1
   subst e2;obtain⟨i1,i2⟩:=ZaM.look (k:=k) r2
   by_cases h:k'=k
   ·have e3:HM.Zj ((k',d')::kvs) k=Z d':=by simp[HM.Zj,ZAF,h]
    rw[e3,ZdT (p:=(k',v')) h];exact⟨λd hd=>(by cases hd; exact⟨v',rfl,r1⟩),λhd=>by cases hd⟩
   ·have e3:HM.Zj ((k',d')::kvs) k=HM.Zj kvs k:=by simp[HM.Zj,ZAF,h]
    rw[e3,ZdZ (p:=(k',v')) h];exact⟨i1,i2⟩
theorem ZaM.some_iff{k:κ}{kvs:List (κ × PyData)}{vvs:List (κ × V)}(q:ZaM K F kvs vvs):(ZaI vvs k).isSome=(HM.Zj kvs k).isSome:=by
 obtain⟨i1,i2⟩:=q.look (k:=k);cases h:HM.Zj kvs k with
 | none=>rw[i2 h]; rfl
 | some d=>obtain⟨v,h1,_⟩:=i1 d h; rw[h1]; rfl
end
section
variable{K:Zzx}{F:Hp}
theorem Zif{d:PyData}{k:Key}{v:V}(h:HM.Zi2 d=Z k)(r:Rep K F d v):v=kV k:=by cases r<;>first | (cases h; rfl) | cases h
theorem Zmw:∀{ds:List PyData} {ks:List Key} {vs:List V},HM.ZgD ds=Z ks->Zs K F ds vs->vs=ks.map kV
 | [],ks,vs,h,r=>by cases h; exact r.nil_inv
 | d::ds,ks,vs,h,r=>by
  obtain⟨v,us,rfl,r1,r2⟩:=r.cons_inv;unfold HM.ZgD at h;split at h
  ·rename_i k hk
   obtain⟨ks',h1,h2⟩:=Zzy.mp h;subst h2;rw[Zif hk r1,Zmw h1 r2];rfl
  ·cases h
theorem Zqs:∀{ds:List PyData} {ks:List Key},HM.ZlA ds=Z ks->HM.ZgD ds=Z ks
 | [],ks,h=>h
 | d::ds,ks,h=>by
  unfold HM.ZlA at h;split at h
  ·cases ‹_=[]›
  ·rename_i i r e
   injection e with e1 e2
   subst e1 e2;obtain⟨ks',h1,h2⟩:=Zzy.mp h;subst h2;show(match HM.Zi2 (.int i)with | some k=>(HM.ZgD ds).map (k::·) | none=>Z_)=_;rw[Zqs h1];rfl
  ·cases h
theorem Zdj{d:PyData}{ks:List Key}{v:V}(h:HM.Zbp d=Z ks)(r:Rep K F d v):∃b,v=.ref b/\F b=Z (.tup (ks.map kV)):=by
 cases r with
 | tup h1 h2 h3=>refine⟨_,rfl,?_⟩;rw[<-Zmw (Zqs h) ⟨h2,h3⟩];exact h1
 | tupk _=>cases h
 | lst _ _ _=>cases h
 | dct _ _ _ _=>cases h
 | fn _=>cases h
 | non=>cases h
 | bl _=>cases h
 | int _=>cases h
 | str _=>cases h
end
section
variable{X:Cx}{a b c e:Expr}{fa fb fc:HM.EF}{pos p:Pos}{f:HM.BF}
theorem fresh_one{K:Zzx}{F H F1 H1:Hp}{o:HO}{q:HM.B}{l:Addr}{P:V->Hp->Hp->Prop}(x1:Ext F H F1 H1)(hl:H1 l=Z_)(hq:Zag K F1 (upd H1 l o) q (.ref l) [l])
  (k:∀v F' H',Ext F H F' H'->(∃fp,Zag K F' H' q v fp/\fp.Nodup/\∀a∈fp,F' a=Z_/\H a=Z_)->P v F' H'):P (.ref l) F1 (upd H1 l o):=by
 refine k _ F1 _ (x1.lay' hl) ⟨[l],hq,by simp,λa ha=>?_⟩;obtain rfl:a=l:=by simpa using ha
 exact⟨x1.sub.free hl,x1.hh.free hl⟩
theorem ZxH:XF X (.Dict [] [] pos) HM.fDk:=by intro r d h;cases h;exact PE.imp Zuk λσ H Q ⟨F0,H0,F,at_,k⟩ l hl=>fresh_one (P:=λv _ H'=>Q v H') at_.refl hl (.ok Zy rfl .nil) k
theorem ZmX:XF X (.Dict [] [] pos) HM.fDt:=by intro r d h;cases h;exact PE.imp Zoa λσ H Q ⟨F0,H0,F,at_,k⟩ l hl=>fresh_one (P:=λv _ H'=>Q v H') at_.refl hl (.ot Zy rfl .nil) k
theorem ZvY:XF X (.Dict [] [] pos) HM.Zxv:=by intro r d h;cases h;exact PE.imp Zoa λσ H Q ⟨F0,H0,F,at_,k⟩ l hl=>fresh_one (P:=λv _ H'=>Q v H') at_.refl hl (.otl Zy rfl rfl λi ds l' h=>by simp at h) k
theorem Zs4(ha:XE X a fa)(hb:XE X b fb):XF X (.Dict [Z a] [b] pos) (HM.ZnT fa fb):=by
 intro r d h;unfold HM.ZnT at h;split at h
 ·rename_i x hx
  split at h
  ·rename_i y hy
   split at h
   ·rename_i k hk
    cases h;refine PE.imp (Zu0 (Zup (ha r x hx) (hb r y hy) Zvq) rfl rfl (by simp) (by simp)) λσ H Q ⟨F0,H0,F,at_,kk⟩ l hl=>?_;have hFl:F l=Z_:=at_.sub.free hl;have x0:Ext F H F (upd H l (.dK [])):=at_.refl.lay' hl;refine⟨F0,H0,F,at_.grow x0,λv F1 H1 x1 r1=>⟨F0,H0,F1,(at_.grow x0).grow x1,λw F2 H2 x2 r2=>?_⟩⟩;have x12:=x1.trans x2;have hl2:H2 l=Z (.dK []):=x12.hh l _ Zy;have hF2:F2 l=Z_:=by
     cases q:F2 l with
     | none=>rfl
     | some o =>
      rcases x12.new l o q with z | z
      ·rw[hFl]at z; cases z
      ·exact(z.no Zy λ_ q=>by cases q).elim
    refine⟨hl2,[(k,w)],?_,by simp,?_⟩
    ·rw[Zif hk r1]
     rfl
    have xe:Ext F H F2 (upd H2 l (.dK (Zhr [] [(k,w)]))):=by
     refine⟨x12.ff,λc o z=>?_,λc o z=>?_,λc o z=>?_,λt=>(x12.tab (t.same (Zkt hl))).keep λa u z hu=>?_,x12.nts⟩
     ·have hc:c≠l:=Zas z hl
      exact(x12.hh c o (by rw[Zx hc]; exact z)).cong (Zx hc)
     ·rw[Zx (λe=>by rw[e,hF2]at z; cases z)]
      exact x12.sub c o z
     ·rcases x12.new c o z with q | q
      ·exact .inl q
      ·exact .inr (q.back (.of (Zq.upd' hl)))
     ·rw[Zx (λe=>by subst e; rw[hl2]at z; cases z; cases hu)]; exact z
    refine kk _ F2 _ xe ⟨[l],.ok Zy rfl (.one r2),by simp,λc hc=>?_⟩;obtain rfl:c=l:=by simpa using hc
    exact⟨hF2,hl⟩
   ·cases h
  ·cases h
 ·cases h
end
end HP
namespace HP
open PySem PySem.Spec PyProof.Rows L2
variable{q:HM.B}{r:HM.Env}{F H:Hp}{i:Nat}{p1:Pos}{K:Zzx}{x:Str}
variable[FX]
theorem At.chgOne{F0 H0:Hp}{σ:L2.St}{l:Addr}(e:At K F0 H0 F H r σ)(h:r[i]?=Z (Z q))(hv:σ[i]?=Z (Z (.ref l)))(hone:∀v fp,Zag K F H q v fp->∃a,v=.ref a/\fp=[a]) :
  ∀o q',Zag K F (upd H l o) q' (.ref l) [l]->At K F0 H0 F (upd H l o) (r.set i (Z q')) σ:=by
 intro o q' hq;obtain⟨fp,e⟩:=e;obtain⟨v,h1,h2⟩:=e.at_ i _ h;obtain⟨a,e1,e2⟩:=hone v _ h2;subst e1;rw[hv]at h1;cases h1;refine e.change (fp':=[l]) hv hq (by simp) (λc hc=>.inl (by rw[e2]; exact hc)) λc o' z hn=>?_;rw[Zx (λz=>hn (by rw[e2,z]; simp))];exact z
section
variable{X:Cx}{a b c e:Expr}{fa fb fc:HM.EF}{pos p:Pos}{f:HM.BF}
theorem Zhq{n:Nat}(h:n<HM.big):n<sizeLine:=by
 have e5:(1000000:Nat)<=sizeLine:=by decide
 unfold HM.big at h;omega
theorem Zf7(hu:X.A.units+1<cLine)(i:Nat){p2:Pos}(hk:XE X b fb)(ha:XE X a fa)(hN:X.N[i]?=Z x:=by rfl)(hv:Vis X.env.scope x:=by first | exact ZAt rfl | exact Zz8 (ZAt rfl) | exact Zz8 (Zz8 rfl))(hd:(x==("__debug__":Str))=ZEO:=by decide)(hcd:(x==("__classdict__":Str))=ZEO:=by decide)
  (hs:ZBG a (Z (.Subscript (.Name x p1) b p2)) pos.line X.env=pure ZEO:=by rfl):XS X (.Assign [.Subscript (.Name x p1) b p2] a pos) (HM.Zg6 i fb fa):=by
 intro r o h;unfold HM.Zg6 at h;split at h
 ·rename_i d hd'
  split at h
  ·rename_i y hy
   split at h
   ·rename_i kvs hb
    split at h
    ·rename_i k hk'
     split at h
     ·rename_i hz
      cases h;refine PS.imp (Zqm hu (ZbQ hN hv hd hcd) (hk r y hy) (ha r d hd') hs) λE σ H ⟨F0,H0,F,at_,kk⟩=>?_;refine⟨F0,H0,F,at_,λv F1 H1 x1 r1=>?_⟩;have at1:=at_.grow x1;obtain⟨u,fp,e1,e2⟩:=at1.any hb;refine⟨u,e1,F0,H0,F1,at1,λw F2 H2 x2 r2=>?_⟩;have at2:=at1.grow x2;cases e2 with
      | @ok l _ vvs e2 e3 e4=>have T:ZaM X.K F2 kvs vvs:=⟨e3,e4.mono x2.ff⟩;have T':=T.put k (r1.mono x2.ff);rw[Zif hk' r2];have hH:H2 l=Z (.dK vvs):=x2.hh _ _ e2;refine⟨l,_,rfl,Zi9.k hH (by rw[<-T.len]; exact Zhq hz),kk _ F2 _ (at2.chgOne hb e1 (λv fp q=>by cases q; exact⟨_,rfl,rfl⟩) _ _ (.ok Zy T'.1 T'.2))⟩
     ·cases h
    ·cases h
   ·rename_i kvs hb
    split at h
    ·rename_i k hk'
     split at h
     ·rename_i hz
      cases h;refine PS.imp (Zqm hu (ZbQ hN hv hd hcd) (hk r y hy) (ha r d hd') hs) λE σ H ⟨F0,H0,F,at_,kk⟩=>?_;refine⟨F0,H0,F,at_,λv F1 H1 x1 r1=>?_⟩;have at1:=at_.grow x1;obtain⟨u,fp,e1,e2⟩:=at1.any hb;refine⟨u,e1,F0,H0,F1,at1,λw F2 H2 x2 r2=>?_⟩;have at2:=at1.grow x2;cases e2 with
      | @ot l _ vvs e2 e3 e4=>have T:ZaM X.K F2 kvs vvs:=⟨e3,e4.mono x2.ff⟩;have T':=T.put k (r1.mono x2.ff);obtain⟨bb,rfl,hbb⟩:=Zdj hk' r2;have hH:H2 l=Z (.dT vvs):=x2.hh _ _ e2;refine⟨l,_,rfl,Zi9.t hH (x2.sub _ _ hbb) (by rw[<-T.len]; exact Zhq hz),kk _ F2 _ (at2.chgOne hb e1 (λv fp q=>by cases q; exact⟨_,rfl,rfl⟩) _ _ (.ot Zy T'.1 T'.2))⟩
     ·cases h
    ·cases h
   ·cases h
  ·cases h
 ·cases h
theorem ZkI{K:Zzx}{F H:Hp}(k:List Key):∀(kvs:List (List Key × List PyData)) (vvs:List (List Key × V)) (ls:List Addr),kvs.map (·.1)=vvs.map (·.1)->vvs.map (·.2)=ls.map V.ref ->
  (∀(i:Nat) (ds:List PyData) (l:Addr),(kvs.map (·.2))[i]?=Z ds->ls[i]?=Z l->∃vs,H l=Z (.lst vs)/\Zs K F ds vs) ->
  (∀ds,HM.Zj kvs k=Z ds->∃l' vs,ZaI vvs k=Z (.ref l')/\l'∈ls/\H l'=Z (.lst vs)/\Zs K F ds vs)/\(HM.Zj kvs k=Z_->ZaI vvs k=Z_)
 | [],[],_,_,_,_=>⟨(λds h=>by cases h),λ_=>rfl⟩
 | [],_::_,_,hk,_,_=>by simp at hk
 | _::_,[],_,hk,_,_=>by simp at hk
 | _::_,_::_,[],_,hv,_=>by simp at hv
 | (k1,ds1)::kvs,(k2,v2)::vvs,l1::ls,hk,hv,r=>by
  rw[ZzG,ZzG]at hk hv;injection hk with e1 e2
  injection hv with e3 e4
  have e1:k1=k2:=e1;have e3:v2=.ref l1:=e3;subst e1 e3;obtain⟨i1,i2⟩:=ZkI k kvs vvs ls e2 e4 λi ds l h1 h2=>r (i+1) ds l (by simpa using h1) (by simpa using h2)
  by_cases hkk:k1=k
  ·have e5:HM.Zj ((k1,ds1)::kvs) k=Z ds1:=by simp[HM.Zj,ZAF,hkk]
   rw[e5,ZdT (p:=(k1,V.ref l1)) hkk];obtain⟨vs,q1,q2⟩:=r 0 ds1 l1 rfl rfl;exact⟨(λds h=>by cases h; exact⟨l1,vs,rfl,by simp,q1,q2⟩),(λh=>by cases h)⟩
  ·have e5:HM.Zj ((k1,ds1)::kvs) k=HM.Zj kvs k:=by simp[HM.Zj,ZAF,hkk]
   rw[e5,ZdZ (p:=(k1,V.ref l1)) hkk];exact⟨λds h=>let ⟨l',vs,a1,a2,a3⟩:=i1 ds h; ⟨l',vs,a1,ZzD _ a2,a3⟩,i2⟩
theorem ZtF{kvs:List (List Key × List PyData)}{v:V}{fp:List Addr}(q:Zag K F H (.otl kvs) v fp) :
  ∃l vvs ls,v=.ref l/\fp=l::ls/\H l=Z (.dT vvs)/\kvs.map (·.1)=vvs.map (·.1)/\vvs.map (·.2)=ls.map V.ref /\
   ∀k,(∀ds,HM.Zj kvs k=Z ds->∃l' vs,ZaI vvs k=Z (.ref l')/\l'∈ls/\H l'=Z (.lst vs)/\Zs K F ds vs)/\(HM.Zj kvs k=Z_->ZaI vvs k=Z_):=by
 cases q with
 | @otl l _ vvs ls h hk hv r=>exact⟨l,vvs,ls,rfl,rfl,h,hk,hv,λk=>ZkI k kvs vvs ls hk hv r⟩
theorem Ztn(h:HM.ZrC i fa r=Z q):∃x bb,fa r=Z x/\r[i]?=Z (Z bb) /\
  ((∃kvs k d,bb=.ok kvs/\HM.Zi2 x=Z k/\HM.Zj kvs k=Z d/\q=.pl d)\/(∃kvs k d,bb=.ot kvs/\HM.Zbp x=Z k/\HM.Zj kvs k=Z d/\q=.pl d)\/∃kvs k ds,bb=.otl kvs/\HM.Zbp x=Z k/\HM.Zj kvs k=Z ds/\q=.ol ds):=by
 unfold HM.ZrC at h;split at h
 ·rename_i x hx
  split at h
  ·rename_i kvs hb
   split at h
   ·rename_i k hk
    obtain⟨d,h1,h2⟩:=Zzy.mp h;exact⟨x,_,hx,hb,.inl ⟨kvs,k,d,rfl,hk,h1,h2.symm⟩⟩
   ·cases h
  ·rename_i kvs hb
   split at h
   ·rename_i k hk
    obtain⟨d,h1,h2⟩:=Zzy.mp h;exact⟨x,_,hx,hb,.inr (.inl ⟨kvs,k,d,rfl,hk,h1,h2.symm⟩)⟩
   ·cases h
  ·rename_i kvs hb
   split at h
   ·rename_i k hk
    obtain⟨d,h1,h2⟩:=Zzy.mp h;exact⟨x,_,hx,hb,.inr (.inr ⟨kvs,k,d,rfl,hk,h1,h2.symm⟩)⟩
   ·cases h
  ·cases h
 ·cases h
theorem ZvZ(hu:X.A.units+1<cLine)(i:Nat)(hk:XE X b fb)(hN:X.N[i]?=Z x:=by rfl)(hv:Vis X.env.scope x:=by first | exact ZAt rfl | exact Zz8 (ZAt rfl) | exact Zz8 (Zz8 rfl))(hd:(x==("__debug__":Str))=ZEO:=by decide)(hcd:(x==("__classdict__":Str))=ZEO:=by decide)
  (hs:ZqY b:=by intro _ _; rfl):XB X (.Subscript (.Name x p1) b pos) (HM.ZrC i fb):=by
 intro r q h;obtain⟨y,bb,h1,h2,h3⟩:=Ztn h;refine PE.imp (Zqa hu (ZbQ hN hv hd hcd) (hk r y h1) hs) λσ H Q ⟨F0,H0,F,at_,kk⟩=>?_;obtain⟨u,fp,e1,e2⟩:=at_.any h2;refine⟨u,e1,F0,H0,F,at_,λw F2 H2 x2 r2=>?_⟩;have e2':=e2.mono x2.ff λ_ _ _ z=>x2.hh _ _ z;rcases h3 with⟨kvs,k,d,rfl,hk',hl,rfl⟩ | ⟨kvs,k,d,rfl,hk',hl,rfl⟩ | ⟨kvs,k,ds,rfl,hk',hl,rfl⟩
 ·cases e2' with
  | @ok l _ vvs g1 g2 g3=>obtain⟨v,q1,q2⟩:=(ZaM.look (k:=k) (K:=X.K) (F:=F2) ⟨g2,g3⟩).1 d hl;rw[Zif hk' r2];exact⟨l,v,rfl,by rw[<-q1]; exact Zdo.k g1,kk v F2 H2 x2 ⟨[],.pl q2⟩⟩
 ·cases e2' with
  | @ot l _ vvs g1 g2 g3=>obtain⟨v,q1,q2⟩:=(ZaM.look (k:=k) (K:=X.K) (F:=F2) ⟨g2,g3⟩).1 d hl;obtain⟨bb',rfl,hbb⟩:=Zdj hk' r2;exact⟨l,v,rfl,by rw[<-q1]; exact Zdo.t g1 (x2.sub _ _ hbb),kk v F2 H2 x2 ⟨[],.pl q2⟩⟩
 ·obtain⟨l,vvs,ls,rfl,_,g1,_,_,hlk⟩:=ZtF e2'
  obtain⟨l',vs,q1,_,q2,q3⟩:=(hlk k).1 ds hl;obtain⟨bb',rfl,hbb⟩:=Zdj hk' r2;exact⟨l,_,rfl,by rw[<-q1]; exact Zdo.t g1 (x2.sub _ _ hbb),kk _ F2 H2 x2 ⟨[l'],.ol q2 q3⟩⟩
end
end HP
namespace HP
open PySem PySem.Spec PyProof.Rows L2
variable{p:Addr}{env:Env}{r:HM.Env}{F F0 H H0:Hp}{σ:L2.St}{K:Zzx}{scope:Scope}
variable[FX]
abbrev No:Value->Shared->Prop:=λ_ _=>False
abbrev Zqg(ifs:List Expr)(env:Env):Sem Bool :=
 forIn ifs ZEN λc r=>if r=ZEN then do let ok <-isTrue c env (eval c env); pure (ZDa ok)else pure (ZDa r)
theorem Zr8{prog:Program}{w:World}{A:Around}{R:Result->Shared->Prop}{s:Shared}{elt target iter:Expr}{ifs:List Expr}{pos:Pos}{it acc:Value}(J:Nat->Shared->Prop)
  (turn:∀n s,J n s->wpAny (model prog w) A (pyNext it) (λr s1=>match r with
   | none=>R (.ok .next) s1
   | some v=>wpAny (model prog w) A (ZC7 target it v) (λ_ s2=>wpAny (model prog w) A (assign target env v) (λ_ s3=>wpAny (model prog w) A (Zqg ifs env) (λok s4=>if ok=ZEN then wpAny (model prog w) A (eval elt env) (λx s5=>wpAny (model prog w) A (call (.builtin "list.append") [acc,x]) (λ_ s6=>∃m,m<n/\J m s6) No s5) No s4 else ∃m,m<n/\J m s4) No s3) No s2) No s1) No s)
  (n:Nat) (h:J n s):codeAny (model prog w) A (.compLoop (.ListComp elt [⟨target,iter,ifs,0⟩] scope pos) 0 it acc env) R s:=by
 refine codeAny_loop rfl J (λn s hI=>?_) n h;show wpAny _ A ((compTurn (.ListComp elt [⟨target,iter,ifs,0⟩] scope pos) 0 it acc env).onRaise (λx=>do noteFrame x env; theTreesLotGoes x)) _ _ s;refine wpAny_noted ?_;rw[compTurn_list];refine Zzv (wpAny_standAt (Zzv (ZAD (turn n s hI) (λr s1 h1=>?_) λ_ _ z=>z.elim)));cases r with
 | none=>exact Zzz h1
 | some v =>
  refine Zzv (ZAD h1 (λ_ s2 h2=>Zzv (ZAD h2 (λ_ s3 h3=>Zzv (ZAD h3 (λok s4 h4=>?_) λ_ _ z=>z.elim)) λ_ _ z=>z.elim)) λ_ _ z=>z.elim);cases ok with
  | false=>exact Zzz ⟨rfl,h4⟩
  | true=>refine Zzv (Zzv (ZAD h4 (λx s5 h5=>?_) λ_ _ z=>z.elim));exact Zzv (ZAD h5 (λ_ s6 h6=>Zzz (Zzz ⟨rfl,h6⟩)) λ_ _ z=>z.elim)
def ZQ(X:Cx)(N:List Str)(scope:Scope)(cl:List (Str × Addr))(C:Addr)(s₀:Shared)(H₀:Hp)(ex:List Addr):Cx where
 prog:=X.prog
 w:=X.w
 K:=X.K
 mg:=X.mg
 base:=X.base
 A:=X.A
 N:=N
 s₀:=s₀
 H₀:=H₀
 env:=compEnvC scope cl C X.env
 outer:=X.stack
 stack:=X.stack
 ex:=ex
 fn:=λ_=>ZEO
 calm:=ZEN
 pn:=[]
 xe:=λ_ _=>False
theorem Zie{env:Env}:∀(names:List (Str × NameKind)) (cs:List (Str × Addr)),(∀y∈names,y.2=.free->∃c,env.cells.lookup y.1=Z c)->(∀x c,cs.lookup x=Z c->env.cells.lookup x=Z c) ->
  ∃cl,(forIn names cs λ(x:Str × NameKind) r=>(match x with | (name,kind)=>if kind==.free then do let c <-cellOf env name; pure (ZDa ((name,c)::r))else pure (ZDa r):Sem (ForInStep (List (Str × Addr)))))=pure cl /\
   (∀x c,cl.lookup x=Z c->env.cells.lookup x=Z c)/\(∀x,(cs.lookup x).isSome=ZEN->(cl.lookup x).isSome=ZEN)/\∀y∈names,y.2=.free->(cl.lookup y.1).isSome=ZEN
 | [],cs,_,h2=>⟨cs,rfl,h2,λ_ h=>h,λy hy=>by simp at hy⟩
 | (n,k)::r,cs,h1,h2=>by
  rw[List.forIn_cons]
  by_cases hk:(k==ZBO)=ZEN
  ·obtain⟨c,hc⟩:=h1 (n,k) (ZzB ..) (by simpa using hk)
   have ec:cellOf env n=pure c:=by unfold cellOf; rw[hc]
   obtain⟨cl,e1,e2,e3,e4⟩:=Zie r ((n,c)::cs) (λy hy=>h1 y (ZzD _ hy)) (λx d hx=>by
    rw[ZBj]at hx;split at hx
    ·rename_i hb
     have:x=n:=by simpa using hb
     cases hx; rw[this]; exact hc
    ·exact h2 x d hx)
   refine⟨cl,?_,e2,λx hx=>e3 x ?_,λy hy hf=>?_⟩
   ·simp only[hk,if_true,ec,pure_bind]
    exact e1
   ·rw[ZBj]
    split
    ·rfl
    ·exact hx
   ·rcases ZzK.mp hy with e | hy
    ·subst e
     exact e3 n (by rw[ZBj]; simp)
    ·exact e4 y hy hf
  ·obtain⟨cl,e1,e2,e3,e4⟩:=Zie r cs (λy hy=>h1 y (ZzD _ hy)) h2
   refine⟨cl,?_,e2,e3,λy hy hf=>?_⟩
   ·simp only[hk,if_false,pure_bind,ZA7]
    exact e1
   ·rcases ZzK.mp hy with e | hy
    ·subst e
     exact absurd (by simpa using hf) hk
    ·exact e4 y hy hf
theorem ZfE(h:∀y∈scope.names,y.2=.free->∃c,env.cells.lookup y.1=Z c) :
  ∃cl,closureFor scope env=pure cl/\(∀x c,cl.lookup x=Z c->env.cells.lookup x=Z c)/\∀y∈scope.names,y.2=.free->(cl.lookup y.1).isSome=ZEN:=by
 obtain⟨cl,e1,e2,_,e4⟩:=Zie (env:=env) scope.names [] h (λx c hx=>by simp at hx);refine⟨cl,?_,e2,e4⟩;unfold closureFor;exact(congrArg (λm:Sem (List (Str × Addr))=>m >>= λcs=>pure cs) e1).trans (pure_bind cl λcs=>pure cs)
theorem Ext.chg{F' H':Hp}(x:Ext F H F' H')(o:HO)(h1:H p=Z_)(h2:F' p=Z_)(h3:∀u,H' p=Z u->ZlG u=ZEN):Ext F H F' (upd H' p o) :=
 ⟨x.ff,λb q z=>by
  have hb:b≠p:=Zas z h1;have y:=x.hh b q z;unfold Zc5 at y ⊢;rw[Zx hb];exact y,λb q z=>by rw[Zx (Zas z h2)]; exact x.sub b q z,x.new,λt=>(x.tab t).keep λa u z hu=>by
   have ha:a≠p:=λe=>by subst e; exact Zsm (h3 u z) hu
   rw[Zx ha]; exact z,x.nts⟩
theorem At.push{d:PyData}{v:V}(e:At K F0 H0 F H r σ)(q:Rep K F d v):At K F0 H0 F H (Z (.pl d)::r) (Z v::σ):=by
 obtain⟨fp,e⟩:=e;refine⟨λi=>match i with | 0=>[] | i+1=>fp i,e.ext,by rw[ZzS,ZzS,e.len],λi b h=>?_,λi h=>?_,λi a h=>?_,λi=>?_,λi j a hij h=>?_,e.tb,e.nt⟩
 ·cases i with
  | zero=>rw[ZBC]at h;cases h;exact⟨v,rfl,.pl q⟩
  | succ i=>rw[ZAf]at h;obtain⟨u,h1,h2⟩:=e.at_ i b h;exact⟨u,by rw[ZAf]; exact h1,h2⟩
 ·cases i with
  | zero=>rfl
  | succ i=>exact e.emp i λb z=>h b (by rw[ZAf]; exact z)
 ·cases i with
  | zero=>simp at h
  | succ i=>exact e.own i a h
 ·cases i with
  | zero=>exact ZBc
  | succ i=>exact e.nd i
 ·cases i with
  | zero=>simp at h
  | succ i =>
   cases j with
   | zero=>simp
   | succ j=>exact e.dis i j a (by omega) h
theorem At.chgNew(o:HO){Hs Fs:Hp}(e:At K F0 H0 F H r σ)(es:At K F0 H0 Fs Hs r σ)(hs:Zax Hs H)(h1:Hs p=Z_)(h2:F p=Z_)(h3:∀u,H p=Z u->ZlG u=ZEN):At K F0 H0 F (upd H p o) r σ:=by
 obtain⟨fp,e⟩:=e;obtain⟨fq,es⟩:=es;have hp:∀i,¬p∈fp i:=λi hm=>by
  obtain⟨b,hb⟩:=e.bound hm;obtain⟨v,q1,q2⟩:=e.at_ i b hb;obtain⟨v',q3,q4⟩:=es.at_ i b hb;rw[q1]at q3;cases q3;generalize fp i=f1 at q2 hm;generalize fq i=f2 at q4;cases q2 with
  | pl _=>simp at hm
  | hd _ _ _ _=>simp at hm
  | hf _=>simp at hm
  | ol k _=>cases q4 with | ol k' _=>simp at hm; subst hm; rw[h1]at k'; cases k'
  | ok k _ _=>cases q4 with | ok k' _ _=>simp at hm; subst hm; rw[h1]at k'; cases k'
  | ot k _ _=>cases q4 with | ot k' _ _=>simp at hm; subst hm; rw[h1]at k'; cases k'
  | otl k _ v1 _ =>
   cases q4 with
   | otl k' hk' v2 r2' =>
    have eo:=hs.back k' k λ_ z=>by cases z
    cases eo;have v2':=v2;rw[v1]at v2;rcases ZzK.mp hm with z2 | z2
    ·subst z2; rw[h1]at k'; cases k'
    ·have:V.ref p∈ZBN V.ref _:=ZzI.mpr ⟨p,z2,rfl⟩
     rw[v2]at this;obtain⟨a',m1,m2⟩:=ZzI.mp this;injection m2 with m2
     subst m2;obtain⟨o,ho⟩:=Zag.there (Zag.otl k' hk' v2' r2') (ZzD _ m1);rw[h1]at ho; cases ho
 have hH0:H0 p=Z_:=es.ext.hh.free h1;refine⟨fp,e.ext.chg o hH0 h2 h3,e.len,λi b h=>?_,e.emp,e.own,e.nd,e.dis,e.tb,e.nt⟩;obtain⟨v,q1,q2⟩:=e.at_ i b h;refine⟨v,q1,q2.mono (Zq.refl F) λa ha o' z=>?_⟩;have hne:a≠p:=λe=>hp i (by rw[<-e]; exact ha);exact .of (by rw[Zx hne]; exact z)
end HP
namespace HP
open PySem PySem.Spec PyProof.Rows L2
variable{Y:Cx}{H H1:Hp}{σ:L2.St}{pins:List (Addr × Obj)}{fp:List Addr}{s s2:Shared}
variable[FX]
structure Zdx(X:Cx)(N:List Str)(scope:Scope)(fr:List Str):Prop where
 kind:scope.kind=.function
 cell:∀y∈scope.names,y.2≠.cell
 names:∀y∈scope.names,y.2=.local->scope.names.lookup y.1=Z .local
 loc:∀x∈fr,scope.names.lookup x=Z .local
 first:∀(i:Nat) (x:Str),fr[i]?=Z x->N[i]?=Z x
 nd:N.Nodup
 len:N.length=X.N.length+fr.length
 cap:∀y∈scope.names,y.2=.free->X.env.kindOf y.1=Z .cell\/X.env.kindOf y.1=Z .free
 same:∀(i:Nat) (y:Str),N[i+fr.length]?=Z y->scope.names.lookup y=Z .free->X.N[i]?=Z y
 vis:∀(i:Nat) (y:Str),N[i+fr.length]?=Z y->Vis scope y->scope.names.lookup y=Z .free
def goG(dec:PyData->Option (List PyData))(c:HM.TF)(e:HM.EF)(r:HM.Env):List PyData->Option (List PyData)
 | []=>Z []
 | x::xs=>match dec x with
  | some ys=>match c (ys.map (λd=>Z (HM.B.pl d))++r)with
   | some ZEN=>match e (ys.map (λd=>Z (HM.B.pl d))++r)with
    | some y=>(goG dec c e r xs).map (y::·)
    | none=>Z_
   | some ZEO=>goG dec c e r xs
   | none=>Z_
  | none=>Z_
def Zfq(dec:PyData->Option (List PyData))(i:HM.IF)(c:HM.TF)(e:HM.EF):HM.BF:=λr=>match i r with
 | some xs=>if xs.length<HM.big then(goG dec c e r xs).map λys=>HM.B.ol ys else Z_
 | none=>Z_
def Zji(Y:Cx)(m:Nat)(tg:Expr)(dec:PyData->Option (List PyData)):Prop:=∀(pins:List (Addr × Obj)) (s:Shared) (σ:L2.St) (sv:List (Option V)) (H F:Hp) (d:PyData) (ys:List PyData) (xv:V) (u:Value),sv.length=m->Inv Y pins (sv++σ) H s->RelV xv u->Zq F H->Rep Y.K F d xv->dec d=Z ys ->
 wpAny (model Y.prog Y.w) Y.A (assign tg Y.env u) (λ_ s'=>∃vs:List V,vs.length=m/\Inv Y pins (vs.map Z++σ) H s'/\Zs Y.K F ys vs) Y.xe s
theorem At.pushes{K:Zzx}{F0 H0 F H:Hp}{r:HM.Env}{σ:L2.St}:∀{ds:List PyData} {vs:List V},At K F0 H0 F H r σ->Zs K F ds vs->At K F0 H0 F H (ds.map (λd=>Z (HM.B.pl d))++r) (vs.map Z++σ)
 | [],vs,e,q=>by rw[q.nil_inv];exact e
 | d::ds,vs,e,q=>by obtain⟨v,us,rfl,r1,r2⟩:=q.cons_inv;exact(At.pushes e r2).push r1
section
variable{X:Cx}{N:List Str}{scope:Scope}{fr:List Str}{cl:List (Str × Addr)}{C:Addr}
theorem Zbw{env:Env}{y:Str}{k:NameKind}:∀{names:List (Str × NameKind)},(names.map λ(n,k)=>if(k==ZBO&&env.scope.kind==.function&&env.kindOf n==Z .cell)then(n,NameKind.cell)else(n,k)).lookup y=Z k ->
  names.lookup y=Z k\/(k=.cell/\names.lookup y=Z .free)
 | [],h=>by simp at h
 | (n,k')::r,h=>by
  have ih:=@Zbw env y k r;rw[ZzG]at h;dsimp only at h
  by_cases hc:(k'==ZBO&&env.scope.kind==.function&&env.kindOf n==Z .cell)=ZEN
  ·rw[if_pos hc,ZBj]at h
   rw[ZBj];split at h
   ·cases h
    refine .inr ⟨rfl,?_⟩;have:(k'==ZBO)=ZEN:=by rw[ZzW,ZzW]at hc;exact hc.1.1
    rw[show k'=ZBO by simpa using this]
   ·exact ih h
  ·rw[if_neg hc,ZBj]at h
   rw[ZBj];split at h
   ·cases h
    exact .inl rfl
   ·exact ih h
theorem lookup_mem{y:Str}{k:NameKind}:∀{names:List (Str × NameKind)},names.lookup y=Z k->(y,k)∈names
 | [],h=>by simp at h
 | (n,k')::r,h=>by
  rw[ZBj]at h;split at h
  ·cases h
   rename_i hb;rw[show y=n by simpa using hb];exact ZzB ..
  ·exact ZzD _ (lookup_mem h)
theorem ZuU(T:Zdx X N scope fr)(hcl:∀y c,cl.lookup y=Z c->X.env.cells.lookup y=Z c)(hfr:∀y∈scope.names,y.2=.free->(cl.lookup y.1).isSome=ZEN)
  (I:Inv X pins σ H s) (hc:X.calm=ZEN) (hf:∀b∈fp,Zfw X pins H b) (hfl:∀b∈fp,b<s.heap.objs.size) (hC:s.heap.objs.size<=C):(ZQ X N scope cl C s H fp).Ok:=by
 refine⟨I.ok.mod,T.kind,I.ok.glob,I.ok.blt,hC,λy z c h1 h2=>I.ok.inj y z c (hcl y c h1) (hcl z c h2),λy h=>?_,λy c h=>?_,λ_=>I.ok.hd hc,I.ok.frames,.inl rfl,λb hb=>⟨?_,λy c h=>?_⟩,λb o h=>I.bs b o h,
  ZAn I.ok.bsz I.sz,λb o h hb=>?_,λb hb hs=>?_,I.stack,I.stkFree⟩
 ·have h':(relabel scope X.env).names.lookup y=Z .cell\/(relabel scope X.env).names.lookup y=Z .free:=h
  have hm:(y,ZBO)∈scope.names:=by
   rcases h' with h' | h'
   ·rcases Zbw h' with q | ⟨_,q⟩
    ·exact absurd rfl (T.cell _ (lookup_mem q))
    ·exact lookup_mem q
   ·rcases Zbw h' with q | ⟨e,_⟩
    ·exact lookup_mem q
    ·cases e
  exact ZAd.mp (hfr _ hm rfl)
 ·exact absurd h (by show ¬ZEO=ZEN; simp)
 ·exact ZzU (ZzZ (hfl b hb) hC)
 ·obtain⟨_,_,_,_,q,_⟩:=hf b hb
  exact q y c (hcl y c h)
 ·obtain⟨_,_,_,q,_⟩:=hf b hb
  rcases q with q | q
  ·exact I.ok.noex b o h q
  ·exact absurd (ZzZ (ZzO h) (ZAn I.ok.bsz q)) (ZBb _)
 ·obtain⟨_,q1,q2,_⟩:=hf b hb
  rcases ZzK.mp (I.stkSub b hs)with z | z
  ·exact q1 z
  ·exact q2 z
theorem Zoq{D:Addr}{h1:Heap}{tk:Nat}(T:Zdx X N scope fr)(hcl:∀y c,cl.lookup y=Z c->X.env.cells.lookup y=Z c)(hfr:∀y∈scope.names,y.2=.free->(cl.lookup y.1).isSome=ZEN)
  (I:Inv X pins σ H s) (hc:X.calm=ZEN) (hf:∀b∈fp,Zfw X pins H b) (hfl:∀b∈fp,b<s.heap.objs.size) (hD:s.heap.objs.size=D) (hC:D<C) (ns:h1.Ns C (λ_=>Z_)) (hl:h1.get? D=Z { cls:=.type "list",data:=.seq #[] 0 })
  (k:∀b o,s.heap.get? b=Z o->h1.get? b=Z o):Inv (ZQ X N scope cl C s H fp) [] (ZzE fr.length Z_++σ) (upd H D (.lst [])) { s with heap:=h1,toks:=tk }:=by
 have hn:H D=Z_:=I.hok.fresh (ZDb hD);have hDC:s.heap.objs.size<=C:=ZAn (ZDb hD) (ZBo hC);have hCn:H C=Z_:=I.hok.fresh hDC;refine⟨ZuU T hcl hfr I hc hf hfl hDC,rfl,I.bare,Un.laid k (ZDb hD) hn,⟨_,ns,λi y v e1 e2 e3=>?_⟩,λy c h=>?_,?_,λy c h=>?_,λp hp=>absurd (show p∈([]:List (Addr × Obj)) from hp) (by simp),I.hok.laid k (ZDb hD) ⟨ZBn _,[],0,.nil,hl⟩,?_⟩
 ·have hge:fr.length<=i:=by
   apply ZB2;intro hlt;rw[ZAq (by rw[Zz6]; exact hlt),ZBB,if_pos hlt]at e2;cases e2
  rw[ZAk (by rw[Zz6]; exact hge),Zz6]at e2;obtain⟨j,rfl⟩:∃j,i=j+fr.length:=⟨i-fr.length,by omega⟩;rw[Nat.add_sub_cancel]at e2
  ·have e3':Vis scope y:=by
    have e3:Vis (relabel scope X.env) y:=e3;rcases e3 with q | q | q
    ·rcases Zbw q with q | ⟨z,_⟩
     ·exact .inl q
     ·cases z
    ·rcases Zbw q with q | ⟨_,q⟩
     ·exact .inr (.inl q)
     ·exact .inr (.inr q)
    ·rcases Zbw q with q | ⟨z,_⟩
     ·exact .inr (.inr q)
     ·cases z
   have hfree:=T.vis j y e1 e3';have hm:=lookup_mem hfree;have hN:=T.same j y e1 hfree;have hcap:=T.cap _ hm rfl;obtain⟨m,_,hl⟩:=I.loc;obtain⟨u,ru,lu⟩:=hl j y v hN e2 (by
    rcases hcap with q | q
    ·exact .inr (.inl q)
    ·exact .inr (.inr q))
   refine⟨u,ru,?_⟩;obtain⟨c,hcc⟩:=ZAd.mp (hfr _ hm rfl);rcases lu with⟨q,_⟩ | ⟨_,c',e,z⟩
   ·rcases hcap with q' | q'<;>(rw[q']at q; cases q)
   ·refine .inr ⟨?_,c,hcc,?_⟩
    ·rcases e3 with q | q | q
     ·have q:(relabel scope X.env).names.lookup y=Z .local:=q
      rcases Zbw q with q | ⟨z,_⟩
      ·rw[hfree]at q; cases q
      ·cases z
     ·exact .inl q
     ·exact .inr q
    ·rw[hcl y c hcc]at e
     cases e;obtain⟨o,ho,hd⟩:=z;exact⟨o,k _ _ ho,hd⟩
 ·obtain⟨v,o,ho,hd⟩:=I.cell y c (hcl y c h)
  exact⟨v,o,k _ _ ho,hd⟩
 ·show upd H D (.lst []) C=Z_
  rw[Zx (ZCB hC)];exact hCn
 ·have hq:=I.freeC y c (hcl y c h)
  obtain⟨v,o,ho,_⟩:=I.cell y c (hcl y c h);have:c≠D:=ZzU (by rw[<-hD]; exact ZzO ho);rw[Zx this];exact hq
 ·show(ZzE fr.length Z_++σ).length=N.length
  rw[ZzM,Zz6,I.len,T.len,Nat.add_comm]
def XTs(Y:Cx)(ifs:List Expr)(f:HM.TF):Prop:=∀r c,f r=Z c->∀(pins:List (Addr × Obj)) (s:Shared) (σ:L2.St) (H:Hp) (Q:Bool->Hp->Prop),Inv Y pins σ H s->(Now Y.K r σ H λF0 H0 F=>∀F' H',Ext F H F' H'->Q c H') ->
 wpAny (model Y.prog Y.w) Y.A (Zqg ifs Y.env) (TP Y pins σ Q) Y.xe s
theorem Zbb:XTs Y [] HM.ZS:=by intro r c h pins s σ H Q I ⟨F0,H0,F,at_,k⟩;cases h;exact wpAny_tests_nil ⟨H,I,k F H at_.refl⟩
theorem Zdp{e:Expr}{f:HM.TF}(h:XT Y e f):XTs Y [e] f:=λr c hc pins s σ H Q I q=>wpAny_tests_one (h r c hc pins s σ H Q I q)
def ItE(K:Zzx)(J:It)(ds:List PyData)(F:Hp):Prop:=∀F' H,Zq F F'->Zq F' H ->
 (∀(i:Nat) (d:PyData),ds[i]?=Z d->J.go i H/\∀x H',J.yld i H x H'->∃F2,Ext (ZbU F' H) H F2 H'/\Rep K F2 d x)/\J.stop ds.length H
theorem ItD.e{K:Zzx}{J:It}{ds:List PyData}{F:Hp}(h:ItD K J ds F):ItE K J ds F:=λF' H s1 s2=>by obtain⟨a,b⟩:=h F' H s1 s2;refine⟨λi d hd=>⟨(a i d hd).1,λx H' hy=>?_⟩,b⟩;obtain⟨e,r⟩:=(a i d hd).2 x H' hy;subst e;exact⟨_,.refl (Ext.refl s2).tups.sub,r⟩
def XIE(X:Cx)(tg e:Expr)(f:HM.IF):Prop:=∀r ds,f r=Z ds->PI X tg e λσ H R=>Now X.K r σ H λF0 H0 F=>∀J F' H',Ext F H F' H'->ItE X.K J ds F'->R J H'
theorem XI.e{X:Cx}{tg e:Expr}{f:HM.IF}(h:XI X tg e f):XIE X tg e f:=λr ds hr pins s σ H R I ⟨F0,H0,F,at_,k⟩=>h r ds hr pins s σ H R I ⟨F0,H0,F,at_,λJ F' H' x q=>k J F' H' x q.e⟩
theorem Zn4{it D:Addr}{tn:Nat->Heap->Prop}{J:It}{elt iter:Expr}{ifs:List Expr}{tg:Expr}{pos:Pos}{dec:PyData->Option (List PyData)}{fc:HM.TF}{fe:HM.EF}{s4:Shared}{r:HM.Env}{ds out:List PyData}{Fs Hs F0 H0 F1:Hp}
  {R:Result->Shared->Prop} (T:Zdx X N scope fr) (I2:Inv X pins σ H1 s2) (W:Turn X.prog X.w X.K tg J fp it tn) (hf:∀b∈fp,Zfw X pins H1 b)
  (I4:Inv (ZQ X N scope cl C s2 H1 fp) [] (ZzE fr.length Z_++σ) (upd H1 D (.lst [])) s4) (tn0:tn 0 s4.heap) (hD:s2.heap.objs.size<=D) (hfl:∀b∈fp,b<s2.heap.objs.size) (hbl:X.calm=ZEN)
  (hc:XTs (ZQ X N scope cl C s2 H1 fp) ifs fc) (he:XE (ZQ X N scope cl C s2 H1 fp) elt fe) (at_:At X.K F0 H0 Fs Hs r σ) (x1:Ext Fs Hs F1 H1) (itd:ItE X.K J ds F1) (hbind:Zji (ZQ X N scope cl C s2 H1 fp) fr.length tg dec) (hbig:ds.length<HM.big) (go:goG dec fc fe r ds=Z out)
  (hR:∀s',(∃F H vs,Inv (ZQ X N scope cl C s2 H1 fp) [] (ZzE fr.length Z_++σ) H s'/\Ext Fs Hs F H/\H D=Z (.lst vs)/\F D=Z_/\Zs X.K F out vs)->R (.ok .next) s') :
  codeAny (model X.prog X.w) X.A (.compLoop (.ListComp elt [⟨tg,iter,ifs,0⟩] scope pos) 0 (.ref it) (.ref D) (compEnvC scope cl C X.env)) R s4:=by
 have hH1D:H1 D=Z_:=I2.hok.fresh hD;have hHsD:Hs D=Z_:=x1.hh.free hH1D;have hF1D:F1 D=Z_:=x1.sub.free hH1D;have hfpD:∀b∈fp,b≠D:=λb hb=>ZzU (ZzZ (hfl b hb) hD);have okY:=I4.ok;have stat:∀{H:Hp},(∀b∈fp,H b=Z_)->∀b∈fp,Zfw (ZQ X N scope cl C s2 H1 fp) [] H b:=λhn b hb=>⟨hn b hb,(okY.exf b hb).1,okY.exfs b hb,.inl hb,(okY.exf b hb).2,λp hp=>absurd (show p∈([]:List (Addr × Obj)) from hp) (by simp)⟩;refine Zr8 (λn s'=>∃(j:Nat) (sv:List (Option V)) (F H:Hp) (ys:List PyData) (vs:List V) (rest:List PyData),sv.length=fr.length/\Inv (ZQ X N scope cl C s2 H1 fp) [] (sv++σ) H s'/\tn j s'.heap/\(∀b∈fp,H b=Z_)/\Ext Fs Hs F H/\Zq F1 F/\At X.K F0 H0 F H r σ /\
  H D=Z (.lst vs)/\F D=Z_/\Zs X.K F ys vs/\j+n=ds.length/\ys.length<=j/\goG dec fc fe r (ds.drop j)=Z rest/\out=ys++rest) ?_ ds.length
  ⟨0,ZzE fr.length Z_,F1,_,[],[],out,Zz6,I4,tn0,λb hb=>by rw[Zx (hfpD b hb)]; exact(hf b hb).1,x1.lay' hH1D,Zq.refl _,(at_.grow x1).grow ((at_.grow x1).refl.lay' hH1D),Zy,hF1D,.nil,by omega,ZzH _,go,rfl⟩
 rintro n s5 ⟨j,sv,F,H,ys,vs,rest,hsv,I5,tn5,hfp5,x5,sF,at5,hHD,hFD,rys,hjn,hyl,hgo,hout⟩
 obtain⟨it1,it2⟩:=itd F H sF at5.sub;cases n with
 | zero =>
  have ej:j=ds.length:=by omega
  subst ej;rw[List.drop_length]at hgo;cases hgo;rw[ZAe]at hout;subst hout;refine thn (W.done (ZQ X N scope cl C s2 H1 fp) rfl rfl rfl rfl _ [] s5 _ H No I5 (stat hfp5) tn5 it2) λrv s6 ⟨e,I6⟩=>?_;subst e;refine hR s6 ⟨F,H,vs,I6.weak (by rw[ZzM,ZzM,Zz6,hsv]) λi v hv=>?_,x5,hHD,hFD,rys⟩
  by_cases hi:i<fr.length
  ·rw[ZAq (by rw[Zz6]; exact hi),ZBB,if_pos hi]at hv
   cases hv
  ·rw[ZAk (by rw[Zz6]; omega),Zz6]at hv
   rw[ZAk (by omega),hsv];exact hv
 | succ n =>
  have hlt:j<ds.length:=by omega
  obtain⟨jg,jy⟩:=it1 j ds[j] (ZzT hlt);obtain⟨F2,x5,sF,at5,hFD,rys,jy⟩:∃F2,Ext Fs Hs F2 H/\Zq F1 F2/\At X.K F0 H0 F2 H r σ/\F2 D=Z_/\Zs X.K F2 ys vs/\∀x H',J.yld j H x H'->∃F3,Ext F2 H F3 H'/\Rep X.K F3 ds[j] x :=
   ⟨ZbU F H,x5.tups,sF.trans (ZcX at5.sub),at5.grow at5.refl.tups,by unfold ZbU; rw[hHD]; exact hFD,rys.mono (ZcX at5.sub),jy⟩
  clear it1 it2
  rw[ZDK hlt]at hgo;refine thn (W.item (ZQ X N scope cl C s2 H1 fp) rfl rfl rfl rfl j [] s5 _ H No I5 (stat hfp5) tn5 jg) λrv s6 ⟨u,e,h6⟩=>?_;subst e;refine thn h6 λ_ s7 ⟨xv,H7,I7,r7,y7,tn7,fr7⟩=>?_;obtain⟨F7,x7,rx⟩:=jy xv H7 y7;obtain⟨F2,x5,sF,at5,hHD,hFD,rys,rx⟩:∃F2,Ext Fs Hs F2 H7/\Zq F1 F2/\At X.K F0 H0 F2 H7 r σ/\H7 D=Z (.lst vs)/\F2 D=Z_/\Zs X.K F2 ys vs/\Rep X.K F2 ds[j] xv:=by
   refine⟨F7,x5.trans x7,sF.trans x7.ff,at5.grow x7,x7.hh _ _ hHD,?_,rys.mono x7.ff,rx⟩;cases q:F7 D with
   | none=>rfl
   | some o =>
    rcases x7.new D o q with z | z
    ·rw[hFD]at z; cases z
    ·exact(z.no hHD λ_ q=>by cases q).elim
  have I7':=I7.pinned (stat fr7) (W.obj _ _ tn7);unfold goG at hgo;split at hgo
  case h_2=>cases hgo
  rename_i zs hzs;have dok:=hbind _ s7 σ sv H7 F2 ds[j] zs xv u hsv I7' r7 at5.sub rx hzs;refine thn dok λ_ s8 ⟨ws,hws,I8,rws⟩=>?_;have atp:=at5.pushes rws;have again:∀{s9:Shared} {F9 H9:Hp} {zs9:List PyData} {ws9:List V} {rest':List PyData},Inv (ZQ X N scope cl C s2 H1 fp) ([]++Zi5 fp s7.heap) (ws.map Z++σ) H9 s9->Ext Fs Hs F9 H9->Zq F2 F9->At X.K F0 H0 F9 H9 r σ->H9 D=Z (.lst ws9)->F9 D=Z_->Zs X.K F9 zs9 ws9->zs9.length<=j+1->goG dec fc fe r (ds.drop (j+1))=Z rest'->out=zs9++rest' ->
    ∃m,m<n+1/\∃(j:Nat) (sv:List (Option V)) (F2 H:Hp) (ys:List PyData) (vs:List V) (rest:List PyData),sv.length=fr.length/\Inv (ZQ X N scope cl C s2 H1 fp) [] (sv++σ) H s9/\tn j s9.heap/\(∀b∈fp,H b=Z_)/\Ext Fs Hs F2 H/\Zq F1 F2/\At X.K F0 H0 F2 H r σ /\
     H D=Z (.lst vs)/\F2 D=Z_/\Zs X.K F2 ys vs/\j+m=ds.length/\ys.length<=j/\goG dec fc fe r (ds.drop j)=Z rest/\out=ys++rest:=by
   intro s9 F9 H9 zs9 ws9 rest' I9 x9 s9F a9 h9 f9 r9 l9 g9 o9;refine⟨n,ZB3 n,j+1,ws.map Z,F9,H9,zs9,ws9,rest',by rw[Zzw]; exact hws,I9.unpinned,W.keep _ _ _ tn7 λb hb o e=>(I9.pin (b,o) (ZzX _ (ZzX _ (ZfQ hb e)))).1,λb hb=>?_,x9,sF.trans s9F,a9,h9,f9,r9,by omega,l9,g9,o9⟩;obtain⟨o,e,d⟩:=W.obj _ _ tn7 b hb;exact(I9.pin (b,o) (ZzX _ (ZzX _ (ZfQ hb e)))).2.1
  have noD:∀{F' H':Hp},Ext F2 H7 F' H'->F' D=Z_:=λ{F' H'} y=>by
   cases q:F' D with
   | none=>rfl
   | some o =>
    rcases y.new D o q with z | z
    ·rw[hFD]at z; cases z
    ·exact(z.no hHD λ_ q=>by cases q).elim
  split at hgo
  ·rename_i hcv
   split at hgo
   ·rename_i y hy
    obtain⟨rest',g1,g2⟩:=Zzy.mp hgo;subst g2;refine thn (hc _ _ hcv _ s8 _ H7 (λc' H'=>c'=ZEN/\∃F',Ext F2 H7 F' H') I8 ⟨F0,H0,F2,atp,λF' H' y=>⟨rfl,F',y⟩⟩) λok s9 ⟨H9,I9,eok,F9,x9⟩=>?_;subst eok;rw[if_pos rfl];refine thn (he _ _ hy _ s9 _ H9 (λv' H'=>∃F',Ext F9 H9 F' H'/\Rep X.K F' y v') I9 ⟨F0,H0,F9,atp.grow x9,λv' F' H' x q=>⟨F',x,q⟩⟩) λu' s10 ⟨v',H10,I10,r10,F10,x10,q10⟩=>?_;have x910:=x9.trans x10;have hHD':H10 D=Z (.lst vs):=x910.hh _ _ hHD;have hFD':=noD x910;refine thn (Zjo (X:=ZQ X N scope cl C s2 H1 fp) _ s10 _ H10 (.ref D) [v'] (.ref D) [u'] (λ_ H'=>H'=upd H10 D (.lst (vs++[v']))) I10 rfl (.cons r10 .nil) ⟨D,vs,v',rfl,rfl,hHD',?_,rfl⟩) λ_ s11 ⟨_,H11,I11,_,e11⟩=>?_
    ·have:=rys.1
     exact Zhq (by omega)
    subst e11;refine again (zs9:=ys++[y]) I11 ((x5.trans x910).chg _ hHsD hFD' λu z=>by rw[hHD']at z; cases z; rfl) x910.ff ((at5.grow x910).chgNew _ at_ (x5.trans x910).hh hHsD hFD' λu z=>by rw[hHD']at z; cases z; rfl) Zy hFD' ((rys.mono x910.ff).append (.one q10)) (by rw[ZzM]; show ys.length+1<=j+1; omega) g1 (by rw[hout,ZBx]; rfl)
   ·cases hgo
  ·rename_i hcv
   refine thn (hc _ _ hcv _ s8 _ H7 (λc' H'=>c'=ZEO/\∃F',Ext F2 H7 F' H') I8 ⟨F0,H0,F2,atp,λF' H' y=>⟨rfl,F',y⟩⟩) λok s9 ⟨H9,I9,eok,F9,x9⟩=>?_;subst eok;rw[if_neg (by simp)];exact again (zs9:=ys) I9 (x5.trans x9) x9.ff (at5.grow x9) (x9.hh _ _ hHD) (noD x9) (rys.mono x9.ff) (by omega) hgo hout
  ·cases hgo
theorem Zo8{s':Shared}{sv:List (Option V)}{h':Heap}(I2:Inv X pins σ H1 s2)(hf:∀b∈fp,Zfw X pins H1 b)(hC:s2.heap.objs.size<=C)
  (I:Inv (ZQ X N scope cl C s2 H1 fp) [] (sv++σ) H s') (hs:ZA6 C s'.heap h'):Inv X pins σ H { s' with heap:=h' }:=by
 have u:Un (frs X.stack) fp H1 H s2.heap s'.heap:=I.base;have hCn:H C=Z_:=I.free;have ne:∀b o,s2.heap.get? b=Z o->b≠C:=λb o e=>ZzU (ZzZ (ZzO e) hC);refine I2.call' (s':={ s' with heap:=h' }) (ch:=fp) I.os ⟨λb o e n hb hx=>(hs.2 b (ne b o e)).trans (u.keep b o e n hb hx),λb o e n hb hx=>?_,u.free,λb o e hx=>?_,u.tups,u.frzs,u.tbls⟩ (λb o e=>?_) I.bare λb hb=>?_
 ·obtain⟨sl,q⟩:=u.slot b o e n hb hx
  exact⟨sl,(hs.2 b (ne b o e)).trans q⟩
 ·obtain⟨o',q⟩:=u.there b o e hx
  exact⟨o',(hs.2 b (ne b o e)).trans q⟩
 ·refine(I.hok b o e).stay (λc w' hc q=>(hs.2 c ?_).trans q) (λ_ q=>q) λ_ _ q=>q
  rintro rfl
  rcases hc with rfl | hc
  ·rw[hCn]at e; cases e
  ·rw[hCn]at hc; cases hc
 ·obtain⟨q0,q1,q2,q3,q4,q5⟩:=hf b hb
  exact⟨q3,q1,q4,q5⟩
variable{elt iter:Expr}{ifs:List Expr}{tg:Expr}{pos:Pos}{fi:HM.IF}{dec:PyData->Option (List PyData)}{fc:HM.TF}{fe:HM.EF}
theorem ZoL(T:Zdx X N scope fr)(I:Inv X pins σ H s):∀y∈scope.names,y.2=.free->∃c,X.env.cells.lookup y.1=Z c:=λy hy e=>I.ok.has y.1 (T.cap y hy e)
theorem Zm9(hxe:X.xe=λ_ _=>False)(hcalm:X.calm=ZEN)(T:Zdx X N scope fr)(hbind:∀cl C s H ex,Zji (ZQ X N scope cl C s H ex) fr.length tg dec)(hi:XIE X tg iter fi)(hc:∀cl C s H ex,XTs (ZQ X N scope cl C s H ex) ifs fc)(he:∀cl C s H ex,XE (ZQ X N scope cl C s H ex) elt fe)
  (hs:∀x,ZBd iter X.env x=pure x:=by intro _; rfl):XF X (.ListComp elt [⟨tg,iter,ifs,0⟩] scope pos) (Zfq dec fi fc fe):=by
 intro r b h;unfold Zfq at h;split at h
 ·rename_i ds hds
  split at h
  ·rename_i hbig
   obtain⟨out,hgo,e⟩:=Zzy.mp h;subst e;intro pins s σ H Q I ⟨F0,H0,F,at_,k⟩;obtain⟨cl,hclos,hcl,hfr⟩:=ZfE (ZoL T I);rw[eval_ListComp];refine wpAny_comprehension_free (use:=Z_) rfl hs hclos T.kind T.names (thn (hi r ds hds pins s σ H (λJ H'=>∃F',Ext F H F' H'/\ItE X.K J ds F') I ⟨F0,H0,F,at_,λJ F' H' x q=>⟨F',x,q⟩⟩) λv s1 h1=>thn h1 λitv s2 h2=>?_);obtain⟨it,fp,tn,J,H1,rfl,I2,W,st2,f2,F1,x1,itd⟩:=h2;have hfl:∀b∈fp,b<s2.heap.objs.size:=λb hb=>let ⟨o,ho,_⟩:=W.obj 0 _ st2 b hb; ZzO ho
   refine ZAa (ZDc T.cell (by intro y hy; simp at hy) (λh1 hns hsb=>?_) T.kind);dsimp only at hns hsb ⊢;generalize hP:s2.heap.push { cls:=.type "list",dict:=Z_,data:=.seq ([]:List Value).toArray }=h0 at hns hsb ⊢;have hsz:h0.objs.size=s2.heap.objs.size+1:=by rw[<-hP,ZBE]
   have hDC:s2.heap.objs.size<h0.objs.size:=by rw[hsz]; exact ZB3 _
   have old:∀b o,s2.heap.get? b=Z o->h1.get? b=Z o:=λb o e=>hsb.extBut b o (ZzU (ZBs (ZzO e) hDC)) (ZzA _ (by rw[<-hP]; exact ZzA _ e));have hl:h1.get? s2.heap.objs.size=Z { cls:=.type "list",data:=.seq #[] 0 }:=hsb.extBut _ _ (ZzU hDC) (ZzA _ (by rw[<-hP]; exact ZzP _ rfl));have I4:Inv (ZQ X N scope cl h0.objs.size s2 H1 fp) [] (ZzE fr.length Z_++σ) (upd H1 s2.heap.objs.size (.lst [])) { s2 with heap:=h1,toks:=s2.toks+([]:List (Str × Value)).length }:=Zoq T hcl hfr I2 hcalm f2 hfl rfl hDC hns hl old;have tn1:tn 0 h1:=W.keep _ _ _ st2 λb _ o e=>old b o e;have hHsD:H s2.heap.objs.size=Z_:=x1.hh.free (I2.hok.fresh (ZzH _));have loop:codeAny (model X.prog X.w) X.A (.compLoop (.ListComp elt [⟨tg,iter,ifs,0⟩] scope pos) 0 (.ref it) (.ref s2.heap.objs.size) (compEnvC scope cl h0.objs.size X.env)) (compPost (model X.prog X.w) X.A X.xe Z_ (EP X pins σ Q) (.ref s2.heap.objs.size) h0.objs.size)
     { s2 with heap:=h1,toks:=s2.toks+([]:List (Str × Value)).length }:=by
    refine Zn4 T I2 W f2 I4 tn1 (ZzH _) hfl hcalm (hc _ _ _ _ _) (he _ _ _ _ _) at_ x1 itd (hbind _ _ _ _ _) hbig hgo λs' ⟨F',H',vs,I',x',hD',hFD',rs⟩=>?_;obtain⟨m,hn,_⟩:=id I'.loc;refine⟨m,hn,λh2 hs2=>⟨.ref s2.heap.objs.size,H',Zo8 I2 f2 (ZBo hDC) I' hs2,rfl,k _ F' H' x' ⟨[s2.heap.objs.size],.ol hD' rs,by simp,λa ha=>?_⟩⟩⟩;obtain rfl:a=s2.heap.objs.size:=by simpa using ha
    exact⟨hFD',hHsD⟩
   exact codeAny_compStart_list loop (W.self _ 0 _ _ _ tn1 loop)
  ·cases h
 ·cases h
theorem ZjP(i:Nat){y:Str}{py spos:Pos}(hN:X.N.Nodup)(hxe:X.xe=λ_ _=>False)(hcalm:X.calm=ZEN)(T:Zdx X N scope fr)(hbind:∀cl C s H ex,Zji (ZQ X N scope cl C s H ex) fr.length tg dec)(hi:XIE X tg iter fi)(hc:∀cl C s H ex,XTs (ZQ X N scope cl C s H ex) ifs fc)(he:∀cl C s H ex,XE (ZQ X N scope cl C s H ex) elt fe)
  (hiy:X.N[i]?=Z y:=by rfl) (hy:X.env.scope.names.lookup y=Z .local:=by rfl) (hsw:ZBG (.ListComp elt [⟨tg,iter,ifs,0⟩] scope pos) (Z (.Name y py)) spos.line X.env=pure ZEN:=by rfl)
  (hs:∀x,ZBd iter X.env x=pure x:=by intro _; rfl):XS X (.Assign [.Name y py] (.ListComp elt [⟨tg,iter,ifs,0⟩] scope pos) spos) (HM.ZU i (Zfq dec fi fc fe)):=by
 intro r o h;obtain⟨b,hb,e⟩:=Zzy.mp h;subst e;unfold Zfq at hb;split at hb
 ·rename_i ds hds
  split at hb
  ·rename_i hbig
   obtain⟨out,hgo,e⟩:=Zzy.mp hb;subst e;intro pins s σ H E I ⟨F0,H0,F,at_,k⟩;obtain⟨cl,hclos,hcl,hfr⟩:=ZfE (ZoL T I);rw[exec_Assign_Name_used _ _ _ _ hsw];refine Zzv (wpAny_standAt (Zzv ?_));show wpAny _ X.A (do let _ <-comprehension (.ListComp elt [⟨tg,iter,ifs,0⟩] scope pos) scope X.env _ (newList []) ZEO (eval iter X.env) (Z (assign (.Name y py) X.env))) _ _ s;refine Zzv (ZAD (wpAny_comprehension_free (use:=Z (assign (.Name y py) X.env)) (Q:=λ_ s'=>SP X pins E .next s') rfl hs hclos T.kind T.names (thn (hi r ds hds pins s σ H (λJ H'=>∃F',Ext F H F' H'/\ItE X.K J ds F') I ⟨F0,H0,F,at_,λJ F' H' x q=>⟨F',x,q⟩⟩) λv s1 h1=>thn h1 λitv s2 h2=>?_)) (λ_ s' hq=>Zzz (Zzz hq)) λ_ _ e=>e)
   obtain⟨it,fp,tn,J,H1,rfl,I2,W,st2,f2,F1,x1,itd⟩:=h2;have hfl:∀b∈fp,b<s2.heap.objs.size:=λb hb=>let ⟨o,ho,_⟩:=W.obj 0 _ st2 b hb; ZzO ho
   refine ZAa (ZDc T.cell (by intro y hy; simp at hy) (λh1 hns hsb=>?_) T.kind);dsimp only at hns hsb ⊢;generalize hP:s2.heap.push { cls:=.type "list",dict:=Z_,data:=.seq ([]:List Value).toArray }=h0 at hns hsb ⊢;have hsz:h0.objs.size=s2.heap.objs.size+1:=by rw[<-hP,ZBE]
   have hDC:s2.heap.objs.size<h0.objs.size:=by rw[hsz]; exact ZB3 _
   have old:∀b o,s2.heap.get? b=Z o->h1.get? b=Z o:=λb o e=>hsb.extBut b o (ZzU (ZBs (ZzO e) hDC)) (ZzA _ (by rw[<-hP]; exact ZzA _ e));have hl:h1.get? s2.heap.objs.size=Z { cls:=.type "list",data:=.seq #[] 0 }:=hsb.extBut _ _ (ZzU hDC) (ZzA _ (by rw[<-hP]; exact ZzP _ rfl));have I4:Inv (ZQ X N scope cl h0.objs.size s2 H1 fp) [] (ZzE fr.length Z_++σ) (upd H1 s2.heap.objs.size (.lst [])) { s2 with heap:=h1,toks:=s2.toks+([]:List (Str × Value)).length }:=Zoq T hcl hfr I2 hcalm f2 hfl rfl hDC hns hl old;have tn1:tn 0 h1:=W.keep _ _ _ st2 λb _ o e=>old b o e;have hHsD:H s2.heap.objs.size=Z_:=x1.hh.free (I2.hok.fresh (ZzH _));have loop:codeAny (model X.prog X.w) X.A (.compLoop (.ListComp elt [⟨tg,iter,ifs,0⟩] scope pos) 0 (.ref it) (.ref s2.heap.objs.size) (compEnvC scope cl h0.objs.size X.env)) (compPost (model X.prog X.w) X.A X.xe (Z (assign (.Name y py) X.env)) (λ_ s'=>SP X pins E .next s') (.ref s2.heap.objs.size) h0.objs.size)
     { s2 with heap:=h1,toks:=s2.toks+([]:List (Str × Value)).length }:=by
    refine Zn4 T I2 W f2 I4 tn1 (ZzH _) hfl hcalm (hc _ _ _ _ _) (he _ _ _ _ _) at_ x1 itd (hbind _ _ _ _ _) hbig hgo λs' ⟨F',H',vs,I',x',hD',hFD',rs⟩=>?_;obtain⟨m,hn,_⟩:=id I'.loc;have IX:Inv X pins σ H' s':=Zo8 (h':=s'.heap) I2 f2 (ZBo hDC) I' (ZEL _ _);have hCn:H' h0.objs.size=Z_:=I'.free;have neL:h0.objs.size≠X.env.locals:=ZCB (ZBs I2.lt hDC);have neC:∀z c,X.env.cells.lookup z=Z c->c≠h0.objs.size:=λz c hz=>by obtain⟨v,o,ho,_⟩:=I2.cell z c hz;exact ZzU (ZBs (ZzO ho) hDC)
    have neP:∀p∈X.pn++pins,p.1≠h0.objs.size:=λp hp=>ZzU (ZBs (ZzO (I2.pin p hp).1) hDC);show wpAny _ X.A (assign (.Name y py) X.env (.ref s2.heap.objs.size)) _ _ _;refine wpAny_assign_Name (Zmi IX hN hiy (.inl hy) (v:=.ref s2.heap.objs.size) rfl (λs3 I3 hsa=>?_) (.inr hy));obtain⟨a,sa,ea⟩:=hsa;have neA:h0.objs.size≠a:=by
     rcases ea with e | e
     ·rw[e]; exact neL
     ·exact ZAG (neC _ _ e)
    refine⟨m,hn.sameBut sa neA,λh2 hs2=>?_⟩;refine⟨_,H',I3.turned (t':=s3.toks) (it:=h0.objs.size) (λb o hb e=>(hs2.2 b hb).trans e) hCn neL (.inr (ZAn I2.sz (ZBo hDC))) neC neP,k _ F' H' ((at_.grow x').storeNew at_ x'.hh (fp':=[s2.heap.objs.size]) (.ol hD' rs) (by simp) λa ha=>?_)⟩;obtain rfl:a=s2.heap.objs.size:=by simpa using ha
    exact⟨hFD',hHsD⟩
   exact codeAny_compStart_list loop (W.self _ 0 _ _ _ tn1 loop)
  ·cases hb
 ·cases hb
end
end HP
namespace HP
open PySem PySem.Spec PyProof.Rows L2
variable[FX]
def Zts(d:PyData):Option (List PyData):=Z [d]
def ZlE:PyData->Option (List PyData)
 | .tuple [x,y]=>Z [x,y]
 | _=>Z_
theorem Zxn(c:HM.TF)(e:HM.EF)(r:HM.Env):∀xs,HM.Zan c e r xs=goG Zts c e r xs
 | []=>rfl
 | x::xs=>by unfold HM.Zan goG;rw[Zxn c e r xs];rfl
theorem Zv6(c:HM.TF)(e:HM.EF)(r:HM.Env):∀xs,HM.Zdw c e r xs=goG ZlE c e r xs
 | []=>rfl
 | x::xs=>by
  have ih:=Zv6 c e r xs;unfold HM.Zdw goG;split
  ·rename_i h; cases h
  ·rename_i a b q h
   cases h;rw[ih];rfl
  ·rename_i h1
   have hn:ZlE x=Z_:=by
    unfold ZlE;split
    ·exact(h1 _ _ _ rfl).elim
    ·rfl
   rw[hn]
theorem Zqf(i:HM.IF)(c:HM.TF)(e:HM.EF):HM.ZF i c e=Zfq Zts i c e:=by
 funext r
 unfold HM.ZF Zfq;cases i r with
 | none=>rfl
 | some xs=>dsimp only; rw[Zxn]
theorem Zp7(i:HM.IF)(c:HM.TF)(e:HM.EF):HM.ZbH i c e=Zfq ZlE i c e:=by
 funext r
 unfold HM.ZbH Zfq;cases i r with
 | none=>rfl
 | some xs=>dsimp only; rw[Zv6]
theorem ZtC{K:Zzx}{F:Hp}{d1 d2:PyData}{v:V}(h:Rep K F (.tuple [d1,d2]) v):∃a v1 v2,v=.ref a/\F a=Z (.tup [v1,v2])/\Rep K F d1 v1/\Rep K F d2 v2:=by
 cases h with
 | @tup a ds vs h1 h2 h3 =>
  cases vs with
  | nil=>simp at h2
  | cons v1 vs=>cases vs with
   | nil=>simp at h2
   | cons v2 vs=>cases vs with
    | nil=>exact⟨a,v1,v2,rfl,h1,h3 0 _ _ rfl rfl,h3 1 _ _ rfl rfl⟩
    | cons _ _=>simp at h2
section
variable{X:Cx}{N:List Str}{scope:Scope}{x x2:Str}{px px2 pt:Pos}{kt:Nat}
theorem ZrZ(T:Zdx X N scope [x])(cl:List (Str × Addr))(C:Addr)(s₀:Shared)(H₀:Hp)(ex:List Addr):Zji (ZQ X N scope cl C s₀ H₀ ex) 1 (.Name x px) Zts:=by
 intro pins s σ sv H F d ys xv u hsv I r sub q hd;cases hd;have hx:=T.loc x (ZzF.mpr rfl);refine thn (Zjx (X:=ZQ X N scope cl C s₀ H₀ ex) (i:=0) T.nd (T.first 0 x rfl) (.inl (ZBu hx)) (.inr (ZBu hx)) _ s _ H xv u (λσ' H'=>σ'=(sv++σ).set 0 (Z xv)/\H'=H) I r ⟨rfl,rfl⟩) λ_ s' ⟨σ',H',I',e1,e2⟩=>?_
 subst e1 e2;refine⟨[xv],rfl,?_,.one q⟩;cases sv with
 | nil=>simp at hsv
 | cons a sv=>cases sv with
  | nil=>exact I'
  | cons _ _=>simp at hsv
theorem ZsL(T:Zdx X N scope [x,x2])(cl:List (Str × Addr))(C:Addr)(s₀:Shared)(H₀:Hp)(ex:List Addr):Zji (ZQ X N scope cl C s₀ H₀ ex) 2 (.Tuple [.Name x px,.Name x2 px2] kt pt) ZlE:=by
 intro pins s σ sv H F d ys xv u hsv I r sub q hd;have hx:=T.loc x (ZzB ..);have hx2:=T.loc x2 (ZzD _ (ZzB ..));unfold ZlE at hd;split at hd
 ·rename_i d1 d2
  cases hd;obtain⟨pa,v1,v2,e7,hpa,rx1,rx2⟩:=ZtC q;subst e7;refine thn (Zxg (X:=ZQ X N scope cl C s₀ H₀ ex) (n:=2) rfl (Zoz (Zjx (X:=ZQ X N scope cl C s₀ H₀ ex) (i:=0) T.nd (T.first 0 x rfl) (.inl (ZBu hx)) (.inr (ZBu hx))) (Zoz (Zjx (X:=ZQ X N scope cl C s₀ H₀ ex) (i:=1) T.nd (T.first 1 x2 rfl) (.inl (ZBu hx2)) (.inr (ZBu hx2))) Zvb)) rfl rfl _ s _ H (.ref pa) u (λσ' H'=>σ'=((sv++σ).set 0 (Z v1)).set 1 (Z v2)/\H'=H) I r ⟨pa,[v1,v2],rfl,.of (sub _ _ hpa),rfl,v1,[v2],rfl,v2,[],rfl,rfl,rfl,rfl⟩) λ_ s' ⟨σ',H',I',e1,e2⟩=>?_
  subst e1 e2;refine⟨[v1,v2],rfl,?_,.cons rx1 (.one rx2)⟩;cases sv with
  | nil=>simp at hsv
  | cons a sv=>cases sv with
   | nil=>simp at hsv
   | cons b sv=>cases sv with
    | nil=>exact I'
    | cons _ _=>simp at hsv
 ·cases hd
def ZrS(kinds:Str->Option NameKind)(XN N:List Str)(names:List (Str × NameKind))(fr:List Str):Bool :=
 names.all (λy=>y.2 != .cell)&&names.all (λy=>y.2 != .local||names.lookup y.1==Z .local)&&fr.all (λx=>names.lookup x==Z .local)&&(ZzQ fr.length).all (λi=>N[i]?==fr[i]?)&&decide N.Nodup&&N.length==XN.length+fr.length &&
 names.all (λy=>y.2 != .free||kinds y.1==Z .cell||kinds y.1==Z .free) &&
 (ZzQ (N.length-fr.length)).all (λi=>match N[i+fr.length]? with
  | some y=>(names.lookup y != Z .free||XN[i]?==Z y)&&(names.lookup y==Z .free||(names.lookup y != Z .local&&names.lookup y != Z .cell))
  | none=>ZEN)
theorem ZG{X:Cx}{N XN:List Str}{scope sc:Scope}{fr:List Str}(hs:X.env.scope=sc:=by rfl)(hN:X.N=XN:=by rfl)(hk:scope.kind=.function:=by rfl)(h:ZrS (λy=>sc.names.lookup y) XN N scope.names fr=ZEN:=by decide +kernel):Zdx X N scope fr:=by
 subst hN;unfold ZrS at h;simp only[ZzW,ZzR,ZBt,bne_iff_ne,beq_iff_eq,decide_eq_true_eq]at h;obtain⟨⟨⟨⟨⟨⟨⟨h1,h2⟩,h3⟩,h4⟩,h5⟩,h6⟩,h7⟩,h8⟩:=h;have at_:∀(i:Nat) (y:Str),N[i+fr.length]?=Z y->(scope.names.lookup y≠Z .free\/X.N[i]?=Z y)/\(scope.names.lookup y=Z .free\/(scope.names.lookup y≠Z .local/\scope.names.lookup y≠Z .cell)):=λi y e=>by have hi:i+fr.length<N.length:=(ZzL.mp e).1;have:=h8 i (ZAj.mpr (by omega));rw[e]at this;simpa only[ZzW,ZBt,bne_iff_ne,beq_iff_eq]using this
 refine⟨hk,h1,λy hy e=>(h2 y hy).resolve_left (λz=>z e),h3,λi x e=>?_,h5,h6,λy hy e=>?_,λi y e q=>(at_ i y e).1.resolve_left (λz=>z q),λi y e v=>?_⟩
 ·rw[h4 i (ZAj.mpr (ZzL.mp e).1)]
  exact e
 ·have:=h7 y hy
  rw[show X.env.kindOf y.1=sc.names.lookup y.1 by rw[<-hs]; rfl];rcases this with(z | z) | z
  ·exact absurd e z
  ·exact .inl z
  ·exact .inr z
 ·rcases(at_ i y e).2 with z | ⟨z1,z2⟩
  ·exact z
  ·rcases v with v | v | v
   ·exact absurd v z1
   ·exact absurd v z2
   ·exact v
variable{elt iter:Expr}{ifs:List Expr}{pos:Pos}{fi:HM.IF}{fc:HM.TF}{fe:HM.EF}
theorem ZaL(hxe:X.xe=λ_ _=>False)(hcalm:X.calm=ZEN)(T:Zdx X N scope [x])(hi:XI X (.Name x px) iter fi)(hc:∀cl C s H ex,XTs (ZQ X N scope cl C s H ex) ifs fc)(he:∀cl C s H ex,XE (ZQ X N scope cl C s H ex) elt fe)
  (hs:∀x,ZBd iter X.env x=pure x:=by intro _; rfl):XF X (.ListComp elt [⟨.Name x px,iter,ifs,0⟩] scope pos) (HM.ZF fi fc fe):=by
 rw[Zqf];exact Zm9 hxe hcalm T (ZrZ T) hi.e hc he hs
theorem Zj9(hxe:X.xe=λ_ _=>False)(hcalm:X.calm=ZEN)(T:Zdx X N scope [x,x2])(hi:XI X (.Tuple [.Name x px,.Name x2 px2] kt pt) iter fi)(hc:∀cl C s H ex,XTs (ZQ X N scope cl C s H ex) ifs fc)(he:∀cl C s H ex,XE (ZQ X N scope cl C s H ex) elt fe)
  (hs:∀x,ZBd iter X.env x=pure x:=by intro _; rfl):XF X (.ListComp elt [⟨.Tuple [.Name x px,.Name x2 px2] kt pt,iter,ifs,0⟩] scope pos) (HM.ZbH fi fc fe):=by
 rw[Zp7];exact Zm9 hxe hcalm T (ZsL T) hi.e hc he hs
theorem Zea(i:Nat){y:Str}{py spos:Pos}(hN:X.N.Nodup)(hxe:X.xe=λ_ _=>False)(hcalm:X.calm=ZEN)(T:Zdx X N scope [x])(hi:XI X (.Name x px) iter fi)(hc:∀cl C s H ex,XTs (ZQ X N scope cl C s H ex) ifs fc)(he:∀cl C s H ex,XE (ZQ X N scope cl C s H ex) elt fe)
  (hiy:X.N[i]?=Z y:=by rfl) (hy:X.env.scope.names.lookup y=Z .local:=by rfl) (hsw:ZBG (.ListComp elt [⟨.Name x px,iter,ifs,0⟩] scope pos) (Z (.Name y py)) spos.line X.env=pure ZEN:=by rfl)
  (hs:∀x,ZBd iter X.env x=pure x:=by intro _; rfl):XS X (.Assign [.Name y py] (.ListComp elt [⟨.Name x px,iter,ifs,0⟩] scope pos) spos) (HM.ZU i (HM.ZF fi fc fe)):=by
 rw[Zqf];exact ZjP i hN hxe hcalm T (ZrZ T) hi.e hc he hiy hy hsw hs
end
end HP
namespace HP
open PySem PySem.Spec PyProof.Rows L2
variable{p:Addr}{r:HM.Env}{F F0 H H0:Hp}{σ:L2.St}{kvs:List (List Key × List PyData)}{ds:List PyData}{i:Nat}{K:Zzx}{Q:Value->Shared->Prop}
variable[FX]
section
variable{prog:Program}{w:World}{K:Type}[DecidableEq K]{knd:HeapKind prog w K}{A:Around}{E:Value->Shared->Prop}{s:Shared}
theorem ZlV{d a:Addr}{xs:List (K × Addr × Value)}{k:K}{v:Value}(hu:knd.room A)(hkey:knd.is s.heap k a)(hm:s.heap.DictOfH knd d xs)(hsz:xs.length<=sizeLine)
  (h1:∀p,atKey xs k=Z p->Q p.2 { s with toks:=s.toks+knd.draws k })
  (h2:atKey xs k=Z_->∀h',h'.DictOfH knd d (storedH xs k a v)->ZA6 d s.heap h'->Q v { s with heap:=h',toks:=s.toks+knd.draws k }) :
  wpAny (model prog w) A (dictSetDefault d (.ref a) v) Q E s:=by
 obtain⟨o,es,ep,ho,hc,hd,he,his,hn⟩:=hm;unfold dictSetDefault
 try with_reducible refine ZAI ?_
 refine Zzv (knd.pyHash hu hkey ?_);refine Zzv (wpAny_dictFind_heap (s:={ s with toks:=s.toks+knd.draws k }) hu hkey ho hd he his hn ?_ ?_)
 ·intro hno
  have hnot:k ∉ xs.map (·.1):=not_mem_keys_of_get hno;have hnk:=atKey_none_of_get hno;refine Zzv (ZCp (Zzv (wpAny_updateDictKeys (hz:=by have e:=size_of_entries he; omega) (s:={ s with toks:=s.toks+knd.draws k }) ho hd (Zzz (h2 hnk _ ⟨_,_,ep+1,ZAE _ ho (Obj.isFreed_of_dict (Obj.data_mapDictKeys hd _)),
   hc.mapDictKeys _,Obj.data_mapDictKeys hd _,?_,?_,?_⟩ (ZAz ..))))))
  ·rw[storedH_new hnk]
   simp[he,entryOfKey]
  ·rw[storedH_new hnk]
   intro x hx;rcases Zz3.mp hx with hx | hx
   ·exact knd.keeps (his x hx) ho hd (ZAz ..)
   ·simp only[ZzF]at hx
    subst hx;exact knd.keeps hkey ho hd (ZAz ..)
  ·rw[storedH_new hnk]
   rw[Zz4,ZBy];refine⟨hn,by simp,?_⟩;intro x hx y hy;simp only[ZzG,ZB1,ZzF]at hy;subst hy;exact λe=>hnot (e▸hx)
 ·intro j p hj
  refine Zzv (ZCQ (s:={ s with toks:=s.toks+knd.draws k }) ho hd ?_);rw[entry_at he j,hj];exact Zzv (ZCp (Zzz (h1 p (atKey_of_get hn hj))))
theorem ZjN(d a:Addr)(hd:(d==ZA4)=ZEO)(dflt:Value) :
  MeetsIn prog w (Builtin.«dict.setdefault» ⟨[.ref d,.ref a,dflt],[]⟩) (λA R s=>knd.room A.in1/\∃k xs,knd.is s.heap k a/\s.heap.DictOfH knd d xs/\xs.length<=sizeLine /\
   (∀p,atKey xs k=Z p->R (.ok (.ret p.2)) { s with toks:=s.toks+knd.draws k }) /\
   (atKey xs k=Z_->∀h',h'.DictOfH knd d (storedH xs k a dflt)->ZA6 d s.heap h'->R (.ok (.ret dflt)) { s with heap:=h',toks:=s.toks+knd.draws k })) :=
 .of_wp λA R s ⟨hu,k,xs,hkey,hm,hz,h1,h2⟩=>by unfold Builtin.«dict.setdefault»;refine Zzv ?_;unfold Builtin.Dict.keyAndDefault;refine Zzv (wpAny_notOrdered_dict hm.typeIs ?_);show wpAny _ _ (pure (d,ZAh a,Z dflt)) _ _ s;refine Zzz ?_;show wpAny _ _ (if(d==ZA4)=ZEN then _ else(dictSetDefault d (.ref a) dflt >>= _)) _ _ s;rw[if_neg (by rw[hd]; exact ZAi)];exact Zzv (ZlV hu hkey hm hz (λp hp=>Zzz ⟨p.2,rfl,h1 p hp⟩) λhn h' hm' hs'=>Zzz ⟨dflt,rfl,h2 hn h' hm' hs'⟩)
end
section
variable{X:Cx}{pins:List (Addr × Obj)}{σ:L2.St}{H:Hp}{s:Shared}{a b:Addr}{z:V}{r:Value}{A:Around}{E:Value->Shared->Prop}{kvs:List (List Key × V)}{k:List Key}
theorem ZwV(hu:A.units+1<cLine)(I:Inv X pins σ H s)(e:H a=Z (.dT kvs))(eb:H b=Z (.tup (k.map kV)))(hl:kvs.length<sizeLine)(rz:RelV z r)
  (h1:∀v,ZaI kvs k=Z v->∀w' s',Inv X pins σ H s'->RelV v w'->Q w' s') (h2:ZaI kvs k=Z_->∀s',Inv X pins σ (upd H a (.dT (kvs++[(k,z)]))) s'->Q r s') :
  wpAny (model X.prog X.w) A (call (.builtin "dict.setdefault") [.ref a,.ref b,r]) Q E s:=by
 obtain⟨zz,hd,xs,rel,dd⟩:=Zuz I.hok e;have hz:xs.length<=sizeLine:=by rw[<-ZCb rel]; exact zz
 have hv:=rel.val k;refine call_meetsIn ZDk dd.typeIs PySem.F.entry_dict_setdefault (PySem.F.args_dict_setdefault_3 _ _ _) (ZjN (knd:=ZCA (Zaq X.prog X.w)) a b hd r) ⟨ZBH hu,k,xs,Zgu I.hok eb,dd,hz,λp hp=>?_,λhn h' dd' hs=>?_⟩
 ·rw[hp]at hv
  cases hvv:ZaI kvs k with
  | none=>rw[hvv]at hv; exact hv.elim
  | some v=>rw[hvv]at hv; exact h1 v hvv _ _ (I.tok _) hv
 ·rw[hn]at hv
  have hvv:ZaI kvs k=Z_:=by
   cases hvv:ZaI kvs k with
   | none=>rfl
   | some v=>rw[hvv]at hv; exact hv.elim
  refine h2 hvv _ ?_;have hp:=rel.put k eb rz;have epk:putK kvs k z=kvs++[(k,z)]:=by unfold putK;rw[if_neg];rw[ZkL,hvv];simp
  rw[epk]at hp;obtain⟨q,es,ep,hq,g2,g3,g4,_,g5⟩:=dd';refine ZjJ I (by rw[e]; exact ZCI) hs ⟨q,hq⟩ ⟨by rw[ZzM]; exact hl,hd,_,hp.keeps λc ys ec=>?_,q,es,ep,hq,g2,g3,g4,g5⟩;rw[Zx (Zux ec e (λz=>nomatch z))];exact ec
end
def Zy1(td ty tx:TE):TE:=λσ H Q=>td σ H λx H1=>∃a,x=.ref a/\IsD H1 a/\ty σ H1 λy H2=>tx σ H2 λz H3=>∃kvs k b,H3 a=Z (.dT kvs)/\y=.ref b/\H3 b=Z (.tup (k.map kV))/\kvs.length<sizeLine /\
 (∀v,ZaI kvs k=Z v->Q v H3)/\(ZaI kvs k=Z_->Q z (upd H3 a (.dT (kvs++[(k,z)]))))
section
variable{X:Cx}{o e f:Expr}{apos cpos:Pos}{td ty tx:TE}
theorem ZwH(hu:X.A.units+1<cLine)(ho:PE X o td)(he:PE X e ty)(hf:PE X f tx)(m:M2 X o "setdefault" apos e f cpos):PE X (.Call (.Attribute o "setdefault" apos) [e,f] [] cpos) (Zy1 td ty tx):=by intro pins s σ H Q I h;refine wpAny_Call_method m.base m.few m.line ZD5 ZDk PySem.F.type_dict_setdefault (thn (ho pins s σ H _ I h) λu s1 ⟨x,H1,I1,rx,a,ex,d,q1⟩=>?_);subst ex;obtain rfl:u=ZAh a:=rx;obtain⟨t1,t2,_⟩:=ZsN I1 d;refine⟨t1,t2,?_⟩;rw[m.trees];refine ZCe rfl (ZCo (ZCC (thn (he pins s1 σ H1 _ I1 q1) λiv s2 ⟨y,H2,I2,ry,q2⟩=>ZCC (thn (hf pins s2 σ H2 _ I2 q2) λfv s3 ⟨z,H3,I3,rz,kvs,k,b,ea,ey,eb,hl,q3,q4⟩=>ZDC ?_))));subst ey;obtain rfl:iv=ZAh b:=ry;exact ZwV hu I3 ea eb hl rz (λv hv w' s4 I4 rw'=>⟨v,H3,I4,rw',q3 v hv⟩) λhn s4 I4=>⟨z,_,I4,rz,q4 hn⟩
end
def OT(K:Zzx)(F H:Hp)(kvs:List (List Key × List PyData))(vvs:List (List Key × V))(ls:List Addr):Prop:=kvs.map (·.1)=vvs.map (·.1)/\vvs.map (·.2)=ls.map V.ref /\
 ∀(i:Nat) (ds:List PyData) (l:Addr),(kvs.map (·.2))[i]?=Z ds->ls[i]?=Z l->∃vs,H l=Z (.lst vs)/\Zs K F ds vs
section
variable{K:Zzx}{F F' H H':Hp}{kvs:List (List Key × List PyData)}{vvs:List (List Key × V)}{ls:List Addr}
theorem OT.len(q:OT K F H kvs vvs ls):kvs.length=ls.length/\kvs.length=vvs.length:=by have e1:=congrArg ZAg q.1;have e2:=congrArg ZAg q.2.1;rw[Zzw,Zzw]at e1 e2;omega
theorem OT.mono(q:OT K F H kvs vvs ls)(s:Zq F F')(k:∀a∈ls,∀o,H a=Z o->H' a=Z o):OT K F' H' kvs vvs ls :=
 ⟨q.1,q.2.1,λi ds l h1 h2=>let ⟨vs,q1,q2⟩:=q.2.2 i ds l h1 h2; ⟨vs,k l (Zz5 h2) _ q1,q2.mono s⟩⟩
theorem OT.snoc(q:OT K F H kvs vvs ls)(k:List Key)(hp:H p=Z (.lst [])):OT K F H (kvs++[(k,[])]) (vvs++[(k,.ref p)]) (ls++[p]):=by
 refine⟨by rw[Zz4,Zz4,q.1]; rfl,by rw[Zz4,Zz4,q.2.1]; rfl,λi ds l h1 h2=>?_⟩;have hl:=q.len;rw[Zz4]at h1
 by_cases hi:i<kvs.length
 ·rw[ZAq (by rw[Zzw]; exact hi)]at h1
  rw[ZAq (by omega)]at h2;exact q.2.2 i ds l h1 h2
 ·rw[ZAk (by rw[Zzw]; omega),Zzw]at h1
  rw[ZAk (by omega),<-hl.1]at h2;cases hj:i-kvs.length with
  | zero=>rw[hj]at h1 h2;cases h1; cases h2;exact⟨[],hp,.nil⟩
  | succ j=>rw[hj]at h1; cases h1
theorem OT.look(q:OT K F H kvs vvs ls)(k:List Key):(∀ds,HM.Zj kvs k=Z ds->∃l' vs,ZaI vvs k=Z (.ref l')/\l'∈ls/\H l'=Z (.lst vs)/\Zs K F ds vs)/\(HM.Zj kvs k=Z_->ZaI vvs k=Z_):=ZkI k kvs vvs ls q.1 q.2.1 q.2.2
theorem OT.app(k:List Key){d:PyData}{v:V}:∀{kvs:List (List Key × List PyData)} {vvs:List (List Key × V)} {ls:List Addr},OT K F H kvs vvs ls->ls.Nodup->Rep K F d v->∀{l':Addr} {vs:List V},ZaI vvs k=Z (.ref l')->H l'=Z (.lst vs) ->
  OT K F (upd H l' (.lst (vs++[v]))) (HM.ZdA kvs k d) vvs ls
 | [],[],_,q,_,_,l',vs,hv,_=>by cases hv
 | [],_::_,_,q,_,_,_,_,_,_=>by have:=q.len; simp at this
 | _::_,[],_,q,_,_,_,_,_,_=>by have:=q.len; simp at this
 | _::_,_::_,[],q,_,_,_,_,_,_=>by have:=q.len; simp at this
 | (k1,ds1)::kvs,(k2,v2)::vvs,l1::ls,q,nd,rd,l',vs,hv,hl=>by
  obtain⟨q1,q2,q3⟩:=q;rw[ZzG,ZzG]at q1 q2;injection q1 with e1 e2
  injection q2 with e3 e4
  have e1:k1=k2:=e1;have e3:v2=.ref l1:=e3;subst e1 e3;have rest:OT K F H kvs vvs ls:=⟨e2,e4,λi ds l h1 h2=>q3 (i+1) ds l (by simpa using h1) (by simpa using h2)⟩;obtain⟨n1,n2⟩:=ZAm.mp nd;obtain⟨us,f1,f2⟩:=q3 0 ds1 l1 rfl rfl;unfold HM.ZdA
  by_cases hk:k1=k
  ·rw[if_pos hk]
   rw[ZdT (p:=(k1,V.ref l1)) hk]at hv;cases hv;rw[hl]at f1;cases f1;refine⟨by rw[ZzG,ZzG,e2],by rw[ZzG,ZzG,e4],λi ds l h1 h2=>?_⟩;cases i with
   | zero=>cases h1; cases h2;exact⟨_,Zy,f2.append (.one rd)⟩
   | succ i=>rw[ZzG,ZAf]at h1;rw[ZAf]at h2;obtain⟨us,g1,g2⟩:=rest.2.2 i ds l h1 h2;exact⟨us,by rw[Zx (λz=>n1 (by rw[<-z]; exact Zz5 h2))]; exact g1,g2⟩
  ·rw[if_neg hk]
   rw[ZdZ (p:=(k1,V.ref l1)) hk]at hv;have ih:=OT.app k rest n2 rd hv hl;have hne:l1≠l':=by
    rintro rfl
    have:∀(vvs:List (List Key × V)) (ls:List Addr),vvs.map (·.2)=ls.map V.ref->∀l',ZaI vvs k=Z (.ref l')->l'∈ls:=by
     intro vvs
     induction vvs with
     | nil=>intro ls _ l' h; cases h
     | cons p vvs ih =>
      intro ls he l' h;cases ls with
      | nil=>simp at he
      | cons l ls =>
       rw[ZzG,ZzG]at he;injection he with he1 he2
       by_cases hp:p.1=k
       ·rw[ZdT hp]at h
        rw[he1]at h;cases h;exact ZzB
       ·rw[ZdZ hp]at h
        exact ZzD _ (ih ls he2 l' h)
    exact n1 (this vvs ls e4 _ hv)
   refine⟨by rw[ZzG,ZzG,ih.1],by rw[ZzG,ZzG,e4],λi ds l h1 h2=>?_⟩;cases i with
   | zero=>cases h1; cases h2;exact⟨us,by rw[Zx hne]; exact f1,f2⟩
   | succ i=>rw[ZzG,ZAf]at h1;rw[ZAf]at h2;exact ih.2.2 i ds l h1 h2
end
theorem Zbi.otl{K:Zzx}{F0 H0 F H:Hp}{r:HM.Env}{σ:L2.St}{fp:Nat->List Addr}{i:Nat}{kvs:List (List Key × List PyData)}(e:Zbi K F0 H0 F H r σ fp)(h:r[i]?=Z (Z (.otl kvs))) :
  ∃a vvs ls,σ[i]?=Z (Z (.ref a))/\H a=Z (.dT vvs)/\OT K F H kvs vvs ls/\fp i=a::ls:=by
 obtain⟨v,h1,h2⟩:=e.at_ i _ h;generalize hf:fp i=q at h2;cases h2 with
 | otl k1 k2 k3 k4=>exact⟨_,_,_,h1,k1,⟨k2,k3,k4⟩,rfl⟩
theorem Zbi.otlNew{Fb Hb:Hp}{fp:Nat->List Addr}(k:List Key)(eb:Zbi K F0 H0 Fb Hb r σ fp)(x:Ext Fb Hb F H)(h:r[i]?=Z (Z (.otl kvs)))(hp:H p=Z (.lst []))(hF:F p=Z_)(hb:Hb p=Z_) :
  ∃a vvs,σ[i]?=Z (Z (.ref a))/\H a=Z (.dT vvs)/\vvs.length=kvs.length/\(HM.Zj kvs k=Z_->ZaI vvs k=Z_)/\At K F0 H0 F (upd H a (.dT (vvs++[(k,.ref p)]))) (r.set i (Z (.otl (kvs++[(k,[])])))) σ:=by
 have e:=eb.grow x;obtain⟨a,vvs,ls,h1,h2,h3,h4⟩:=e.otl h;have hpn:∀j,p ∉ fp j:=λj hj=>by obtain⟨o,ho⟩:=eb.there hj;rw[hb]at ho; cases ho
 have hpa:p≠a:=λz=>hpn i (by rw[h4,z]; exact ZzB);have hal:a ∉ ls:=(ZAm.mp (h4▸e.nd i)).1;have nl:ls.Nodup:=(ZAm.mp (h4▸e.nd i)).2;have hpl:p ∉ ls:=λz=>hpn i (by rw[h4]; exact ZzD _ z);refine⟨a,vvs,h1,h2,h3.len.2.symm,(h3.look k).2,?_⟩;have q:=h3.snoc k hp;have q':OT K F (upd H a (.dT (vvs++[(k,.ref p)]))) (kvs++[(k,[])]) (vvs++[(k,.ref p)]) (ls++[p]):=q.mono (Zq.refl F) λc hc o z=>by
  rw[Zx]
  ·exact z
  ·rintro rfl
   rcases Zz3.mp hc with hc | hc
   ·exact hal hc
   ·exact hpa (ZzF.mp hc).symm
 have nd':(a::(ls++[p])).Nodup:=by
  refine ZAm.mpr ⟨?_,?_⟩
  ·intro z
   rcases Zz3.mp z with z | z
   ·exact hal z
   ·exact hpa (ZzF.mp z).symm
  ·rw[ZBy]
   refine⟨nl,by simp,λx hx y hy=>?_⟩;obtain rfl:y=p:=by simpa using hy
   rintro rfl
   exact hpl hx
 refine e.changeW h1 (fp':=a::(ls++[p])) (.otl Zy q'.1 q'.2.1 q'.2.2) nd' (λc hc=>?_) λc o z hn=>?_
 ·rcases ZzK.mp hc with z | z
  ·subst z; exact .inl (by rw[h4]; exact ZzB)
  ·rcases Zz3.mp z with z | z
   ·exact .inl (by rw[h4]; exact ZzD _ z)
   ·obtain rfl:c=p:=ZzF.mp z
    exact .inr ⟨hF,eb.ext.hh.free hb,hpn⟩
 ·rw[Zx (λy=>hn (by rw[h4,y]; exact ZzB))]
  exact z
theorem At.otlApp(k:List Key)(e:At K F0 H0 F H r σ)(h:r[i]?=Z (Z (.otl kvs)))(hd:HM.Zj kvs k=Z ds) :
  ∃a vvs l vs,σ[i]?=Z (Z (.ref a))/\H a=Z (.dT vvs)/\ZaI vvs k=Z (.ref l)/\H l=Z (.lst vs)/\Zs K F ds vs/\∀d v,Rep K F d v->At K F0 H0 F (upd H l (.lst (vs++[v]))) (r.set i (Z (.otl (HM.ZdA kvs k d)))) σ:=by
 obtain⟨fp,e⟩:=e;obtain⟨a,vvs,ls,h1,h2,h3,h4⟩:=e.otl h;obtain⟨l,vs,g1,g2,g3,g4⟩:=(h3.look k).1 ds hd;have hal:a ∉ ls:=(ZAm.mp (h4▸e.nd i)).1;have nl:ls.Nodup:=(ZAm.mp (h4▸e.nd i)).2;have hne:a≠l:=λz=>hal (by rw[z]; exact g2);refine⟨a,vvs,l,vs,h1,h2,g1,g3,g4,λd v rd=>?_⟩;have q:=h3.app k nl rd g1 g3;refine e.change h1 (fp':=a::ls) (.otl (by rw[Zx hne]; exact h2) q.1 q.2.1 q.2.2) (h4▸e.nd i) (λc hc=>.inl (by rw[h4]; exact hc)) λc o z hn=>?_;rw[Zx (λy=>hn (by rw[h4,y]; exact ZzD _ g2))];exact z
section
variable{X:Cx}{a b c e:Expr}{fa fb fc:HM.EF}{pos p:Pos}{f:HM.BF}
theorem Zr7{k:List Key}(h:HM.Zj kvs k=Z ds):HM.ZcC kvs k=kvs:=by unfold HM.ZcC; rw[h]
theorem ZsV{k:List Key}(h:HM.Zj kvs k=Z_):HM.ZcC kvs k=kvs++[(k,[])]:=by unfold HM.ZcC; rw[h]
theorem Zs5(hu:X.A.units+1<cLine)(i:Nat){x:Str}{p0 p1 p2 p3 p4 p5:Pos}(hk:XE X b fb)(ha:XE X a fa)(m:M2 X (.Name x p0) "setdefault" p1 b (.List [] p2) p3)(hN:X.N[i]?=Z x:=by rfl)(hv:Vis X.env.scope x:=by first | exact ZAt rfl | exact Zz8 (ZAt rfl) | exact Zz8 (Zz8 rfl))(hd:(x==("__debug__":Str))=ZEO:=by decide)(hcd:(x==("__classdict__":Str))=ZEO:=by decide)
  (hbase:ZBM (.Call (.Attribute (.Name x p0) "setdefault" p1) [b,.List [] p2] [] p3) "append" X.env (eval (.Call (.Attribute (.Name x p0) "setdefault" p1) [b,.List [] p2] [] p3) X.env)=eval (.Call (.Attribute (.Name x p0) "setdefault" p1) [b,.List [] p2] [] p3) X.env:=by rfl)
  (hfew:((backTo p5 (ZzC [a] X.env)).all (λx=>!x.1)&&(ZDV p5 (ZCW [] X.env)).all (λx=>x.1.isSome)&&decide (([a]:List Expr).length+([]:List Keyword).length+(if([]:List Keyword).isEmpty then 0 else 1)<30))=ZEN:=by rfl)
  (hline:(p4.endLine==p5.line)=ZEN:=by rfl) (hs:ZzC [a] X.env=[(ZEO,eval a X.env)]:=by rfl):XS X (.Expr (.Call (.Attribute (.Call (.Attribute (.Name x p0) "setdefault" p1) [b,.List [] p2] [] p3) "append" p4) [a] [] p5) pos) (HM.Zoe i fb fa):=by
 intro r o h;unfold HM.Zoe at h;split at h
 ·rename_i y hy
  split at h
  ·rename_i kvs hb
   split at h
   ·rename_i k hk'
    split at h
    ·rename_i hzz
     split at h
     ·rename_i d hd'
      split at h
      ·rename_i ds hds
       split at h
       ·rename_i hz
        cases h;have hi:i<r.length:=(ZzL.mp hb).1;have hb':(r.set i (Z (.otl (HM.ZcC kvs k))))[i]?=Z (Z (.otl (HM.ZcC kvs k))):=ZAr hi;refine PS.imp (Zhu (Zrt ZB9 ZDX ZDY Zjo (ZwH hu (ZbQ hN hv hd hcd) (hk r y hy) (Zba (X:=X) Zf (by simp) r (.ol []) rfl) m) (Zaa (ha _ d hd') ZbJ hs) hbase hfew hline hs rfl)) λE σ H ⟨F0,H0,F,at_,kk⟩=>?_;have fin:∀{F3 H3:Hp} {l:Addr},At X.K F0 H0 F3 H3 (r.set i (Z (.otl (HM.ZcC kvs k)))) σ->(∃vs,SqL X.K H3 l vs)->(∀a' vvs',σ[i]?=Z (Z (.ref a'))->H3 a'=Z (.dT vvs')->ZaI vvs' k=Z (.ref l)) ->
          tyV X.K "list" (.ref l) H3/\Now X.K (r.set i (Z (.otl (HM.ZcC kvs k)))) σ H3 λF0 H0 F=>∀v F' H',Ext F H3 F' H'->Rep X.K F' d v->ZpY (.ref l) [v] H' λ_ H'=>E.nx σ H':=by
         intro F3 H3 l at3 hl hat;refine⟨.inl ⟨rfl,hl⟩,F0,H0,F3,at3,λv F4 H4 x4 r4=>?_⟩;obtain⟨aa',vvs',l',vs',g1,g2,g3,g4,g5,g6⟩:=(at3.grow x4).otlApp k hb' hds;obtain⟨aa2,vvs2,l2,vs2,f1,f2,f3,_⟩:=at3.otlApp k hb' hds;rw[f1]at g1;cases g1;rw[x4.hh _ _ f2]at g2;cases g2;rw[hat _ _ f1 f2]at g3;cases g3;have g7:=g6 d v r4;rw[ZC9]at g7;refine⟨_,vs',v,rfl,rfl,g4,?_,kk _ F4 _ g7⟩;rw[<-g5.1];exact Zhq hz
        obtain⟨fq,eb⟩:=at_;obtain⟨aa,vvs,ls,e1,e2,e3,e4⟩:=eb.otl hb;refine⟨.ref aa,e1,aa,rfl,.inr ⟨vvs,.inl e2⟩,F0,H0,F,⟨fq,eb⟩,λw F1 H1 x1 r1=>⟨F0,H0,F1,At.grow ⟨fq,eb⟩ x1,λv F2 H2 x2 ⟨fp,r2,nd,hn⟩=>?_⟩⟩;obtain⟨bb,rfl,hbb⟩:=Zdj hk' r1;have x12:=x1.trans x2;have hz0:vvs.length<sizeLine:=by rw[<-e3.len.2]; exact Zhq hzz
        refine⟨vvs,k,bb,x12.hh _ _ e2,rfl,x2.hh _ _ (x1.sub _ _ hbb),hz0,λu hu'=>?_,λhno=>?_⟩
        ·have hls:∃ds0,HM.Zj kvs k=Z ds0:=by
          cases hq:HM.Zj kvs k with
          | some ds0=>exact⟨ds0,rfl⟩
          | none=>rw[(e3.look k).2 hq]at hu'; cases hu'
         obtain⟨ds0,hls⟩:=hls;have ead:=Zr7 hls;obtain⟨l0,vs0,q1,q2,q3,q4⟩:=(e3.look k).1 ds0 hls;rw[q1]at hu';cases hu';refine fin (F3:=F2) ?_ ⟨vs0,SqL.of (x12.hh _ _ q3)⟩ λa' vvs' z1 z2=>?_
         ·rw[ead]
          have:r.set i (Z (.otl kvs))=r:=by obtain⟨h1,h2⟩:=ZzL.mp hb;rw[<-h2];exact ZCi h1
          rw[this];exact At.grow ⟨fq,eb⟩ x12
         ·rw[e1]at z1
          cases z1;rw[x12.hh _ _ e2]at z2;cases z2;exact q1
        ·have hls:HM.Zj kvs k=Z_:=by
          cases hq:HM.Zj kvs k with
          | none=>rfl
          | some ds0=>obtain⟨l0,vs0,q1,_⟩:=(e3.look k).1 ds0 hq;rw[hno]at q1; cases q1
         have ead:=ZsV hls;cases r2 with
         | @ol l _ vs hl1 rs =>
          obtain rfl:vs=[]:=rs.nil_inv;have hHl:H l=Z_:=x1.hh.free (hn l (by simp)).2;obtain⟨aa2,vvs2,g1,g2,g3,g4,g5⟩:=eb.otlNew k x12 hb hl1 (hn l (by simp)).1 hHl;rw[e1]at g1;cases g1;rw[x12.hh _ _ e2]at g2;cases g2;have hne:l≠aa:=λz=>by rw[z,e2]at hHl; cases hHl
          refine fin (F3:=F2) (by rw[ead]; exact g5) ⟨[],SqL.of (by rw[Zx hne]; exact hl1)⟩ λa' vvs' z1 z2=>?_;rw[e1]at z1;cases z1;rw[Zy]at z2;cases z2;unfold ZaI at hno ⊢;rw[Option.map_eq_none_iff]at hno;rw[List.find?_append,hno];simp
       ·cases h
      ·cases h
     ·cases h
    ·cases h
   ·cases h
  ·cases h
 ·cases h
end
end HP
namespace HP
open PySem PyProof.Rows
variable{xs:Array Nat}{b:Bool}{i j:Nat}
def Zey(xs:Array Nat):Prop:=xs.toList.Pairwise (· < ·)
theorem Zey.lt(h:Zey xs){k:Nat}(hk:k<xs.size)(hik:i<k):xs.getD i 0<xs.getD k 0:=by have:=ZDL.mp h i k (by simpa using ZBs hik hk) (by simpa using hk) hik;simpa [ZBF,hk,ZBs hik hk]using this
theorem Zky{xs:Array Nat}(h:Zey xs)(j:Nat):∀(fuel lo hi:Nat),lo<=hi->hi<=xs.size->hi-lo<=fuel->(∀i,i<lo->xs.getD i 0<j)->(∀i,hi<=i->i<xs.size->j<=xs.getD i 0) ->
  ZCR xs j fuel lo hi<=xs.size/\(∀i,i<ZCR xs j fuel lo hi->xs.getD i 0<j)/\∀i,ZCR xs j fuel lo hi<=i->i<xs.size->j<=xs.getD i 0
 | 0,lo,hi,h1,h2,h3,a,b=>by
  obtain rfl:lo=hi:=by omega
  exact⟨h2,a,b⟩
 | fuel+1,lo,hi,h1,h2,h3,a,b=>by
  unfold ZCR;split
  ·rename_i hlt
   have hm:(lo+hi) / 2<xs.size:=by omega
   have e:xs.getD ((lo+hi) / 2) j=xs.getD ((lo+hi) / 2) 0:=by simp[ZBF,hm]
   dsimp only;rw[e]
   by_cases q:xs.getD ((lo+hi) / 2) 0<j
   ·rw[if_pos q]
    refine Zky h j fuel ((lo+hi) / 2+1) hi (by omega) h2 (by omega) (λi hi'=>?_) b
    by_cases c:i=(lo+hi) / 2
    ·rw[c]; exact q
    ·exact ZBs (h.lt hm (by omega)) q
   ·rw[if_neg q]
    refine Zky h j fuel lo ((lo+hi) / 2) (by omega) (by omega) (by omega) a (λi hi' hs=>?_)
    by_cases c:i=(lo+hi) / 2
    ·rw[c]; omega
    ·have:=h.lt hs (show(lo+hi) / 2<i by omega); omega
  ·obtain rfl:lo=hi:=by omega
   exact⟨h2,a,b⟩
theorem ZfM(h:Zey xs)(j:Nat):ZzJ xs j<=xs.size/\(∀i,i<ZzJ xs j->xs.getD i 0<j)/\∀i,ZzJ xs j<=i->i<xs.size->j<=xs.getD i 0 :=
 Zky h j xs.size 0 xs.size (ZBn _) (ZzH _) (by omega) (λi hi=>by omega) λi h1 h2=>by omega
theorem Zrm(h:Zey xs)(hi:i<xs.size):ZzJ xs (xs.getD i 0+1)=i+1:=by
 obtain⟨a,b,c⟩:=ZfM h (xs.getD i 0+1);apply Nat.le_antisymm
 ·apply ZB2
  intro q;have h1:=b (i+1) q;have h2:=h.lt (show i+1<xs.size by omega) (ZB3 i);omega
 ·apply ZB2
  intro q;have h1:=c (ZzJ xs (xs.getD i 0+1)) (ZzH _) (by omega)
  by_cases e:ZzJ xs (xs.getD i 0+1)=i
  ·rw[e]at h1; omega
  ·have:=h.lt hi (show ZzJ xs (xs.getD i 0+1)<i by omega); omega
theorem ZqO(h:Zey xs):ZzJ xs 0=0:=by obtain⟨a,b,c⟩:=ZfM h 0;apply Nat.eq_zero_of_not_pos;intro q;have:=b 0 q;omega
theorem Zj1(h:Zey xs)(hn:xs[ZzJ xs j]?≠Z j):Zey (Zz0 xs (ZzJ xs j) j):=by
 obtain⟨a,b,c⟩:=ZfM h j;unfold Zey;rw[ZCE];have gt:∀i,ZzJ xs j<=i->i<xs.size->j<xs.getD i 0:=by
  intro i h1 h2
  by_cases e:ZzJ xs j=i
  ·subst e
   have h3:=c _ h1 h2;have:xs.getD (ZzJ xs j) 0≠j:=λq=>hn (by
    have z:xs[ZzJ xs j]?=Z (xs.getD (ZzJ xs j) 0):=by simp[ZBF,h2]
    rw[z,q])
   omega
  ·have h3:=h.lt h2 (show ZzJ xs j<i by omega)
   have h4:=c _ (ZzH _) (show ZzJ xs j<xs.size by omega);omega
 rw[ZDd];refine⟨h.sublist (List.take_sublist ..),ZAo.mpr ⟨λx hx=>?_,h.sublist (List.drop_sublist ..)⟩,λx hx y hy=>?_⟩
 ·obtain⟨i,hi,rfl⟩:=ZDh hx
  rw[ZAO,ZzY]at hi;rw[List.getElem_drop];have:=gt (ZzJ xs j+i) (by omega) (by omega);simpa [ZBF,show ZzJ xs j+i<xs.size by omega]using this
 ·obtain⟨i,hi,rfl⟩:=ZDh hx
  rw[ZAN,ZzY]at hi;rw[List.getElem_take];have h1:=b i (by omega);have h1':xs.toList[i]'(by simp; omega)<j:=by simpa [ZBF,show i<xs.size by omega]using h1
  rcases ZzK.mp hy with e | e
  ·rw[e]; exact h1'
  ·obtain⟨k,hk,rfl⟩:=ZDh e
   rw[ZAO,ZzY]at hk;rw[List.getElem_drop];have h2:=gt (ZzJ xs j+k) (by omega) (by omega);have h2':j<xs.toList[ZzJ xs j+k]'(by simp; omega):=by simpa [ZBF,show ZzJ xs j+k<xs.size by omega]using h2
   exact ZBs h1' h2'
theorem has_none(j:Nat):SetTable.has #[] j=ZEO:=by simp[SetTable.has]
structure Tab(b:Bool)(t:SetTable):Prop where
 dum:t.dummies=#[]
 rise:Zey t.place
 led:t.led=b
 plain:t.plain=ZEN
 low:∀j∈t.place.toList,j<8
 mask:t.mask=if t.place.size<=4 then 7 else 31
theorem Tab.fresh(b:Bool):Tab b (SetTable.fresh 0 0 b):=⟨rfl,.nil,rfl,rfl,λj hj=>by simp[SetTable.fresh]at hj,rfl⟩
theorem Tab.few{t:SetTable}(h:Tab b t):t.place.size<=8:=by
 have key:∀(l:List Nat) (lo:Nat),l.Pairwise (· < ·)->(∀j∈l,lo<=j/\j<8)->l.length<=8-lo:=by
  intro l
  induction l with
  | nil=>intro lo _ _; simp
  | cons x l ih=>intro lo hp hb;have h1:=hb x (ZzB ..);have h2:=ih (x+1) (ZAo.mp hp).2 λy hy=>⟨(ZAo.mp hp).1 y hy,(hb y (ZzD _ hy)).2⟩;rw[ZzS]; omega
 have:=key t.place.toList 0 h.rise λj hj=>⟨ZBn _,h.low j hj⟩;simpa using this
theorem Zh3{t:SetTable}(h:Tab b t)(hj:j ∉ t.place.toList):t.slot j=.empty/\t.place[ZzJ t.place j]?≠Z j:=by have q:t.place[ZzJ t.place j]?≠Z j:=λe=>hj (by rw[<-ZAw]at e;exact Zz5 e);unfold SetTable.slot;dsimp only;rw[if_neg (by simpa using q),h.dum,has_none,if_neg (by simp)];exact⟨rfl,q⟩
theorem ZwJ{t:SetTable}(h:Tab b t)(j:Nat):t.put j=({ t with place:=Zz0 t.place (ZzJ t.place j) j },ZzJ t.place j):=by
 unfold SetTable.put;dsimp only;rw[h.dum,has_none];cases t;have:=h.dum
 simp_all
theorem size_insert{α:Type}(xs:Array α)(p:Nat)(x:α):(Zz0 xs p x).size=xs.size+1:=by rw[<-ZzY,(ZBi xs p x).length_eq];simp
theorem Zw5{t:SetTable}(h:Tab b t){es:Array (Int × Value)}(he:es.size=t.place.size)(h8:j<8)(hj:j ∉ t.place.toList)(v:Value) :
  layNew t es (j:Int) v=(Zz0 es (ZzJ t.place j) ((j:Int),v),{ t with place:=Zz0 t.place (ZzJ t.place j) j },ZEO,ZEO):=by
 obtain⟨e1,e2⟩:=Zh3 h hj;have hfew:=h.few;have hm:t.mask=7\/t.mask=31:=by rw[h.mask]; split<;>simp
 have hbits:ZEx (j:Int) % (t.mask+1)=j:=by
  have hb:ZEx (j:Int)=j:=by unfold ZEx; omega
  rw[hb];rcases hm with e | e<;>rw[e]<;>omega
 have hfree:t.freeSlot (j:Int)=Z (j,ZEO):=by
  unfold SetTable.freeSlot SetTable.probe;have hf:10*ZEp t.mask=(10*ZEp t.mask-1)+1:=by unfold ZEp; omega
  rw[hf];unfold SetTable.probe.go;have hp:(t.probeStart (j:Int)).j=j:=hbits;rw[hp,e1];rfl
 have hle:t.place.size<=7:=by
  apply ZB2;intro q;have h8':t.place.size=8:=by omega
  have:=ZA5 (l₁:=j::t.place.toList) (l₂:=ZzQ 8) (ZAm.mpr ⟨hj,h.rise.imp λq=>ZzU q⟩) (λx hx=>by
   rcases ZzK.mp hx with e | e
   ·rw[e]; exact ZAj.mpr h8
   ·exact ZAj.mpr (h.low x e))
  simp at this;omega
 have hfit:(ZCZ { t with place:=Zz0 t.place (ZzJ t.place j) j } (Zz0 es (ZzJ t.place j) ((j:Int),v)).size)=ZEN:=by unfold ZCZ ZC0;simp only[size_insert,he,h.dum];simp;rw[h.mask];split<;>omega
 unfold layNew;rw[hfree];dsimp only;rw[ZwJ h];dsimp only;unfold SetTable.orStandIn;rw[hfit];rfl
theorem Tab.ins{t:SetTable}(h:Tab b t)(h8:j<8)(hj:j ∉ t.place.toList)(hs:t.place.size≠4):Tab b { t with place:=Zz0 t.place (ZzJ t.place j) j }:=by
 obtain⟨_,e2⟩:=Zh3 h hj;refine⟨h.dum,Zj1 h.rise e2,h.led,h.plain,λx hx=>?_,?_⟩
 ·have:=(ZBi t.place (ZzJ t.place j) j).mem_iff.mp hx
  rw[ZBT]at this;rcases Zz3.mp this with q | q
  ·exact h.low x q
  ·rw[ZzF.mp q]; exact h8
 ·dsimp only
  rw[size_insert,h.mask];split<;>split<;>omega
def ZlP:List (List Nat):=(ZzQ 8).flatMap λa=>(ZzQ 8).flatMap λb=>(ZzQ 8).flatMap λc=>(ZzQ 8).flatMap λd=>(ZzQ 8).filterMap λe=>if a<b/\b<c/\c<d/\d<e then Z [a,b,c,d,e]else Z_
theorem ZpK{l:List Nat}(h:l.Pairwise (· < ·))(h8:∀j∈l,j<8)(h5:l.length=5):l∈ZlP:=by
 match l,h5 with
 | [a,b,c,d,e],_=>simp at h h8;unfold ZlP;simp only[ZB4,ZAj,ZAu];refine⟨a,by omega,b,by omega,c,by omega,d,by omega,e,by omega,?_⟩;rw[if_pos (by omega)]
theorem Zwl:∀l∈ZlP,(SetTable.layClean 31 (l.map λ(n:Nat)=>(n:Int)).toArray).map (λowner=>(ZzQ 32).filterMap λj=>(owner.getD j Z_).map (j,·))=Z (l.zip (ZzQ 5)):=by decide +kernel
end HP
namespace HP
open PySem PyProof.Rows
variable{es:Array (Int × Value)}{h:Heap}{ns:List Int}
def ZeA(e:Int × Value):Int:=match e.2 with
 | .int n _=>n
 | _=>0
section
variable(prog:Program)(w:World)
def ZnK(es:List (Int × Value)):Prop:=∀e∈es,∃n t,e=((intKind prog w).hash n,ZBl n t)
def ZdB(h:Heap)(a:Addr)(L:List Int):Prop:=∃o es ep t,h.get? a=Z o/\o.ExactSet/\o.data=.set es ep t/\ZnK prog w es.toList/\(es.toList.map ZeA).Perm L/\es.toList.map ZeA=t.place.toList.map (λ(j:Nat)=>(j:Int))/\Tab (!w.params.followText "set-order") t
end
section
variable{prog:Program}{w:World}{A:Around}{E:Value->Shared->Prop}{s:Shared}{a:Addr}{L:List Int}
theorem ZnK.elems{es:List (Int × Value)}(h:ZnK prog w es):ElemsOf (intKind prog w) es:=λe he=>by obtain⟨n,t,rfl⟩:=h e he;exact⟨⟨n,ZDM _ _ _ _,rfl⟩,rfl⟩
theorem ZdB.at'{h':Heap}(x:ZdB prog w h a L)(k:∀o,h.get? a=Z o->h'.get? a=Z o):ZdB prog w h' a L:=let ⟨o,es,ep,t,e,r⟩:=x; ⟨o,es,ep,t,k o e,r⟩
def stp(L:List Int)(n:Int):List Int:=if L.contains n then L else L++[n]
theorem Zsv{k n:Int}{t:Tok}:(intKind prog w).is k (.int n t)=ZEN↔n=k:=by
 constructor
 ·intro h
  exact(intKind prog w).inj _ _ _ (ZDM _ _ _ _) h
 ·rintro rfl; exact ZDM _ _ _ _
theorem Zii:∀(j:Nat),j<8->(intKind prog w).hash (j:Int)=(j:Int)
 | 0,_=>rfl
 | 1,_=>rfl
 | 2,_=>rfl
 | 3,_=>rfl
 | 4,_=>rfl
 | 5,_=>rfl
 | 6,_=>rfl
 | 7,_=>rfl
 | n+8,h=>by omega
theorem Tab.fits{b:Bool}{t:SetTable}(h:Tab b t):t.fits t.place.size=ZEN:=by have hf:=h.few;unfold ZCZ ZC0;rw[h.dum,h.mask];simp;split<;>omega
theorem size_of{t:SetTable}(h:es.toList.map ZeA=t.place.toList.map (λ(j:Nat)=>(j:Int))):es.size=t.place.size:=by have:=congrArg ZAg h;simpa using this
theorem Zln{o:Obj}{es':Array (Int × Value)}{ep:Nat}{t t':SetTable}(ho:h.get? a=Z o)(hex:o.ExactSet)(hd:o.data=.set es ep t)(hel:ZnK prog w es'.toList)(hp:(es'.toList.map ZeA).Perm L)
  (hs:es'.toList.map ZeA=t'.place.toList.map (λ(j:Nat)=>(j:Int))) (ht:Tab (!w.params.followText "set-order") t') :
  (h.update a (ZCK es' t')).get? a=Z { o with data:=.set es' (ep+1) t' }/\ZdB prog w (h.update a (ZCK es' t')) a L:=by
 have hg:(h.update a (ZCK es' t')).get? a=Z { o with data:=.set es' (ep+1) t' }:=by
  have:=ZAE (ZCK es' t') ho (by rw[putSet_of es' t' hd]; rfl)
  rwa [putSet_of es' t' hd]at this
 exact⟨hg,_,es',ep+1,t',hg,hex,rfl,hel,hp,hs,ht⟩
theorem Zuo{b:Bool}{t:SetTable}(hr:Zey t.place)(h8:∀j∈t.place.toList,j<8)(h5:t.place.size=5)(he:es.map (·.1)=(t.place.toList.map (λ(j:Nat)=>(j:Int))).toArray)(hl:t.led=b)(hp:t.plain=ZEN) :
  ∃t',relayAll t es 20=(es,t',ZEO)/\t'.place=t.place/\Tab b t':=by
 have hc:=Zwl _ (ZpK hr h8 (by simpa using h5));obtain⟨owner,o1,o2⟩:=Zzy.mp hc;have hsz:es.size=5:=by have:=congrArg Array.size he;simp at this;omega
 have hlen:t.place.toList.length=5:=by simpa using h5
 have z1:(t.place.toList.zip (ZzQ 5)).map (·.1)=t.place.toList:=List.map_fst_zip (by rw[hlen]; simp);have z2:(t.place.toList.zip (ZzQ 5)).map (·.2)=ZzQ 5:=List.map_snd_zip (by rw[hlen]; simp);have hrl:t.relaid (es.map (·.1)) 20=Z ({ mask:=31,place:=t.place,dummies:=#[],finger:=t.finger,led:=t.led,moves:=t.movedTo 31,plain:=t.plain },(ZzQ 5).toArray):=by
  unfold SetTable.relaid SetTable.laid;have e31:SetTable.sizeAbove 20-1=31:=by decide
  rw[e31,he,o1];show Z _=Z _;rw[o2,z1,z2]
 refine⟨{ mask:=31,place:=t.place,dummies:=#[],finger:=t.finger,led:=t.led,moves:=t.movedTo 31,plain:=t.plain },?_,rfl,⟨rfl,hr,hl,hp,h8,?_⟩⟩
 ·unfold relayAll
  rw[hrl];dsimp only;have ef:(ZzQ 5).toArray.filterMap (λx=>es[x]?)=es:=by apply Array.toList_inj.mp;rw[Array.toList_filterMap];have:=filterMap_getElem?_range es;rw[hsz]at this;simpa using this
  rw[ef];have ec:coversAll (ZzQ 5).toArray es.size=ZEN:=by rw[hsz]; decide
  have et:ZCZ { mask:=31,place:=t.place,dummies:=#[],finger:=t.finger,led:=t.led,moves:=t.movedTo 31,plain:=t.plain } es.size=ZEN:=by unfold ZCZ ZC0;simp[h5,hsz]
  rw[ec,et];rfl
 ·dsimp only
  rw[h5];rfl
theorem Ztx{j:Nat}{tk:Tok}{Q:Bool->Shared->Prop}(h8:j<8)(hX:ZdB prog w s.heap a L)
  (h:∀b h',ZA6 a s.heap h'->ZdB prog w h' a (stp L j)->Q b { s with heap:=h' }) :
  wpAny (model prog w) A (setAddHashed a (.int j tk) ((intKind prog w).hash j)) Q E s:=by
 obtain⟨o,es,ep,t,ho,hex,hd,hen,hpm,hpl,ht⟩:=hX;have hel:=hen.elems;have hsc:(ZBl (j:Int) tk).scannable=ZEN:=rfl;have hkey:(intKind prog w).is (j:Int) (.int j tk)=ZEN:=ZDM _ _ _ _;have hsz:=size_of hpl;have hfew:=ht.few;have hf:t.fits es.size=ZEN:=by rw[hsz]; exact ht.fits
 have hsb:scanBound=4096:=rfl;have hb:es.size<scanBound:=by omega
 unfold setAddHashed setAddHashedIn;refine ZAI (Zzv (ZCS ho hd hf ?_));dsimp only;rw[byScan_of hsc hb hel];simp only[↓reduceIte];unfold setAddByScan;refine Zzv (Zzv (ZCp (Zzv (wpAny_setScan_of hkey ho hd hf hel ?_))));cases hr:List.findIdx? (λe=>(intKind prog w).is (j:Int) e.2) es.toList with
 | some i =>
  dsimp only;obtain⟨hi,hpi,_⟩:=List.findIdx?_eq_some_iff_getElem.mp hr;have hmem:(j:Int)∈L:=by refine hpm.mem_iff.mp (ZzI.mpr ⟨es.toList[i],ZAW hi,?_⟩);obtain⟨m,u,e⟩:=hen _ (ZAW hi);rw[e]at hpi ⊢;exact Zsv.mp hpi
  refine Zzz (Zzz ?_);have e:s={ s with heap:=s.heap }:=by cases s; rfl
  have q:=h ZEO s.heap (ZEL a s.heap) ⟨o,es,ep,t,ho,hex,hd,hen,by unfold stp; rw[if_pos (by simpa using hmem)]; exact hpm,hpl,ht⟩;rw[e];exact q
 | none =>
  dsimp only;have hne:∀e∈es.toList,ZeA e≠(j:Int):=λe he hv=>by obtain⟨m,u,e1⟩:=hen e he;have no:=List.findIdx?_eq_none_iff.mp hr e he;rw[e1]at no hv;have yes:(intKind prog w).is (j:Int) (.int m u)=ZEN:=Zsv.mpr hv;exact absurd (yes.symm.trans no) (by simp)
  have hnm:(j:Int) ∉ L:=λhm=>by obtain⟨e,he,hv⟩:=ZzI.mp (hpm.mem_iff.mpr hm);exact hne e he hv
  have hj:j ∉ t.place.toList:=λhm=>by
   have:(j:Int)∈es.toList.map ZeA:=by rw[hpl]; exact ZzI.mpr ⟨j,hm,rfl⟩
   obtain⟨e,he,hv⟩:=ZzI.mp this;exact hne e he hv
  obtain⟨mk,pl,dm,fg,ld,mv,pn⟩:=t;obtain rfl:pn=ZEN:=ht.plain;obtain rfl:dm=#[]:=ht.dum;rw[Zii j h8,Zw5 ht hsz h8 hj];dsimp only;obtain⟨_,hnj⟩:=Zh3 ht hj;obtain⟨hle,_,_⟩:=ZfM ht.rise j;have hen1:ZnK prog w (Zz0 es (ZzJ pl j) ((j:Int),ZBl j tk)).toList:=λe he=>by
   have:=(ZBi _ _ _).mem_iff.mp he;rw[ZBT]at this;rcases Zz3.mp this with q | q
   ·exact hen e q
   ·exact⟨j,tk,by rw[Zii j h8]; exact ZzF.mp q⟩
  have hpm1:((Zz0 es (ZzJ pl j) ((j:Int),ZBl j tk)).toList.map ZeA).Perm (stp L j):=by unfold stp;rw[if_neg (by simpa using hnm)];refine((ZBi _ _ _).map ZeA).trans ?_;rw[ZBT,Zz4];exact hpm.append_right _
  have hpl1:(Zz0 es (ZzJ pl j) ((j:Int),ZBl j tk)).toList.map ZeA=(Zz0 pl (ZzJ pl j) j).toList.map (λ(j:Nat)=>(j:Int)):=by rw[ZCE,ZCE,Zz4,Zz4,ZzG,ZzG,List.map_take,List.map_take,List.map_drop,List.map_drop,hpl];rfl
  have hs1:(Zz0 es (ZzJ pl j) ((j:Int),ZBl j tk)).size=es.size+1:=size_insert _ _ _;generalize hE:Zz0 es (ZzJ pl j) ((j:Int),ZBl j tk)=es1 at hen1 hpm1 hpl1 hs1 ⊢;have hz1:es1.size<=sizeLine:=by rw[ZAS]; omega
  refine Zzv (Zzz ?_);simp only[↓reduceIte];refine Zzv ?_;rw[hashByValue_scannable 8 hsc];refine Zzz ?_;rw[show plainKind (ZBl (j:Int) tk)=ZEN from rfl];simp only[↓reduceIte];show wpAny (model prog w) A (do
    storeSet a es1 (⟨mk,Zz0 pl (ZzJ pl j) j,#[],fg,ld,mv,ZEN⟩:SetTable)
    if(!ZEO&&ZCq (⟨mk,Zz0 pl (ZzJ pl j) j,#[],fg,ld,mv,ZEN⟩:SetTable))=ZEN then _ else _) _ E s
  refine Zzv (wpAny_storeSet_of ho hd ?_ hz1);have hsb1:=ZAz s.heap a (ZCK es1 (⟨mk,Zz0 pl (ZzJ pl j) j,#[],fg,ld,mv,ZEN⟩:SetTable))
  by_cases h4:pl.size=4
  ·have hm:mk=7:=by have q:=ht.mask; dsimp only at q; rw[h4]at q; exact q
   have htf:ZCq (⟨mk,Zz0 pl (ZzJ pl j) j,#[],fg,ld,mv,ZEN⟩:SetTable)=ZEN:=by unfold ZCq ZC0;simp[size_insert,h4,ht.dum,hm]
   have hg:(s.heap.update a (ZCK es1 (⟨mk,Zz0 pl (ZzJ pl j) j,#[],fg,ld,mv,ZEN⟩:SetTable))).get? a=Z { o with data:=.set es1 (ep+1) (⟨mk,Zz0 pl (ZzJ pl j) j,#[],fg,ld,mv,ZEN⟩:SetTable) }:=by
    have:=ZAE (ZCK es1 (⟨mk,Zz0 pl (ZzJ pl j) j,#[],fg,ld,mv,ZEN⟩:SetTable)) ho (by rw[putSet_of _ _ hd]; rfl)
    rwa [putSet_of _ _ hd]at this
   have hh:es1.map (·.1)=((Zz0 pl (ZzJ pl j) j).toList.map (λ(j:Nat)=>(j:Int))).toArray:=by
    apply Array.toList_inj.mp;rw[Array.toList_map,<-hpl1];refine ZA3 λe he=>?_;obtain⟨m,u,e1⟩:=hen1 e he;have hm:m∈es1.toList.map ZeA:=ZzI.mpr ⟨e,he,by rw[e1]; rfl⟩;rw[hpl1]at hm;obtain⟨k,hk,rfl⟩:=ZzI.mp hm;have hk8:k<8:=by
     have:=(ZBi _ _ _).mem_iff.mp hk;rw[ZBT]at this;rcases Zz3.mp this with q | q
     ·exact ht.low k q
     ·rw[ZzF.mp q]; exact h8
    rw[e1];exact Zii (prog:=prog) (w:=w) k hk8
   obtain⟨t',r1,r2,r3⟩:=Zuo (b:=!w.params.followText "set-order") (t:=(⟨mk,Zz0 pl (ZzJ pl j) j,#[],fg,ld,mv,ZEN⟩:SetTable)) (es:=es1) (Zj1 ht.rise hnj)
    (λk hk=>by
     have:=(ZBi _ _ _).mem_iff.mp hk;rw[ZBT]at this;rcases Zz3.mp this with q | q
     ·exact ht.low k q
     ·rw[ZzF.mp q]; exact h8) (by dsimp only; rw[size_insert,h4]) hh ht.led ht.plain
   have hgr:SetTable.grown es1.size=20:=by rw[hs1,hsz,h4]; rfl
   rw[htf];simp only[Bool.not_false,Bool.and_self,↓reduceIte];rw[hgr,r1];dsimp only;refine Zzv (Zzz (Zzv (wpAny_storeSet_of hg rfl ?_ hz1)));obtain⟨_,hS2⟩:=Zln (prog:=prog) (t':=t') hg hex rfl hen1 hpm1 (by rw[r2]; exact hpl1) r3;exact Zzz (Zzz (h ZEN _ (hsb1.trans (ZAz _ a _)) hS2))
  ·have htf:ZCq (⟨mk,Zz0 pl (ZzJ pl j) j,#[],fg,ld,mv,ZEN⟩:SetTable)=ZEO:=by
    unfold ZCq ZC0;have q:=ht.mask;dsimp only at q;simp only[size_insert];rw[q];simp;have:=hfew;dsimp only at this;split<;>omega
   rw[htf];simp only[ZEn,ZA7,↓reduceIte];obtain⟨_,hS1⟩:=Zln (prog:=prog) (t':=(⟨mk,Zz0 pl (ZzJ pl j) j,#[],fg,ld,mv,ZEN⟩:SetTable)) ho hex hd hen1 hpm1 hpl1 (ht.ins h8 hj h4);exact Zzz (Zzz (h ZEN _ hsb1 hS1))
end
section
variable{prog:Program}{w:World}{A:Around}{E:Value->Shared->Prop}{s:Shared}
abbrev ZcW(w:World):Obj:={ cls:=.type "set",dict:=Z_,data:=.set #[] 0 (.fresh 0 0 (!w.params.followText "set-order")) }
theorem ZmR(v:Value){Q₁:Value->Shared->Prop}(h:Q₁ (.ref s.heap.objs.size) { s with heap:=s.heap.push (ZcW w) }) :
  codeAny (model prog w) A (.call (.builtin "set.__new__") ⟨[.type "set",v],[]⟩) (wants Q₁ E) s:=by
 refine codeAny_of_tree ?_;show wpAny _ A.in1 (do checkBuiltinCall "set.__new__" ⟨[.type "set",v],[]⟩; again (.builtin "set.__new__" ⟨[.type "set",v],[]⟩)) _ _ s;refine Zzv (ZDo (PySem.F.newCall_set_1 v) (Zzz ⟨ZBP ZEq _,ZAT PySem.F.entry_set_new ?_⟩));rw[ZAH ZEq _];unfold Builtin.«set.__new__» Builtin.Frozenset.newClass;have hsub:=sub_set_self;obtain⟨hp,g,d,tk,os⟩:=s;dsimp only
 wp_walk
 refine ZCr (Zzz ?_);dsimp only;simp only[newObj];exact Zzv (wpAny_alloc (Zzz (Zzz h)))
theorem Zuq(h:Heap):ZdB prog w (h.push (ZcW w)) h.objs.size [] :=
 ⟨_,#[],0,_,ZzP _ rfl,⟨rfl,rfl,rfl⟩,rfl,λe he=>by simp at he,.nil,rfl,Tab.fresh _⟩
theorem ZhQ:∀(l acc:List Int) (x:Int),HM.dedup acc (l++[x])=stp (HM.dedup acc l) x
 | [],acc,x=>by show HM.dedup acc [x]=stp acc x;unfold HM.dedup stp;split<;>rfl
 | y::l,acc,x=>by
  show HM.dedup acc (y::(l++[x]))=_;unfold HM.dedup;split
  ·exact ZhQ l acc x
  ·exact ZhQ l _ x
variable{R:Result->Shared->Prop}{I:Addr}{fp wr:List Addr}{G:Array GenState->Array GenState->Prop}{P:Nat->Value->Prop}{St:Nat->Shared->Prop}
theorem Zsg(W:WalksS prog w A.in1 I fp wr G ns.length P St)(S:Addr)(hSf:S ∉ fp)(hval:∀i v,P i v->∃t,v=.int (ns.getD i 0) t)(hb:∀n∈ns,0<=n/\n<8) :
  ∀(k i:Nat) (s:Shared),ns.length-i=k->i<=ns.length->St i s->ZdB prog w s.heap S (HM.dedup [] (ns.take i)) ->
   (∀s',Moved (S::wr) G s s'->ZdB prog w s'.heap S (HM.dedup [] ns)->R (.ok (.ret .none)) s') ->
   codeAny (model prog w) A (.builtin "set.update.loop" ⟨[.ref S,.ref I],[]⟩) R s:=by
 have hSw:S ∉ wr:=λh=>hSf (W.sub _ h);have hsub:∀b∈wr,b∈S::wr:=λb hb=>ZzD _ hb;intro k
 induction k with
 | zero =>
  intro i s hk hi hst hS hR;obtain rfl:i=ns.length:=by omega
  rw[List.take_length]at hS;refine ZAT F.entry_set_update_loop ?_;rw[ZAH F.plain_set_update_loop _];show wpAny _ A.in1 (pyNext (.ref I) >>= _) _ _ s;refine Zzv (W.done s _ _ hst λs' hm=>?_);show wpAny _ A.in1 (ret ZAx) _ _ s';exact Zzz (hR s' (hm.mono hsub) (hS.at' λo e=>hm.heap S o hSw e))
 | succ k ih =>
  intro i s hk hi hst hS hR;have hlt:i<ns.length:=by omega
  refine ZAT F.entry_set_update_loop ?_;rw[ZAH F.plain_set_update_loop _];show wpAny _ A.in1 (pyNext (.ref I) >>= _) _ _ s;refine Zzv (W.item i s _ _ hlt hst λv s' hP hst' hm=>?_);obtain⟨t,rfl⟩:=hval i v hP;have hS':=hS.at' (h':=s'.heap) λo e=>hm.heap S o hSw e;show wpAny _ A.in1 (holding [ZBl (ns.getD i 0) t] (setAdd S (.int (ns.getD i 0) t)) >>= _) _ _ s';refine Zzv (ZAI ?_);unfold setAdd;refine ZAI (Zzv ((intKind prog w).pyHash (k:=ns.getD i 0) (ZDM _ _ _ _) ?_));have hbi:=hb (ns.getD i 0) (by rw[ZA0,ZzT hlt]; exact ZAW hlt);obtain⟨j,ej⟩:∃j:Nat,ns.getD i 0=(j:Int):=⟨(ns.getD i 0).toNat,by omega⟩;have e:stp (HM.dedup [] (ns.take i)) (ns.getD i 0)=HM.dedup [] (ns.take (i+1)):=by rw[<-ZhQ,List.take_succ,ZA0];simp[hlt]
  rw[ej]at e hbi ⊢;refine Ztx (s:={ s' with toks:=s'.toks+1 }) (by omega) hS' λb h' hsb hS2=>?_;rw[e]at hS2;refine Zzz ⟨ZBP F.plain_set_update_loop _,ih (i+1) _ (by omega) hlt (W.frame _ s' _ _ hst' (ZEk _) λb hb o e=>?_) hS2 λs'' hm'' hS''=>?_⟩
  ·rw[hsb.2 b (λh:b=S=>hSf (by rw[<-h]; exact hb))]; exact e
  ·refine hR s'' (Moved.trans W.gtrans ((hm.mono hsub).then_heap (ZEk _) λb o hb e=>?_) hm'') hS''
   rw[hsb.2 b (λh:b=S=>hb (by rw[h]; exact ZzB))]; exact e
set_option maxHeartbeats 3200000 in
theorem ZrR{l:Addr}{items:Array Value}{Q:Value->Shared->Prop}(hh:A.handled=Z_)(hl:s.heap.IsList l items)(hi:IntsAre items.toList ns)(hb:∀n∈ns,0<=n/\n<8)
  (h:∀(h':Heap) (tk:Nat),ZdB prog w h' s.heap.objs.size (HM.dedup [] ns)->(∀b o,b<s.heap.objs.size->s.heap.get? b=Z o->h'.get? b=Z o)->Q (.ref s.heap.objs.size) { s with heap:=h',toks:=tk }) :
  wpAny (model prog w) A (call (.type "set") [.ref l]) Q E s:=by
 have hsz:items.size=ns.length:=by rw[<-hi.length,ZzY]
 obtain⟨c,tl,hmro⟩:=ZA8.mro;have hmade:=ZA8.made;have hsub:=ZA8.sub;refine ZDH (codeAny_of_tree ?_);show wpAny _ _ (callAny (.type "set") _) _ _ _;refine Zzz ⟨Code.quiet_builtin _ (by decide +kernel),ZAT PySem.F.entry_type_call ?_⟩;rw[Around.under_plain (weight_type_call_type "set" [.ref l] []) rfl];have h1:=ZA8.notType;have h2:=ZA8.canCreate;have hct:=PySem.F.typeCall_set_1 (.ref l)
 repeat (any_goals (first | assumption | wp_step))
 refine ZBp (ZmR (.ref l) (E:=E) (Q₁:=λobj s₁=>obj=.ref s.heap.objs.size/\s₁={ s with heap:=s.heap.push (ZcW w) }) ⟨rfl,rfl⟩) λr s₁ hr=>?_;cases r with
 | error e=>exact hr
 | ok fl =>
  cases fl with
  | ret obj =>
   obtain⟨rfl,rfl⟩:=hr;have hX:=Zuq (prog:=prog) (w:=w) s.heap;have hS:(s.heap.push (ZcW w)).get? s.heap.objs.size=Z (ZcW w):=ZzP _ rfl;have hT:Shared.TypeIs { s with heap:=s.heap.push (ZcW w) } (.ref s.heap.objs.size) "set":=⟨_,hS,rfl⟩;have hli:=ZA8.init.lookup;have hbi:=ZA8.init.bind (.ref s.heap.objs.size)
   repeat (any_goals (first | assumption | wp_step))
   refine ZBp (codeAny_call_builtin (R:=wants (λr s₂=>r=.none/\∃h' tk,s₂={ s with heap:=h',toks:=tk }/\ZdB prog w h' s.heap.objs.size (HM.dedup [] ns) /\
     (∀b o,b<s.heap.objs.size->s.heap.get? b=Z o->h'.get? b=Z o)) E) ZA8.init.plain PySem.F.entry_set_init (check_set_init_1 hT ?_)) λr₂ s₂ hr₂=>?_
   ·obtain⟨⟨ocls,odict,odata,oslots⟩,hol,hcl,nl,hdl⟩:=hl
    simp only at hcl hdl;subst hcl; subst hdl;have hol':(s.heap.push (ZcW w)).get? l=Z { cls:=.type "list",dict:=odict,data:=.seq items nl,slots:=oslots }:=ZzA _ hol;have hsls:=PySem.F.sub_list_set;have hslf:=PySem.F.sub_list_frozenset;have hne:(ZBU "list" == ZBU "dict")=ZEO:=by decide
    have hl1:(s.heap.push (ZcW w)).IsList l items:=⟨_,hol',rfl,nl,rfl⟩;unfold Builtin.«set.__init__» noKeywords Builtin.Frozenset.updateFrom;generalize hPI:pyIter=PI
    wp_walk
    subst hPI;refine ZDD hl1 (Zzv (wpAny_runValue ?_));have hlS:l<s.heap.objs.size:=ZzO hol;have hh3:A.in1.in1.in1.handled=Z_:=by simp[hh]
    have hneI:l≠(s.heap.push (ZcW w)).objs.size:=by rw[ZBE]; exact ZzU (ZCg hlS)
    have hSf:s.heap.objs.size ∉ [(s.heap.push (ZcW w)).objs.size,l]:=by rw[ZBE]; simp only[ZzK,ZzF,ZDZ,or_false,not_or];exact⟨ZzU (ZB3 _),ZCB hlS⟩
    have Wl:=(Walks.list (prog:=prog) (w:=w) hh3 _ l hneI items).toS;rw[hsz]at Wl;refine Zsg Wl s.heap.objs.size hSf (λi v hv=>IntsAre.int_at hi i v (by rw[ZAw]; exact hv)) hb (ns.length-0) 0 _ (by omega) (ZBn _)
     ⟨⟨_,ZzP _ rfl,rfl,rfl⟩,hl1.push _⟩ (hX.at' λo e=>ZzA _ e) λs' hm hS'=>?_
    obtain⟨h',g',d',tk',os'⟩:=s';have eg:g'=s.gens:=hm.gens;have ed:d'=s.drawn:=hm.drawn;have eo:os'=s.os:=hm.os;subst eg; subst ed; subst eo
    show wpAny _ _ _ _ _ _;refine Zzz ?_;show wpAny _ _ (ret ZAx) _ _ _;refine Zzz ⟨rfl,h',tk',rfl,hS',λb o hb e=>?_⟩;refine hm.heap b o ?_ (ZzA _ (ZzA _ e));simp only[ZzK,ZzF,ZDZ,or_false,not_or];exact⟨ZzU hb,by rw[ZBE]; exact ZzU (ZCg hb)⟩
   ·cases r₂ with
    | error e=>exact hr₂
    | ok fl₂ =>
     cases fl₂ with
     | ret r =>
      obtain⟨rfl,h',tk,rfl,hS',hk'⟩:=hr₂
      repeat (any_goals (first | assumption | wp_step))
      exact h _ _ hS' hk'
     | _=>exact hr₂.elim
  | _=>exact hr.elim
end
end HP
namespace HP
open PySem PyProof.Rows
theorem ZcA:Slot "set_iterator" "__next__" "set_iterator.__next__" :=
 .of (owner:="set_iterator") (n:="__next__") (by rw[typeLookup_type,builtinLookup_eq_fast]; kernel_rfl) (by decide +kernel) (by decide +kernel) (by decide +kernel)
  (by first | exact .inl (by decide +kernel) | exact .inr (by decide +kernel)) (by rw[isSubtype_type]; kernel_rfl)
theorem Zip:entryFor table "set_iterator.__next__" = Z Builtin.«set_iterator.__next__»:=entryFor_of_tree (by kernel_rfl)
theorem Zjg:Slot "set_iterator" "__iter__" "set_iterator.__iter__" :=
 .of (owner:="set_iterator") (n:="__iter__") (by rw[typeLookup_type,builtinLookup_eq_fast]; kernel_rfl) (by decide +kernel) (by decide +kernel) (by decide +kernel)
  (by first | exact .inl (by decide +kernel) | exact .inr (by decide +kernel)) (by rw[isSubtype_type]; kernel_rfl)
theorem ZmQ:entryFor table "set_iterator.__iter__" = Z Builtin.«dict_keyiterator.__iter__» :=
 entryFor_alias (id':="dict_keyiterator.__iter__") (by kernel_rfl) rfl (by decide +kernel) (by kernel_rfl)
theorem Zk0:entryFor table "set.__iter__" = Z Builtin.«frozenset.__iter__» :=
 entryFor_alias (id':="frozenset.__iter__") (by kernel_rfl) rfl (by decide +kernel) (by kernel_rfl)
theorem Zow:Manifest.owners.lookup (String.ofList ['r','o','t','a','r','e','t','i','_','t','e','s'].reverse)=Z Manifest.sig_set_iterator:=by kernel_rfl
theorem Zjn(a:Value):argsOk "set_iterator.__next__" ⟨[a],[]⟩:=by unfold argsOk; rw[signature?_of (id:="set_iterator.__next__") (n:=['_','_','t','x','e','n','_','_']) (o:=['r','o','t','a','r','e','t','i','_','t','e','s']) (by kernel_rfl) Zow]; kernel_rfl
theorem ZoA(a:Value):argsOk "set_iterator.__iter__" ⟨[a],[]⟩:=by unfold argsOk; rw[signature?_of (id:="set_iterator.__iter__") (n:=['_','_','r','e','t','i','_','_']) (o:=['r','o','t','a','r','e','t','i','_','t','e','s']) (by kernel_rfl) Zow]; kernel_rfl
theorem Zls{α:Type}:∀(l:List α) (i:Nat) (h:i<l.length),(l[i]::l.eraseIdx i).Perm l
 | x::l,0,_=>.refl _
 | x::l,i+1,h=>by
  have h':i<l.length:=by simpa using h
  show(l[i]::x::l.eraseIdx i).Perm (x::l);exact(List.Perm.swap x l[i] _).trans ((Zls l i h').cons x)
theorem Zmj{α:Type}(next:Nat->Nat):∀(n k:Nat) (left:List α) (out:Array α),left.length=n->(ZEb.go next n k left out).toList.Perm (out.toList++left)
 | 0,k,left,out,h=>by rw[ZAv h,ZAe];exact .refl _
 | n+1,k,left,out,h=>by
  have hl:next k % left.length<left.length:=Nat.mod_lt _ (by omega)
  unfold ZEb.go;rw[ZzT hl];dsimp only;refine(Zmj next n (k+1) _ _ (by rw[List.length_eraseIdx_of_lt hl]; omega)).trans ?_
  rw[ZBT,ZBx];refine List.Perm.append_left _ ?_;exact Zls left _ hl
theorem ZlS{α:Type}(next:Nat->Nat)(xs:Array α):(ZEb next xs).toList.Perm xs.toList:=by
 have:=Zmj next xs.size 0 xs.toList #[] (by simp)
 simpa [ZEb]using this
end HP
namespace HP
open PySem PyProof.Rows
variable{a it:Addr}{h h':Heap}{ep i n slot:Nat}{Q:Value->Shared->Prop}
structure Zex(w:World)(h:Heap)(a:Addr)(es:Array (Int × Value))(ep:Nat)(t:SetTable):Prop where
 obj:∃o,h.get? a=Z o/\o.ExactSet/\o.data=.set es ep t
 fit:t.fits es.size=ZEN
 siz:es.size=t.place.size
 tab:Tab (!w.params.followText "set-order") t
theorem Zex.at'{w:World}{es:Array (Int × Value)}{t:SetTable}(x:Zex w h a es ep t)(k:∀o,h.get? a=Z o->h'.get? a=Z o):Zex w h' a es ep t :=
 ⟨let ⟨o,e,r⟩:=x.obj; ⟨o,k o e,r⟩,x.fit,x.siz,x.tab⟩
def Zd1(w:World)(a:Addr)(es:Array (Int × Value))(ep:Nat):Array (Int × Value):=if w.params.followText "set-order" then ZEb (w.params.setOrder a ep) es else es
theorem Zjm(w:World)(a:Addr)(es:Array (Int × Value))(ep:Nat):(Zd1 w a es ep).toList.Perm es.toList:=by
 unfold Zd1; split
 ·exact ZlS _ _
 ·exact .refl _
theorem Zi7(w:World)(a:Addr)(es:Array (Int × Value))(ep:Nat):(Zd1 w a es ep).size=es.size:=by have:=(Zjm w a es ep).length_eq;simpa using this
def Zg5(h:Heap)(it a:Addr)(slot i n ep:Nat):Prop:=∃o,h.get? it=Z o/\o.cls=.type "set_iterator"/\o.data=.fields #[.int slot 0,.int i 0,.ref a,.int n 0,.int ep 0]
theorem Zg5.typeIs{s:Shared}(x:Zg5 s.heap it a slot i n ep):s.TypeIs (.ref it) "set_iterator":=let ⟨o,ho,hc,_⟩:=x; ⟨o,ho,hc⟩
theorem Zg5.at'(x:Zg5 h it a slot i n ep)(k:∀o,h.get? it=Z o->h'.get? it=Z o):Zg5 h' it a slot i n ep:=let ⟨o,e,r⟩:=x; ⟨o,k o e,r⟩
section
variable{prog:Program}{w:World}{A:Around}{E:Value->Shared->Prop}{s:Shared}{it a:Addr}{es:Array (Int × Value)}{ep:Nat}{t:SetTable}
theorem ZtZ(x:Zex w s.heap a es ep t)
  (hQ:Q (.ref s.heap.objs.size) { s with heap:=s.heap.push { cls:=.type "set_iterator",data:=.fields #[.int 0 0,.int 0 0,.ref a,.int es.size 0,.int ep 0] } }) :
  wpAny (model prog w) A (pyIter (.ref a)) Q E s:=by
 obtain⟨o,ho,hex,hd⟩:=x.obj;have hT:s.TypeIs (.ref a) "set":=⟨o,ho,hex.1⟩;refine ZDE hT ZEr (ZAB ZEr hT Zk0 ?_ (PySem.F.args_set_iter_1 _));unfold Builtin.«frozenset.__iter__» Builtin.Frozenset.slot0 slotArgs Builtin.Frozenset.addrOf Builtin.Frozenset.sizeOf;refine Zzv (Zzv (Zzz (Zzz ?_)));dsimp only;refine Zzv (Zzv (ZDi ho hd x.fit (Zzz ?_)));have hdr:∀{R:Bool->Shared->Prop} {A':Around} {E':Value->Shared->Prop},R ZEO s->wpAny (model prog w) A' (setDrawn a) R E' s:=λ{R A' E'} hR=>by unfold setDrawn setsByText;refine Zzv (ZCS ho hd x.fit (Zzv (Zzv (ZCr (Zzz (Zzz ?_))))));obtain⟨mk,pl,dm,fg,ld,mv,pn⟩:=t;obtain rfl:pn=ZEN:=x.tab.plain;show R (!_&&(!ZEN&&_)) s;simpa using hR
 refine Zzv (hdr ?_);rw[if_neg (by simp)];refine Zzv (Zzz (Zzv (wpAny_setEpoch_of ho hd x.fit ?_)));show wpAny (model prog w) A.in1 (newFields "set_iterator" [rawInt 0,rawInt 0,ZAh a,rawInt (es.size:Int),rawInt (ep:Int)] >>= _) _ E s;refine Zzv (ZAa (Zzz ⟨_,rfl,"set_iterator",_,⟨_,ZzP _ rfl,rfl⟩,ZcA.lookup,?_⟩));simpa [rawInt]using hQ
theorem Zj2{R:Option (Value × Nat)->Shared->Prop}(x:Zex w s.heap a es ep t)(hs:w.params.followText "set-order" = ZEO->ZzJ t.place slot=i)
  (hR:R ((Zd1 w a es ep)[i]?.map λe=>(e.2,if w.params.followText "set-order" then slot else t.place.getD i 0+1)) s):wpAny (model prog w) A (setNext a slot i ep) R E s:=by
 obtain⟨o,ho,hex,hd⟩:=x.obj;unfold setNext setsByText;refine Zzv (ZCS ho hd x.fit ?_);dsimp only;refine Zzv (Zzv (ZCr (Zzz ?_)));dsimp only;cases hb:w.params.followText "set-order" with
 | true=>have hb':(model prog w).w.params.followText "set-order" = ZEN:=hb;rw[hb',if_pos rfl];unfold Zd1 at hR;rw[hb,if_pos rfl]at hR;simp only[if_pos]at hR;refine ZBJ (λq=>absurd q (by simp)) λ_=>?_;unfold setWalk setsByText;refine Zzv (Zzv (ZCS ho hd x.fit ?_));dsimp only;refine Zzv (Zzv (ZCr (Zzz ?_)));dsimp only;rw[hb',if_pos rfl];exact Zzv (ZCr (Zzz (Zzz hR)))
 | false =>
  have hb':(model prog w).w.params.followText "set-order" = ZEO:=hb;rw[hb',if_neg (by simp)];unfold Zd1 at hR;rw[hb]at hR;simp only[ZA7,if_false]at hR;have hi:=hs hb;have hled:t.led=ZEN:=by rw[x.tab.led,hb]; rfl
  have hsz:=x.siz;obtain⟨mk,pl,dm,fg,ld,mv,pn⟩:=t;obtain rfl:pn=ZEN:=x.tab.plain;obtain rfl:ld=ZEN:=hled;refine ZBJ (λq=>absurd (show(!ZEN&&_)=ZEN from q) (by simp)) λ_=>?_;refine Zzv ?_;refine ZBJ (λq=>absurd (show(!ZEN&&_)=ZEN from q) (by simp)) λ_=>?_;refine Zzz ?_;dsimp only at hi hsz ⊢;rw[hi];refine Zzz ?_
  by_cases hlt:i<es.size
  ·have h1:es[i]?=Z es[i]:=ZBW hlt
   have h2:pl[i]?=Z (pl.getD i 0):=by simp[ZBF,show i<pl.size by omega]
   rw[h1]at hR ⊢;rw[h2];exact hR
  ·have h1:es[i]?=Z_:=ZCX (by omega)
   rw[h1]at hR ⊢;exact hR
theorem Zui{e:Int × Value}{Q:Option Value->Shared->Prop}(hit:Zg5 s.heap it a slot i es.size ep)(x:Zex w s.heap a es ep t)(hs:w.params.followText "set-order" = ZEO->ZzJ t.place slot=i)(he:(Zd1 w a es ep)[i]?=Z e)
  (hQ:∀h',Zg5 h' it a (if w.params.followText "set-order" then slot else t.place.getD i 0+1) (i+1) es.size ep->ZA6 it s.heap h'->Q (Z e.2) { s with heap:=h' }) :
  wpAny (model prog w) A (pyNext (.ref it)) Q E s:=by
 obtain⟨o,ho,hc,hd⟩:=id hit;obtain⟨os,hos,hex,hds⟩:=x.obj;unfold pyNext;refine Zzv (ZDx (wpAny_callSpecial?_slot (name:=Zz1 "__next__") hit.typeIs ZcA
  (ZAB ZcA hit.typeIs Zip ?_ (Zjn _))))
 unfold Builtin.«set_iterator.__next__» slotArgs;refine Zzv (Zzz ?_);dsimp only;refine Zzv (ZDl ho hd ?_);dsimp only;refine Zzv (ZDi hos hds x.fit ?_);refine ZBJ (λq=>absurd q (by simp)) λ_=>?_;simp only[ZBf];refine Zzv (Zj2 x hs ?_);rw[he];dsimp only[Option.map_some];refine Zzv (ZBY ho hd (by simp) ?_);have g1:(s.heap.update it (ZEy (·.setIfInBounds 0 (rawInt ((if w.params.followText "set-order" = ZEN then slot else t.place.getD i 0+1:Nat):Int))))).get? it=Z _:=ZAE _ ho (ZCj (ZAM hd _));refine Zzv (ZBY g1 (ZAM hd _) (by simp) ?_);refine Zzz ⟨_,rfl,Zzz (hQ _ ⟨_,ZAE _ g1 (ZCj (ZAM (ZAM hd _) _)),?_,?_⟩ ((ZAz ..).trans (ZAz ..)))⟩
 ·rw[ZCT,ZCT]; exact hc
 ·rw[ZAM (ZAM hd _)]; simp[rawInt]
theorem Zt0{Q:Option Value->Shared->Prop}(hh:A.handled=Z_)(hit:Zg5 s.heap it a slot i es.size ep)(x:Zex w s.heap a es ep t)(hs:w.params.followText "set-order" = ZEO->ZzJ t.place slot=i)(he:es.size<=i)
  (hQ:∀h',Heap.ExtBut it s.heap h'->Q Z_ { s with heap:=h' }):wpAny (model prog w) A (pyNext (.ref it)) Q E s:=by
 obtain⟨o,ho,hc,hd⟩:=id hit;obtain⟨os,hos,hex,hds⟩:=x.obj;have hn:(Zd1 w a es ep)[i]?=Z_:=ZCX (by rw[Zi7]; exact he);unfold pyNext;refine Zzv (ZDx (wpAny_callSpecial?_slot (name:=Zz1 "__next__") hit.typeIs ZcA
  (ZAB ZcA hit.typeIs Zip ?_ (Zjn _))))
 unfold Builtin.«set_iterator.__next__» slotArgs;refine Zzv (Zzz ?_);dsimp only;refine Zzv (ZDl ho hd ?_);dsimp only;refine Zzv (ZDi hos hds x.fit ?_);refine ZBJ (λq=>absurd q (by simp)) λ_=>?_;simp only[ZBf];refine Zzv (Zj2 x hs ?_);rw[hn];dsimp only[Option.map_none];refine Zzv (ZBY ho hd (by simp) ?_);refine Zzv ?_;simp only[newExc,newTuple];refine Zzv (ZAa ?_ (by size_fits));refine Zzv (m:=ZCk _ _) (ZDo (a:=ZAx) (by first | rfl | (simp only[ZCk]; rfl)) ?_)
 refine ZAa ?_ (by size_fits);simp only[raiseNew];refine Zzv (wpAny_handled ?_);rw[show A.in1.handled=Z_ from hh];refine Zzv (Zzz (wpAny_throw ?_));refine Zzv (ZD0 (T:="StopIteration") (b:=ZEN) ⟨_,ZzP _ rfl,rfl⟩ isSubtype_stop ?_);exact Zzz (hQ _ (((ZAz ..).extBut.push _).push _))
theorem Zua(hit:Zg5 s.heap it a slot i n ep)(h:Q (.ref it) s):wpAny (model prog w) A (pyIter (.ref it)) Q E s:=by refine ZDE hit.typeIs Zjg (ZAB Zjg hit.typeIs ZmQ ?_ (ZoA _));show wpAny _ _ (ret (.ref it)) _ _ s;exact Zzz ⟨_,rfl,"set_iterator",_,hit.typeIs,ZcA.lookup,h⟩
theorem Zsx(hh:A.handled=Z_)(I a:Addr)(hne:a≠I)(es:Array (Int × Value))(ep:Nat)(t:SetTable) :
  Walks prog w A I [I,a] [I] es.size (λi v=>∃e,(Zd1 w a es ep)[i]?=Z e/\v=e.2) (λi h=>∃slot,Zg5 h I a slot i es.size ep/\Zex w h a es ep t/\(w.params.followText "set-order" = ZEO->ZzJ t.place slot=i)) where
 sub:=λb hb=>by simp at hb; simp[hb]
 frame:=λ_ _ _ ⟨slot,h1,h2,h3⟩ hk=>⟨slot,h1.at' λo e=>hk I (by simp) o e,h2.at' λo e=>hk a (by simp) o e,h3⟩
 item:=λi s Q E hi ⟨slot,h1,h2,h3⟩ hQ=>by
  have hlt:i<(Zd1 w a es ep).size:=by rw[Zi7]; exact hi
  have hx:(Zd1 w a es ep)[i]?=Z (Zd1 w a es ep)[i]:=ZBW hlt;refine Zui h1 h2 h3 hx λh' hit' hs'=>?_;refine hQ _ h' s.toks ⟨_,hx,rfl⟩ ⟨_,hit',h2.at' λo e=>hs'.extBut a o hne e,λhb=>?_⟩ λb o hb e=>hs'.extBut b o (λh=>hb (by simp[h])) e;rw[hb];exact Zrm h2.tab.rise (by rw[<-h2.siz]; exact hi)
 done:=λs Q E ⟨slot,h1,h2,h3⟩ hQ=>Zt0 hh h1 h2 h3 (ZzH _) λh' he'=>hQ h' s.toks λb o hb e=>he' b o (λh=>hb (by simp[h])) e
 self:=λ_ _ _ _ ⟨slot,h1,_⟩ hQ=>Zua h1 hQ
end
end HP
namespace HP
open PySem PySem.W PyProof.Rows
variable{p:Array Nat}{h h':Heap}{ep i j m n:Nat}{Q:Nat × Array Nat->Prop}
section
variable{α β:Type}
def ZcD(o:Nat->Nat->Bool)(n:Nat):KasT α->(α->Prop)->Prop
 | .ret a,Q=>Q a
 | .ask i j k,Q=>i<n/\j<n/\ZcD o n (k (o i j)) Q
theorem ZcD.bnd{o:Nat->Nat->Bool}{n:Nat}{f:α->KasT β}{Q:β->Prop}:∀(t:KasT α),ZcD o n t (λa=>ZcD o n (f a) Q)->ZcD o n (t.bind f) Q
 | .ret a,h=>h
 | .ask i j k,h=>⟨h.1,h.2.1,ZcD.bnd (k (o i j)) h.2.2⟩
end
structure Pm(n:Nat)(p:Array Nat):Prop where
 pos:0<n
 perm:p.Perm (List.toArray (ZzQ n))
theorem Pm.size{n:Nat}{p:Array Nat}(h:Pm n p):p.size=n:=by have:=h.perm.size_eq;simpa using this
theorem Pm.lt(h:Pm n p)(i:Nat):p.getD i 0<n:=by
 by_cases hi:i<p.size
 ·have e:p.getD i 0=p[i]:=by simp[ZBF,hi]
  rw[e];have:=(ZDy.mp h.perm).mem_iff (a:=p[i]);have h2:=this.mp (by simp);simpa using h2
 ·have e:p.getD i 0=0:=by simp[ZBF,hi]
  rw[e]; exact h.pos
theorem Pm.rev(h:Pm n p)(i j:Nat):Pm n (kas_rev p i j):=⟨h.pos,(mirror_perm _ _ _ _).trans h.perm⟩
theorem Pm.bub(h:Pm n p)(i j:Nat):Pm n (bubble p i j):=⟨h.pos,(bubble_perm _ _ _).trans h.perm⟩
theorem getD_eq?(p:Array Nat)(i:Nat):p.getD i 0=(p[i]?).getD 0:=by simp[Array.getD_eq_getD_getElem?]
section
variable(O:KeyOrd)(key:Nat->O.α)
def Ka(p:Array Nat)(i:Nat):O.α:=key (p.getD i 0)
def Up(p:Array Nat)(k:Nat):Prop:=∀i j,i<=j->j<k->O.kle (Ka O key p i) (Ka O key p j)
def Dn(p:Array Nat)(k:Nat):Prop:=∀i j,i<=j->j<k->O.kle (Ka O key p j) (Ka O key p i)
def Ev(p:Array Nat)(m q:Nat):Prop:=∀i,m-(q+1)<=i->i<m->Ka O key p i=Ka O key p (m-1)
abbrev orc:Nat->Nat->Bool:=λi j=>O.blt (key i) (key j)
variable{O key}{p:Array Nat}{n:Nat}
theorem ZnO(hj:j<=p.size)(k:Nat):Ka O key (kas_rev p i j) k=if i<=k/\k<j then Ka O key p (i+j-1-k)else Ka O key p k:=by unfold Ka kas_rev;rw[getD_eq?,getElem?_mirror_all hj];split<;>rw[<-getD_eq?]
theorem Zjc(hj:j<=p.size)(h:∀k,i<=k->k<j->Ka O key p k=Ka O key p (j-1))(k:Nat):Ka O key (kas_rev p i j) k=Ka O key p k:=by
 rw[ZnO hj];split
 ·rename_i hk
  rw[h _ (by omega) (by omega),h k hk.1 hk.2]
 ·rfl
theorem ZsG{s d:Nat}(hs:s<p.size)(hd:d<=s)(k:Nat):Ka O key (bubble p s d) k=if k=s-d then Ka O key p s else if s-d<k/\k<=s then Ka O key p (k-1)else Ka O key p k:=by
 unfold Ka;rw[getD_eq?,getElem?_bubble hs d hd]
 by_cases h1:k=s-d
 ·rw[if_pos h1,if_pos h1,<-getD_eq?]
 ·rw[if_neg h1,if_neg h1]
  by_cases h2:s-d<k/\k<=s
  ·rw[if_pos h2,if_pos h2,<-getD_eq?]
  ·rw[if_neg h2,if_neg h2,<-getD_eq?]
theorem Up.one:Up O key p 1:=λi j h1 h2=>by
 obtain rfl:i=j:=by omega
 exact ZCd _
theorem Up.more{k:Nat}(h:Up O key p k)(hl:O.kle (Ka O key p (k-1)) (Ka O key p k)):Up O key p (k+1):=λi j h1 h2=>by
 by_cases hj:j<k
 ·exact h i j h1 hj
 obtain rfl:j=k:=by omega
 by_cases hi:i=j
 ·subst hi; exact ZCd _
 ·exact ZC2 (h i (j-1) (by omega) (by omega)) hl
theorem Dn.more{k:Nat}(h:Dn O key p k)(hl:O.kle (Ka O key p k) (Ka O key p (k-1))):Dn O key p (k+1):=λi j h1 h2=>by
 by_cases hj:j<k
 ·exact h i j h1 hj
 obtain rfl:j=k:=by omega
 by_cases hi:i=j
 ·subst hi; exact ZCd _
 ·exact ZC2 hl (h i (j-1) (by omega) (by omega))
theorem Dn.same{p':Array Nat}{k:Nat}(h:Dn O key p k)(e:∀i,Ka O key p' i=Ka O key p i):Dn O key p' k:=λi j h1 h2=>by rw[e,e]; exact h i j h1 h2
theorem ZkG(hp:Pm n p){Q:Nat->Prop}:∀(f m:Nat),Up O key p m->(∀m',m<=m'->m'<=m+f->Up O key p m'->(m'=m+f\/O.klt (Ka O key p m') (Ka O key p (m'-1)))->Q m')->ZcD (orc O key) n (kas_asc p f m) Q
 | 0,m,hu,hq=>hq m (ZzH _) (by omega) hu (.inl rfl)
 | f+1,m,hu,hq=>by
  refine⟨hp.lt _,hp.lt _,?_⟩;dsimp only;split
  ·rename_i h
   exact hq m (ZzH _) (by omega) hu (.inr h)
  ·rename_i h
   refine ZkG hp f (m+1) (hu.more (ZBK h)) λm' h1 h2 h3 h4=>hq m' (by omega) (by omega) h3 (h4.imp (λe=>by omega) id)
theorem ZgL{Q:Array Nat × Nat × Nat->Prop}:∀(f:Nat) (p:Array Nat) (m q:Nat),Pm n p->Dn O key p m->q+1<=m->Ev O key p m q->m+f<=n ->
  (∀p' m' q',Pm n p'->m<=m'->m'<=m+f->Dn O key p' m'->q'+1<=m'->Ev O key p' m' q'->Q (p',m',q'))->ZcD (orc O key) n (kas_desc f p m q) Q
 | 0,p,m,q,hp,hd,h1,he,hn,hq=>hq p m q hp (ZzH _) (by omega) hd h1 he
 | f+1,p,m,q,hp,hd,h1,he,hn,hq=>by
  have hz:m<=p.size:=by rw[hp.size]; omega
  have e0:∀p',Ev O key p' (m+1) 0:=λp' i h1 h2=>by congr 1; omega
  refine⟨hp.lt _,hp.lt _,?_⟩;dsimp only;split
  ·rename_i h
   have hd':=hd.more (ZCU h);split
   ·exact ZgL f _ (m+1) 0 (hp.rev _ _) (hd'.same (Zjc hz he)) (by omega) (e0 _) (by omega) λp' m' q' a b c d e g=>hq p' m' q' a (by omega) (by omega) d e g
   ·exact ZgL f _ (m+1) 0 hp hd' (by omega) (e0 _) (by omega) λp' m' q' a b c d e g=>hq p' m' q' a (by omega) (by omega) d e g
  ·rename_i h
   refine⟨hp.lt _,hp.lt _,?_⟩;dsimp only;split
   ·exact hq p m q hp (ZzH _) (by omega) hd h1 he
   ·rename_i h'
    have l1:=ZBK h;have l2:=ZBK h';have ee:Ka O key p m=Ka O key p (m-1):=ZEA l2 l1;refine ZgL f p (m+1) (q+1) hp (hd.more l2) (by omega) (λi a b=>?_) (by omega) λp' m' q' a b c d e g=>hq p' m' q' a (by omega) (by omega) d e g;rw[show m+1-1=m by omega]
    by_cases hi:i=m
    ·rw[hi]
    ·rw[ee]; exact he i (by omega) (by omega)
theorem Zms(hp:Pm n p)(hd:Dn O key p m)(h1:1<=m)(hm:m<=n)(hq:∀m' p',1<=m'->m'<=n->Pm n p'->Up O key p' m'->Q (m',p')):ZcD (orc O key) n (kas_tail3 m n p) Q:=by
 have hz:m<=p.size:=by rw[hp.size]; omega
 refine ZcD.bnd _ (ZkG (hp.rev 0 m) (n-m) m (λi j a b=>?_) λm' a b c _=>hq m' _ (by omega) (by omega) (hp.rev 0 m) c);rw[ZnO hz,ZnO hz,if_pos (by omega),if_pos (by omega)];exact hd _ _ (by omega) (by omega)
theorem Zl5(hp:Pm n p)(hd:Dn O key p (m+1))(hm:m+1<=n)(hq:∀m' p',1<=m'->m'<=n->Pm n p'->Up O key p' m'->Q (m',p')):ZcD (orc O key) n (kas_descPart m n p) Q:=by
 refine ZcD.bnd _ (ZgL (n-(m+1)) p (m+1) 0 hp hd (by omega) (λi a b=>by congr 1; omega) (by omega) λp' m' q' h1 h2 h3 h4 h5 h6=>?_);have hz:m'<=p'.size:=by rw[h1.size]; omega
 dsimp only;split
 ·exact Zms (h1.rev _ _) (h4.same (Zjc hz h6)) (by omega) (by omega) hq
 ·exact Zms h1 h4 (by omega) (by omega) hq
theorem Zrv(hp:Pm n p)(hq:∀m' p',1<=m'->m'<=n->Pm n p'->Up O key p' m'->Q (m',p')):ZcD (orc O key) n (kas_count n p) Q:=by
 have h0:=hp.pos;refine ZcD.bnd _ (ZkG hp (n-1) 1 Up.one λm h1 h2 h3 h4=>?_);have hz:m<=p.size:=by rw[hp.size]; omega
 split
 ·exact hq m p (by omega) (by omega) hp h3
 ·rename_i hne
  have hne':m≠n:=by simpa using hne
  have hlt:O.klt (Ka O key p m) (Ka O key p (m-1)):=h4.resolve_left (by omega);split
  ·rename_i hm
   refine⟨hp.lt _,hp.lt _,?_⟩;dsimp only;split
   ·exact hq m p (by omega) (by omega) hp h3
   ·rename_i hr
    have hr':O.kle (Ka O key p (m-1)) (Ka O key p 0):=ZBK hr;have all:∀k,0<=k->k<m->Ka O key p k=Ka O key p (m-1):=λk _ hk=>ZEA (h3 k (m-1) (by omega) (by omega)) (ZC2 hr' (h3 0 k (by omega) hk));refine Zl5 (hp.rev _ _) (Dn.same ?_ (Zjc hz all)) (by omega) hq;refine Dn.more (λi j a b=>?_) (ZCU hlt);rw[all i (by omega) (by omega),all j (by omega) b]; exact ZCd _
  ·obtain rfl:m=1:=by omega
   refine Zl5 hp (Dn.more (λi j a b=>?_) (ZCU hlt)) (by omega) hq;obtain rfl:i=j:=by omega
   exact ZCd _
theorem ZhZ{Q:Nat->Prop}{k:Nat}(hp:Pm n p)(hu:Up O key p k):∀(f l r:Nat),l<=r->r<=k->r-l<=f->(∀i,i<l->O.kle (Ka O key p i) (Ka O key p k))->(∀i,r<=i->i<k->O.klt (Ka O key p k) (Ka O key p i)) ->
  (∀l,l<=k->(∀i,i<l->O.kle (Ka O key p i) (Ka O key p k))->(∀i,l<=i->i<k->O.klt (Ka O key p k) (Ka O key p i))->Q l)->ZcD (orc O key) n (kas_place p k f l r) Q
 | 0,l,r,h1,h2,h3,lo,hi,hq=>by
  obtain rfl:l=r:=by omega
  exact hq l h2 lo hi
 | f+1,l,r,h1,h2,h3,lo,hi,hq=>by
  unfold kas_place;split
  ·obtain rfl:l=r:=by omega
   exact hq l h2 lo hi
  ·refine⟨hp.lt _,hp.lt _,?_⟩
   dsimp only;split
   ·rename_i h
    exact ZhZ hp hu f l ((l+r) / 2) (by omega) (by omega) (by omega) lo (λi a b=>KeyOrd.klt_of_klt_of_kle h (hu _ _ a b)) hq
   ·rename_i h
    refine ZhZ hp hu f ((l+r) / 2+1) r (by omega) (by omega) (by omega) (λi a=>ZC2 (hu i ((l+r) / 2) (by omega) (by omega)) (ZBK h)) hi hq
theorem ZnP{Q:Array Nat->Prop}:∀(f:Nat) (p:Array Nat) (k:Nat),Pm n p->Up O key p k->k+f=n->(∀p',Pm n p'->Up O key p' n->Q p')->ZcD (orc O key) n (kas_bin f p k) Q
 | 0,p,k,hp,hu,hn,hq=>by
  obtain rfl:k=n:=by omega
  exact hq p hp hu
 | f+1,p,k,hp,hu,hn,hq=>by
  refine ZcD.bnd _ (ZhZ hp hu k 0 k (by omega) (ZzH _) (by omega) (λi a=>by omega) (λi a b=>by omega) λl hl lo hi=>?_);refine ZnP f _ (k+1) (hp.bub _ _) (λi j a b=>?_) (by omega) hq;have hk:k<p.size:=by rw[hp.size]; omega
  rw[ZsG hk (by omega),ZsG hk (by omega),show k-(k-l)=l by omega]
  repeat' split
  all_goals first
   | (exfalso; omega)
   | exact ZCd _
   | exact lo _ (by omega)
   | exact ZCU (hi _ (by omega) (by omega))
   | exact hu _ _ (by omega) (by omega)
theorem ZsD(hn:0<n){Q:Array Nat->Prop}(hq:∀p,Pm n p->Up O key p n->Q p):ZcD (orc O key) n (kas_sort n) Q:=by
 refine ZcD.bnd _ (Zrv ⟨hn,.refl _⟩ λm p h1 h2 h3 h4=>?_);dsimp only;rw[show max m 1=m by omega];split
 ·exact ZnP _ p m h3 h4 (by omega) hq
 ·exact hq p h3 (by rwa [show n=m by omega])
end
theorem lex_irrefl:∀a:List Int,HM.lexLt a a=ZEO
 | []=>rfl
 | x::a=>by show(if x=x then HM.lexLt a a else decide (x<x))=ZEO;rw[if_pos rfl]; exact lex_irrefl a
theorem Zgy(x y:Int)(a b:List Int):HM.lexLt (x::a) (y::b)=if x=y then HM.lexLt a b else decide (x<y):=rfl
theorem lex_trans:∀a b c:List Int,HM.lexLt a b=ZEN->HM.lexLt b c=ZEN->HM.lexLt a c=ZEN
 | [],[],_,h,_=>by cases h
 | [],_::_,[],_,h=>by cases h
 | [],_::_,_::_,_,_=>rfl
 | _::_,[],_,h,_=>by cases h
 | _::_,_::_,[],_,h=>by cases h
 | x::a,y::b,z::c,h1,h2=>by
  rw[Zgy]at *;split at h1
  ·rename_i e
   subst e;split at h2
   ·rename_i e; subst e; rw[if_pos rfl]; exact lex_trans a b c h1 h2
   ·rename_i e; rw[if_neg e]; exact h2
  ·split at h2
   ·rename_i e1 e2; subst e2; rw[if_neg e1]; exact h1
   ·rename_i e1 e2
    have h1:=of_decide_eq_true h1;have h2:=of_decide_eq_true h2;rw[if_neg (by omega)]; exact decide_eq_true (by omega)
theorem ZlR:∀a b c:List Int,HM.lexLt a c=ZEN->HM.lexLt a b=ZEN\/HM.lexLt b c=ZEN
 | [],[],_,h=>.inr h
 | [],_::_,_,_=>.inl rfl
 | _::_,_,[],h=>by cases h
 | _::_,[],_::_,_=>.inr rfl
 | x::a,y::b,z::c,h=>by
  rw[Zgy]at *;rw[Zgy];split at h
  ·rename_i e
   subst e
   by_cases e:x=y
   ·subst e; rw[if_pos rfl,if_pos rfl]; exact ZlR a b c h
   ·rw[if_neg e,if_neg (ZAG e)]
    by_cases q:x<y
    ·exact .inl (decide_eq_true q)
    ·exact .inr (decide_eq_true (by omega))
  ·rename_i e
   have h:=of_decide_eq_true h
   by_cases e1:x=y
   ·subst e1; rw[if_neg e]; exact .inr (decide_eq_true h)
   ·rw[if_neg e1]
    by_cases q:x<y
    ·exact .inl (decide_eq_true q)
    ·rw[if_neg (by omega)]; exact .inr (decide_eq_true (by omega))
theorem Zjd:∀a b:List Int,HM.lexLt a b=ZEO->HM.lexLt b a=ZEO->a=b
 | [],[],_,_=>rfl
 | [],_::_,h,_=>by cases h
 | _::_,[],_,h=>by cases h
 | x::a,y::b,h1,h2=>by
  rw[Zgy]at h1 h2
  by_cases e:x=y
  ·subst e
   rw[if_pos rfl]at h1 h2;rw[Zjd a b h1 h2]
  ·rw[if_neg e]at h1
   rw[if_neg (ZAG e)]at h2;have h1:=of_decide_eq_false h1;have h2:=of_decide_eq_false h2;omega
@[reducible] def Zol:KeyOrd where
 α:=List Int
 blt:=HM.lexLt
 irrefl:=lex_irrefl
 trans:=lex_trans
 negTrans:=ZlR
 total:=Zjd
theorem Zig{α:Type}{R:α->α->Prop}(anti:∀a b,R a b->R b a->a=b):∀{l m:List α},l.Perm m->l.Pairwise R->m.Pairwise R->l=m
 | [],m,hp,_,_=>(List.nil_perm.mp hp).symm
 | x::l,[],hp,_,_=>absurd hp.symm (by intro q; exact List.cons_ne_nil _ _ (List.nil_perm.mp q))
 | x::l,y::m,hp,hl,hm=>by
  obtain⟨l1,l2⟩:=ZAo.mp hl;obtain⟨m1,m2⟩:=ZAo.mp hm;have e:x=y:=by
   rcases ZzK.mp (hp.mem_iff.mp (ZzB ..))with e | e
   ·exact e
   ·rcases ZzK.mp (hp.mem_iff.mpr (ZzB ..))with e' | e'
    ·exact e'.symm
    ·exact anti x y (l1 y e') (m1 x e)
  subst e;rw[Zig anti ((List.perm_cons x).mp hp) l2 m2]
def TI(h:Heap)(b:Addr)(t:List Int):Prop:=∃o its n,h.get? b=Z o/\o.cls=.type "tuple"/\o.data=.seq its n/\IntsAre its.toList t
theorem TI.keep{b:Addr}{t:List Int}(x:TI h b t)(k:∀o,h.get? b=Z o->h'.get? b=Z o):TI h' b t:=let ⟨o,its,n,e,r⟩:=x; ⟨o,its,n,k o e,r⟩
section
variable{prog:Program}{w:World}{A:Around}{E:Value->Shared->Prop}{s:Shared}
theorem Zr4{fin:Bool}{Q:Bool->Shared->Prop}:∀{vs ws:List Value} {a b:List Int} (i:Nat),IntsAre vs a->IntsAre ws b->fin=decide (vs.length<ws.length)->Q (HM.lexLt a b) s->KatLex prog w A ZEN fin Q (vs.zip ws) i s
 | _,_,_,_,i,.nil,.nil,e,q=>by subst e; exact kat_nil q
 | _,_,_,_,i,.nil,.cons _ _ _,e,q=>by subst e; exact kat_nil q
 | _,_,_,_,i,.cons _ _ _,.nil,e,q=>by subst e; exact kat_nil q
 | _,_,_,_,i,.cons x t hv,.cons y u hw,e,q=>by
  rw[List.zip_cons_cons];refine kat_cons (wpAny_eqBool_int ?_);rw[Zgy]at q
  by_cases h:x=y
  ·rw[if_pos h]at q
   rw[show(x==y)=ZEN by simpa using h];refine kat_yes (Zr4 (i+1) hv hw ?_ q);rw[e,ZzS,ZzS];exact decide_eq_decide.mpr (by omega)
  ·rw[if_neg h]at q
   rw[show(x==y)=ZEO by simpa using h];refine kat_no ?_
   by_cases hi:i=0
   ·rw[show(ZEN&&i==0)=ZEN by simpa using hi]
    exact oneLt_int q
   ·rw[show(ZEN&&i==0)=ZEO by simpa using hi]
    exact kat_one _ _ (PyProof.Rows.lt_int q)
theorem ZwL{x y:Addr}{a b:List Int}{Q:Bool->Shared->Prop}(hx:TI s.heap x a)(hy:TI s.heap y b)(h:Q (HM.lexLt a b) s):wpAny (model prog w) A (keyLt' (tuples' ZEN) (.ref x) (.ref y)) Q E s:=by obtain⟨ox,ix,n,e1,_,d1,r1⟩:=hx;obtain⟨oy,iy,k,e2,_,d2,r2⟩:=hy;refine kat_lt e1 d1 e2 d2 (Zr4 0 r1 r2 ?_ h);rw[ZzY,ZzY]
theorem Zp9{α:Type}{cmp:Nat->Nat->(Bool->Shared->Prop)->Shared->Prop}{o:Nat->Nat->Bool}{n:Nat}(hc:∀i j C,i<n->j<n->C (o i j) s->cmp i j C s){G:α->Shared->Prop}:∀(t:KasT α),ZcD o n t (λa=>G a s)->t.kasWp cmp G s
 | .ret a,h=>h
 | .ask i j k,h=>hc i j _ h.1 h.2.1 (Zp9 hc (k (o i j)) h.2.2)
theorem Ztb{a:Addr}{vs:List Value}{ts:List (List Int)}{P:PySem.Fin->Shared->Prop}(ho:s.heap.get? a=Z (seqObj "list" vs.toArray n))(hl:ts.length=vs.length)
  (hT:∀(i:Nat) t,ts[i]?=Z t->∃b,vs[i]?=Z (.ref b)/\TI s.heap b t) (hne:vs.length<2\/∀t∈ts,t≠[]) (h64:vs.length<64)
  (h:∀p:List Nat,p.Perm (ZzQ vs.length)->(p.map λi=>ts.getD i []).Pairwise (λx y=>HM.lexLt y x=ZEO)->P (.done (.ret .none)) { s with heap:=sortedHeap s.heap a vs (p.map λi=>vs.getD i ZAx).toArray }) :
  wpAny (model prog w) A (Builtin.«list.sort» ⟨[.ref a],[]⟩) P E s:=by
 rw[list_sort_plain];have ha:a<s.heap.objs.size:=ZzO ho;refine Zzv (listItems_at ho rfl (Zzv (listUpdate_at ho rfl ?_ (by rw[ZzN,ZAS]; omega) (ZBn _))));obtain⟨e1,ho1⟩:∃e1,(s.heap.update a (ZCH λ_=>#[])).get? a=Z (seqObj "list" #[] e1):=⟨_,get?_update_seq ho (λ_=>#[])⟩;refine Zzv (seqEpoch_at ho1 rfl ?_);refine Zzv (wpAny_newTuple ?_ (by show vs.length<=_; rw[ZAS]; omega));refine Zzv (wpAny_newList ?_ (ZBn _));refine ZAI ?_;generalize hG:((s.heap.update a (ZCH λ_=>#[])).push (seqObj "tuple" vs.toArray 0)).push (seqObj "list" #[] 0)=g;have ho6:g.get? a=Z (seqObj "list" #[] e1):=by rw[<-hG,ZCh _ _ _ (by rw[size_push',ZC3]; exact ZzU (ZCg ha)),ZCh _ _ _ (by rw[ZC3]; exact ZzU ha)];exact ho1
 have hold:∀b o,b≠a->s.heap.get? b=Z o->g.get? b=Z o:=λb o hb e=>by have hlt:=ZzO e;rw[<-hG,ZCh _ _ _ (by rw[size_push',ZC3]; exact ZzU (ZCg hlt)),ZCh _ _ _ (by rw[ZC3]; exact ZzU hlt),Heap.get?_update_ne _ _ _ _ hb];exact e
 have hT6:∀(i:Nat) t,ts[i]?=Z t->∃b,vs[i]?=Z (.ref b)/\TI g b t:=λi t e=>by
  obtain⟨b,e1,x⟩:=hT i t e;refine⟨b,e1,x.keep λo q=>hold b o ?_ q⟩
  rintro rfl
  obtain⟨o',_,_,q1,q2,_⟩:=x;rw[ho]at q1;cases q1;injection q2 with q2
  exact absurd q2 (by decide)
 show wpAny (model prog w) A _ P E { s with heap:=g };dsimp only;have fin:∀(st':SortSt) (p:List Nat),p.Perm (ZzQ vs.length)->(p.map λi=>ts.getD i []).Pairwise (λx y=>HM.lexLt y x=ZEO)->(arrOf st').map (·.2)=(p.map λi=>vs.getD i ZAx).toArray->failedOf st'=Z_ ->
   wpAny (model prog w) A (do
    let touched:=(<-seqEpoch a) != e1
    Builtin.List.listUpdate (.ref a) λ_=>(arrOf st').map (·.2)
    if let Z e:=failedOf st' then rule "list.sort.comparison-raised"; throw e
    if touched then rule "list.sort.modified"; raiseError "ValueError" "list modified during sort"
    ret .none) P E { s with heap:=g }:=by
  intro st' p hp hs har hf;refine Zzv (seqEpoch_at ho6 rfl ?_);rw[har];refine Zzv (listUpdate_at ho6 rfl ?_ (ZBn _) (by show(p.map λi=>vs.getD i ZAx).toArray.size<=_; rw[ZzN,Zzw,hp.length_eq,ZBS,ZAS]; omega));rw[hf];simp only[bne_self_eq_false,ZA7,if_false];refine Zzz ?_;have:=h p hp hs;unfold sortedHeap at this;rw[hG]at this;exact this
 by_cases h2:vs.toArray.size<2
 ·rw[if_pos h2,if_pos h2]
  refine Zzv (Zzz ?_);rw[StateT.run_pure];refine Zzv (Zzz ?_);refine fin (SortSt.mk' general' (vs.toArray.zip vs.toArray) #[] 7 Z_) (ZzQ vs.length) (.refl _) ?_ ?_ rfl
  ·rw[ZzN]at h2
   have:vs.length=0\/vs.length=1:=by omega
   rcases this with e | e<;>rw[e]<;>simp
  ·rw[ZzN]at h2
   show Array.map (·.2) (vs.toArray.zip vs.toArray)=_
   match vs,h2 with
   | [],_=>simp
   | [v],_=>simp
 ·rw[if_neg h2,if_neg h2]
  rw[ZzN]at h2;have hne':∀t∈ts,t≠[]:=hne.resolve_left h2;have tups:∀(vs:List Value) (ts:List (List Int)),ts.length=vs.length->(∀(i:Nat) t,ts[i]?=Z t->∃b,vs[i]?=Z (.ref b)/\TI g b t)->(∀t∈ts,t≠[])->∃fs,KatTups g vs fs/\fs.length=vs.length/\∀v∈fs,∃x t,v=ZBl x t:=by
   intro vs
   induction vs with
   | nil=>intro ts hl _ _; exact⟨[],KatTups.nil,rfl,by simp⟩
   | cons v vs ih =>
    intro ts hl hT hn;cases ts with
    | nil=>simp at hl
    | cons t ts =>
     obtain⟨fs,f1,f2,f3⟩:=ih ts (by simpa using hl) (λi t e=>hT (i+1) t (by simpa using e)) λx hx=>hn x (ZzD _ hx);obtain⟨b,eb,o,its,m,g1,g2,g3,g4⟩:=hT 0 t rfl;simp at eb;subst eb;cases t with
     | nil=>exact absurd rfl (hn [] (ZzB ..))
     | cons x t =>
      cases hi:its.toList with
      | nil=>rw[hi]at g4; cases g4
      | cons y ys =>
       rw[hi]at g4;cases g4 with
       | cons _ u _ =>
        refine⟨.int x u::fs,KatTups.cons g1 g2 g3 ?_ f1,by simp[f2],λv hv=>?_⟩
        ·rw[<-ZAw,hi]; rfl
        ·rcases ZzK.mp hv with e | e
         ·exact⟨x,u,e⟩
         ·exact f3 v e
  obtain⟨fs,f1,f2,f3⟩:=tups vs ts hl hT6 hne';refine Zzv (kat_kind (s:={ s with heap:=g }) (T:=.type "int") f1 (by omega) (λv hv=>?_) (by rfl) ?_)
  ·obtain⟨x,t,rfl⟩:=f3 v hv
   exact Looks.of_pure rfl
  rw[show(ZBU "int" != ZBU "tuple")=ZEN by decide];refine Zzv (ZAD (kat_run (ks:=vs) (Q:=λst' s'=>s'={ s with heap:=g }/\∃p:Array Nat,Pm vs.length p/\Up Zol (λi=>ts.getD i []) p vs.length/\arrOf st'=p.map (kas_item (vs.toArray.zip vs.toArray))/\failedOf st'=Z_)
   (G:=λp s'=>s'={ s with heap:=g }/\Pm vs.length p/\Up Zol (λi=>ts.getD i []) p vs.length) rfl (by omega) h64 (λp' st' s' a1 a2 a3 a4=>⟨a4.1,p',a4.2.1,a4.2.2,a2,a3⟩) ?_) ?_ λ_ _ e=>e)
  ·refine Zp9 (o:=orc Zol λi=>ts.getD i []) (n:=vs.length) (λi j C hi hj hC=>?_) _ (ZsD (by omega) λp h1 h2=>⟨rfl,h1,h2⟩)
   have gi:ts[i]?=Z (ts.getD i []):=by simp[show i<ts.length by omega]
   have gj:ts[j]?=Z (ts.getD j []):=by simp[show j<ts.length by omega]
   obtain⟨b1,v1,x1⟩:=hT6 i _ gi;obtain⟨b2,v2,x2⟩:=hT6 j _ gj;show wpAny (model prog w) A (keyLt' _ (vs.getD i ZAx) (vs.getD j ZAx)) C _ _;rw[show vs.getD i ZAx=.ref b1 by simp[ZA0,v1],show vs.getD j ZAx=.ref b2 by simp[ZA0,v2]];exact ZwL x1 x2 hC
  ·rintro ⟨⟨⟩,st'⟩ s' ⟨rfl,p,hp,hu,har,hf⟩
   refine fin st' p.toList ?_ ?_ (kat_snds rfl har) hf
   ·have:=ZDy.mp hp.perm
    simpa using this
   ·rw[ZDF,ZDL]
    intro i j hi hj hij;have hsz:=hp.size;have q:=hu i j (ZBo hij) (by rw[ZzY]at hj; omega);unfold Ka at q;rw[show p.getD i 0=p.toList[i] by simp[ZBF,show i<p.size by simpa using hi],show p.getD j 0=p.toList[j] by simp[ZBF,show j<p.size by simpa using hj]]at q;exact q
end
def ZeV(h:Heap)(d:Addr)(es:Array DictEntry)(ep:Nat):Prop:=∃o,h.get? d=Z o/\o.ExactDict/\o.data=.dict es ep
theorem ZeV.at'{d:Addr}{es:Array DictEntry}(x:ZeV h d es ep)(e:∀o,h.get? d=Z o->h'.get? d=Z o):ZeV h' d es ep:=let ⟨o,ho,r⟩:=x; ⟨o,e _ ho,r⟩
theorem ZeV.typeIs{s:Shared}{d:Addr}{es:Array DictEntry}(x:ZeV s.heap d es ep):s.TypeIs (.ref d) "dict":=let ⟨o,ho,hc,_⟩:=x; ⟨o,ho,hc.1⟩
theorem ZeV.lt{d:Addr}{es:Array DictEntry}(x:ZeV h d es ep):d<h.objs.size:=let ⟨o,ho,_⟩:=x; ZzO ho
section
variable{prog:Program}{w:World}{A:Around}{E:Value->Shared->Prop}{s:Shared}{it d:Addr}{es:Array DictEntry}{ep i:Nat}
theorem ZoN{Q:Value->Shared->Prop}(hd:(d==ZA4)=ZEO)(hm:ZeV s.heap d es ep)
  (hQ:Q (.ref s.heap.objs.size) { s with heap:=s.heap.push { cls:=.type "dict_keyiterator",data:=.fields #[.ref d,.int 0 0,.int es.size 0,.int ep 0] } }) :
  wpAny (model prog w) A (pyIter (.ref d)) Q E s:=by
 obtain⟨o,ho,hc,hdat⟩:=id hm;have hT:=hm.typeIs;refine ZDE hT F.slot_dict_iter (ZAB F.slot_dict_iter hT F.entry_dict_iter ?_ (F.args_dict_iter_1 _));unfold Builtin.«dict.__iter__»;refine Zzv ?_;unfold Builtin.Dict.dictSlotNone;refine Zzv (wpAny_notOrdered_dict hT ?_);show wpAny _ _ (pure (ZAh d)) _ _ s;refine Zzz ?_;show wpAny _ _ (ZEs d >>= _) _ _ s;unfold ZEs;rw[if_neg (by rw[hd]; exact ZAi)];refine Zzv (Zzz (Zzv (ZCQ ho hdat (Zzv (ZEc ho hdat ?_)))));refine Zzv (ZAa (Zzz ⟨_,rfl,"dict_keyiterator",_,⟨_,ZzP _ rfl,rfl⟩,F.slot_dict_keyiterator_next.lookup,?_⟩));simpa [rawInt]using hQ
theorem ZnM{e:DictEntry}{Q:Option Value->Shared->Prop}(hit:s.heap.IsKeyIter it d i es.size ep)(hm:ZeV s.heap d es ep)(hx:es[i]?=Z e)
  (hQ:∀h',h'.IsKeyIter it d (i+1) es.size ep->ZA6 it s.heap h'->Q (Z e.key) { s with heap:=h' }) :
  wpAny (model prog w) A (pyNext (.ref it)) Q E s:=by
 obtain⟨o,ho,hc,hd⟩:=id hit;obtain⟨od,hod,hcd,hdd⟩:=id hm;unfold pyNext;refine Zzv (ZDx (wpAny_callSpecial?_slot (name:=Zz1 "__next__") hit.typeIs F.slot_dict_keyiterator_next
  (ZAB F.slot_dict_keyiterator_next hit.typeIs F.entry_dict_keyiterator_next ?_ (F.args_dict_keyiterator_next_1 _))))
 refine Zzv (Zzz (Zzv (Zzv ?_)))
 first | refine Zzv (ZBA hit.typeIs (Zzz ?_)) | refine Zzv (ZB5 hit.typeIs (Zzz ?_))
 refine Zzv (ZDl ho hd ?_);have hown:ZDm "dict_keyiterator" = ZEO:=by decide
 simp only[hown,ZA7,if_false];show wpAny _ _ (if(ZAh d==ZAx)=ZEN then _ else _) _ _ s;rw[if_neg (show ¬((ZAh d==ZAx)=ZEN) from ZAi)];refine Zzv (Zzz (Zzv (ZCQ hod hdd ?_)));rw[if_neg (by simp)];refine Zzv (Zzz (Zzv (ZEc hod hdd ?_)));rw[if_neg (by simp)];refine Zzz ?_;obtain⟨hlt,he⟩:=Array.getElem?_eq_some_iff.mp hx;simp only[show ¬((i:Int)<0) from by omega,if_false,ZBf,ZBW hlt];refine Zzv ?_
 first | refine Zzv (ZBA hit.typeIs (Zzz ?_)) | refine Zzv (ZB5 hit.typeIs (Zzz ?_))
 refine Zzv (wpAny_isOneOf_keyiter hit.typeIs ?_);show wpAny _ _ (setField (.ref it) 1 (rawInt ((i:Int)+1)) >>= _) _ _ s;refine Zzv (ZBY ho hd (by simp) ?_);have hit':(s.heap.update it (ZEy (·.setIfInBounds 1 (rawInt ((i:Int)+1))))).IsKeyIter it d (i+1) es.size ep :=
  ⟨_,ZAE _ ho (ZCj (ZAM hd _)),(ZCT ..).trans hc,by rw[ZAM hd]; simp[rawInt]⟩
 refine Zzv (ZAI ?_);refine Zzv (wpAny_isOneOf_keyiter (s:={ s with heap:=s.heap.update it (ZEy (·.setIfInBounds 1 (rawInt ((i:Int)+1)))) }) hit'.typeIs ?_);show wpAny _ _ (pure es[i].key) _ _ _;refine Zzz (Zzz ⟨_,rfl,Zzz ?_⟩);rw[he];exact hQ _ hit' (ZAz ..)
theorem Zqr{Q:Option Value->Shared->Prop}(hh:A.handled=Z_)(hit:s.heap.IsKeyIter it d i es.size ep)(hm:ZeV s.heap d es ep)(hx:es.size<=i)
  (hQ:∀h',Heap.ExtBut it s.heap h'->Q Z_ { s with heap:=h' }):wpAny (model prog w) A (pyNext (.ref it)) Q E s:=by
 obtain⟨o,ho,hc,hd⟩:=id hit;obtain⟨od,hod,hcd,hdd⟩:=id hm;unfold pyNext;refine Zzv (ZDx (wpAny_callSpecial?_slot (name:=Zz1 "__next__") hit.typeIs F.slot_dict_keyiterator_next
  (ZAB F.slot_dict_keyiterator_next hit.typeIs F.entry_dict_keyiterator_next ?_ (F.args_dict_keyiterator_next_1 _))))
 refine Zzv (Zzz (Zzv (Zzv ?_)))
 first | refine Zzv (ZBA hit.typeIs (Zzz ?_)) | refine Zzv (ZB5 hit.typeIs (Zzz ?_))
 refine Zzv (ZDl ho hd ?_);have hown:ZDm "dict_keyiterator" = ZEO:=by decide
 simp only[hown,ZA7,if_false];show wpAny _ _ (if(ZAh d==ZAx)=ZEN then _ else _) _ _ s;rw[if_neg (show ¬((ZAh d==ZAx)=ZEN) from ZAi)];refine Zzv (Zzz (Zzv (ZCQ hod hdd ?_)));rw[if_neg (by simp)];refine Zzv (Zzz (Zzv (ZEc hod hdd ?_)));rw[if_neg (by simp)];refine Zzz ?_;simp only[show ¬((i:Int)<0) from by omega,if_false,ZBf,ZCX hx];refine Zzv ?_
 first | refine Zzv (ZBA hit.typeIs (Zzz ?_)) | refine Zzv (ZB5 hit.typeIs (Zzz ?_))
 show wpAny _ _ (setField (.ref it) 0 .none >>= _) _ _ s;refine Zzv (ZBY ho hd (by simp) ?_);show wpAny _ _ (newExc (.type "StopIteration") [] >>= _) _ _ _;refine Zzv ?_;simp only[newExc,newTuple];refine Zzv (ZAa ?_ (by size_fits));refine Zzv (m:=ZCk _ _) (ZDo (a:=ZAx) (by first | rfl | (simp only[ZCk]; rfl)) ?_)
 refine ZAa ?_ (by size_fits);simp only[raiseNew];refine Zzv (wpAny_handled ?_);rw[show A.in1.handled=Z_ from hh];refine Zzv (Zzz (wpAny_throw ?_));refine Zzv (ZD0 (T:="StopIteration") (b:=ZEN) ⟨_,ZzP _ rfl,rfl⟩ isSubtype_stop ?_);exact Zzz (hQ _ (((ZAz ..).extBut.push _).push _))
theorem Zss(hh:A.handled=Z_)(I d:Addr)(hne:d≠I)(es:Array DictEntry)(ep:Nat) :
  Walks prog w A I [I,d] [I] es.size (λi v=>∃e,es[i]?=Z e/\v=e.key) (λi h=>h.IsKeyIter I d i es.size ep/\ZeV h d es ep) where
 sub:=λb hb=>by simp at hb; simp[hb]
 frame:=λ_ _ _ st hk=>⟨st.1.at λo e=>hk I (by simp) o e,st.2.at' λo e=>hk d (by simp) o e⟩
 item:=λi s Q E hi st hQ=>by have hx:es[i]?=Z es[i]:=ZBW hi;refine ZnM st.1 st.2 hx λh' hit' hs'=>?_;exact hQ _ h' s.toks ⟨_,hx,rfl⟩ ⟨hit',st.2.at' λo e=>hs'.extBut d o hne e⟩ λb o hb e=>hs'.extBut b o (λh=>hb (by simp[h])) e
 done:=λs Q E st hQ=>Zqr hh st.1 st.2 (ZzH _) λh' he'=>hQ h' s.toks λb o hb e=>he' b o (λh=>hb (by simp[h])) e
 self:=λ_ _ _ _ st hQ=>wpAny_pyIter_keyiter st.1 hQ
end
end HP
namespace HP
open PySem PySem.Spec PySem.W PySem.Calls PyProof.Rows L2
variable{a r:Addr}{es:Array (Int × Value)}{h:Heap}{ep:Nat}
variable[FX]
section
variable{prog:Program}{w:World}{A:Around}{E:Value->Shared->Prop}{s:Shared}
theorem ZtQ{Q:Bool->Shared->Prop}(hT:s.TypeIs (.ref r) "set")(h:Q ZEO s):wpAny (model prog w) A (ZDr (.ref r)) Q E s:=by
 unfold ZDr;refine Zzv (wpAny_specialOf hT PySem.F.slot_set_len.lookup ?_);generalize hid:("set.__len__":String)=id0
 wp_delta
 rw[show splitId id0=Z ("set","__len__") from by subst hid; decide +kernel];subst hid;refine Zzv (ZD0 (T:="set") (b:=ZEN) hT (by rw[isSubtype_type]; kernel_rfl) ?_);refine ZBJ (λq=>absurd q (by decide)) λ_=>?_;refine ZBJ (λ_=>?_) (λq=>absurd (by decide +kernel) q);exact Zzv (ZDU hT (Zzz h))
theorem ZuX{d:Addr}{es:Array DictEntry}(lo:(d==ZA4)=ZEO):KdlSrc prog w "dict" d d es.size (λi v=>∃e,es[i]?=Z e/\v=e.key) (λh=>ZeV h d es ep) where
 type:=λ_ hm=>hm.typeIs
 there:=λ_ hm=>⟨hm.lt,hm.lt⟩
 keep:=λ_ _ hm hk=>hm.at' λo e=>hk d (.inl rfl) o e
 notList:=by decide
 notTuple:=by decide
 hint:=λ_ _ _ _ hm hq=>kdl_hint_dict hm.typeIs hq
 iter:=λ_ _ hh hm=>⟨_,_,(λ_ _ hq=>ZoN lo hm hq),Zss hh _ d (ZzU hm.lt) es ep,⟨⟨_,ZzP _ rfl,rfl,rfl⟩,hm.at' λo e=>ZzA _ e⟩⟩
theorem Zex.typeIs{t:SetTable}(x:Zex w s.heap a es ep t):s.TypeIs (.ref a) "set":=let ⟨o,ho,hc,_⟩:=x.obj; ⟨o,ho,hc.1⟩
theorem Zex.lt{t:SetTable}(x:Zex w h a es ep t):a<h.objs.size:=let ⟨o,ho,_⟩:=x.obj; ZzO ho
theorem Zvh{t:SetTable}:KdlSrc prog w "set" a a es.size (λi v=>∃e,(Zd1 w a es ep)[i]?=Z e/\v=e.2) (λh=>Zex w h a es ep t) where
 type:=λ_ hm=>hm.typeIs
 there:=λ_ hm=>⟨hm.lt,hm.lt⟩
 keep:=λ_ _ hm hk=>hm.at' λo e=>hk a (.inl rfl) o e
 notList:=by decide
 notTuple:=by decide
 hint:=λ_ _ _ _ hm hq=>ZtQ hm.typeIs hq
 iter:=λ_ _ hh hm=>⟨_,_,(λ_ _ hq=>ZtZ hm hq),Zsx hh _ a (ZzU hm.lt) es ep t,⟨0,⟨_,ZzP _ rfl,rfl,rfl⟩,hm.at' λo e=>ZzA _ e,λ_=>ZqO hm.tab.rise⟩⟩
theorem Zg7{T:String}{d:Addr}{n:Nat}{P:Nat->Value->Prop}{OK:Heap->Prop}{R:List Value->Shared->Prop}(K:KdlSrc prog w T r d n P OK)(hh:A.handled=Z_)(hok:OK s.heap)(hn:n<=sizeLine)
  (h:∀(h':Heap) (tk:Nat) (acc:Array Value),(∀b o,s.heap.get? b=Z o->h'.get? b=Z o)->s.heap.objs.size<h'.objs.size->ItemsOf P acc n->R acc.toList { s with heap:=h',toks:=tk }) :
  wpAny (model prog w) A (collect (.ref r)) R E s:=by
 have hlt:=K.there _ hok;unfold collect;refine Zzv (wpAny_runValue (ZAT entry_proto_collect' ?_));rw[ZAH ZDs _];show wpAny _ A.in1 (newList [] >>= λl=>again (.builtin "list.__iadd__" ⟨[l,.ref r],[]⟩)) _ _ s;refine Zzv (ZAa (Zzz ⟨ZBP ZCa _,ZAT entry_list_iadd' ?_⟩));rw[ZAH ZCa _];have hS₁:(s.heap.push { cls:=.type "list",data:=.seq ([]:List Value).toArray }).get? s.heap.objs.size=Z { cls:=.type "list",data:=.seq #[] }:=ZzP _ rfl;show wpAny _ A.in1 (ZDt (.ref s.heap.objs.size) (.ref r) (.ref s.heap.objs.size)) _ _ _;refine ZAD (kdl_extend (A:=A) (s:={ s with heap:=s.heap.push { cls:=.type "list",data:=.seq ([]:List Value).toArray } })
  (R:=λ(q:Result) (s':Shared)=>∃(h':Heap) (tk:Nat) (acc':Array Value) (c':Nat),q=.ok (.ret (.ref s.heap.objs.size))/\s'={ s with heap:=h',toks:=tk } /\
   (∀b o,s.heap.get? b=Z o->h'.get? b=Z o)/\h'.get? s.heap.objs.size=Z { cls:=.type "list",dict:=Z_,data:=.seq acc' c',slots:=#[] }/\ItemsOf P acc' n)
  K hh (K.keep _ _ hok λb _ o e=>ZzA _ e) s.heap.objs.size (ZCB hlt.1) (ZCB hlt.2) (.ref s.heap.objs.size) 0 hS₁
  (λh' tk acc' c' hk hS' hacc=>⟨h',tk,acc',c',rfl,rfl,λb o e=>hk b o (ZzU (ZzO e)) (ZzA _ e),hS',hacc⟩) hn) (λfin s' x=>?_) λe s' x=>?_
 ·have go:∀(h':Heap) (tk:Nat) (acc':Array Value) (c':Nat),(∀b o,s.heap.get? b=Z o->h'.get? b=Z o)->h'.get? s.heap.objs.size=Z { cls:=.type "list",dict:=Z_,data:=.seq acc' c',slots:=#[] }->ItemsOf P acc' n ->
    wpAny (model prog w) A (load s.heap.objs.size >>= λo=>match o.data with | .seq xs _=>pure xs.toList | _=>unsupported "internal:collect") R E { s with heap:=h',toks:=tk }:=λh' tk acc' c' hk hS' hacc =>
   Zzv (wpAny_load hS' (Zzz (h h' tk acc' hk (ZzO hS') hacc)))
  cases fin with
  | done f=>obtain⟨h',tk,acc',c',e,rfl,hk,hS',hacc⟩:=x;cases e;exact go h' tk acc' c' hk hS' hacc
  | again c₁=>refine⟨x.1,ZBp x.2 λq s₂ y=>?_⟩;obtain⟨h',tk,acc',c',rfl,rfl,hk,hS',hacc⟩:=y;exact go h' tk acc' c' hk hS' hacc
 ·obtain⟨_,_,_,_,e',_⟩:=x
  cases e'
end
inductive Zja(K:Zzx)(F H:Hp)(p:Addr):List PyData->Prop where
 | lst {ds:List PyData} {vs:List V} (h:SqL K H p vs) (r:Zs K F ds vs):Zja K F H p ds
 | tup {ds:List PyData} {vs:List V} (h:SqT K H p vs) (r:Zs K F ds vs):Zja K F H p ds
 | dk {kvs:List (Key × V)} (h:H p=Z (.dK kvs)):Zja K F H p (kvs.map λq=>HM.ZaE q.1)
 | dt {kvs:List (List Key × V)} (h:H p=Z (.dT kvs)):Zja K F H p (kvs.map λq=>.tuple (q.1.map HM.ZaE))
theorem Zvz{K:Zzx}{F:Hp}(k:Key):Rep K F (HM.ZaE k) (kV k):=by
 cases k with
 | inl i=>exact .int i
 | inr x=>exact .str x
theorem ZgK{K:Zzx}{F:Hp}:∀(ks:List Key),Zs K F (ks.map HM.ZaE) (ks.map kV)
 | []=>.nil
 | k::ks=>.cons (Zvz k) (ZgK ks)
theorem ZuQ{P:Program}{w:World}{k:Key}{u:Value}(h:(Zaq P w).is k u=ZEN):RelV (kV k) u:=by
 rw[ZqS]at h;rcases Za9 h with⟨i,t,rfl,rfl⟩ | ⟨x,t,rfl,rfl⟩
 ·exact⟨t,rfl⟩
 ·exact⟨t,rfl⟩
section
variable{X:Cx}{pins:List (Addr × Obj)}{σ:L2.St}{H F:Hp}{s:Shared}{p:Addr}{ds:List PyData}
theorem Zhw:∀{vs:List V} {us:List Value},vs.length=us.length->(∀(i:Nat) v u,vs[i]?=Z v->us[i]?=Z u->RelV v u)->Vals vs us
 | [],[],_,_=>.nil
 | [],_::_,h,_=>by simp at h
 | _::_,[],h,_=>by simp at h
 | v::vs,u::us,h,k=>.cons (k 0 v u rfl rfl) (Zhw (by simpa using h) λi a b e1 e2=>k (i+1) a b (by simpa using e1) (by simpa using e2))
theorem Zja.gath(I:Inv X pins σ H s)(sub:Zq F H)(h:Zja X.K F H p ds):∃vs,Zs X.K (ZbU F H) ds vs/\∀(A:Around) (E:Value->Shared->Prop) (R:List Value->Shared->Prop),A.handled=Z_ ->
  (∀us h' tk,Vals vs us->(∀b o,s.heap.get? b=Z o->h'.get? b=Z o)->R us { s with heap:=h',toks:=tk })->wpAny (model X.prog X.w) A (collect (.ref p)) R E s:=by
 cases h with
 | @lst _ vs h r=>obtain⟨its,rv,pl,hz⟩:=I.list h;obtain⟨o,ho,hcl,n,hd⟩:=pl.isList;refine⟨vs,r.mono (ZcX sub),λA E R _ k=>wpAny_collect_seq p (.inl rfl) ho hcl hd (λh' kp=>?_) (by rw[ZzN,<-rv.length]; exact hz)⟩;exact k its h' s.toks rv kp
 | @tup _ vs h r=>obtain⟨its,rv,pl,hz⟩:=I.tuple h;obtain⟨o,ho,hcl,n,hd⟩:=pl;refine⟨vs,r.mono (ZcX sub),λA E R _ k=>wpAny_collect_seq p (.inr rfl) ho hcl hd (λh' kp=>?_) (by rw[ZzN,<-rv.length]; exact hz)⟩;exact k its h' s.toks rv kp
 | @dk kvs h =>
  obtain⟨z,lo,vs,rel,dd⟩:=Zri I.hok h;obtain⟨ep,hat⟩:=dd.dictAt;have hl:kvs.length=vs.length:=ZCb rel;refine⟨kvs.map λq=>kV q.1,?_,λA E R hh k=>Zg7 (kdl_dict (knd:=Zaq X.prog X.w) (kvs:=vs) (ep:=ep) lo) hh hat (by omega) λh' tk acc kp hsz hacc=>k _ h' tk ?_ kp⟩
  ·have:=ZgK (K:=X.K) (F:=ZbU F H) (kvs.map (·.1))
   rw[ZzV,ZzV]at this;exact this
  ·refine Zhw (by have q:acc.toList.length=acc.size:=ZzY; rw[Zzw,q,hacc.1,hl]) λi v u e1 e2=>?_
   obtain⟨kk,x,q1,q2⟩:=hacc.2 i u (by rw[<-ZAw]; exact e2);rw[Zz2]at e1;obtain⟨q,e3,e4⟩:=Zzy.mp e1;subst e4;have key:∀{l:List (Key × V)} {m:List (Key × Value)},KV l m->∀(i:Nat) a b,l[i]?=Z a->m[i]?=Z b->a.1=b.1:=by
    intro l m r
    induction r with
    | nil=>intro i a b e; simp at e
    | cons hq _ ih =>
     intro i a b e1 e2;cases i with
     | zero=>simp at e1 e2; subst e1; subst e2; exact hq.1
     | succ i=>exact ih i a b (by simpa using e1) (by simpa using e2)
   have ek:=key rel i q (kk,x) e3 q1;rw[ek];exact ZuQ q2
 | @dt kvs h =>
  obtain⟨z,lo,xs,rel,o,es,ep,h1,h2,h3,h4,h5⟩:=(show Z4 X.prog X.w H s.heap p (.dT kvs) from I.hok p _ h);have hl:kvs.length=xs.length:=ZCb rel;have hes:es.size=xs.length:=by rw[<-ZzY,h4,Zzw]
  have hm:ZeV s.heap p es ep:=⟨o,h1,h2,h3⟩;refine⟨xs.map λq=>V.ref q.2.1,?_,λA E R hh k=>Zg7 (ZuX (es:=es) (ep:=ep) lo) hh hm (by omega) λh' tk acc kp hsz hacc=>k _ h' tk ?_ kp⟩
  ·clear h4 hes hl z h h5
   induction rel with
   | nil=>exact .nil
   | @cons p0 _ _ _ hq _ ih=>obtain⟨q1,q2,_⟩:=hq;rw[ZzG,ZzG];refine .cons ?_ ih;have rk:=ZgK (K:=X.K) (F:=ZbU F H) p0.1;exact .tup (ZkF q2) rk.1 rk.2
  ·refine Zhw (by have q:acc.toList.length=acc.size:=ZzY; rw[Zzw,q,hacc.1,hes]) λi v u e1 e2=>?_
   obtain⟨e,q1,q2⟩:=hacc.2 i u (by rw[<-ZAw]; exact e2);subst q2;rw[Zz2]at e1;obtain⟨q,e3,e4⟩:=Zzy.mp e1;subst e4;rw[<-ZAw,h4,Zz2,e3]at q1;cases q1;rfl
theorem Zdn{K:Zzx}{F:Hp}:∀{ds:List PyData} {vs:List V} {ns:List Int},HM.ZaX ds=Z ns->Zs K F ds vs->vs=ns.map V.int
 | [],vs,ns,h,r=>by cases h;exact r.nil_inv
 | d::ds,vs,ns,h,r=>by
  obtain⟨v,us,rfl,r1,r2⟩:=r.cons_inv;cases d with
  | int b=>obtain⟨bs',h1,h2⟩:=Zzy.mp h;subst h2;rw[r1.int_inv,Zdn h1 r2];rfl
  | none=>cases h
  | bool _=>cases h
  | str _=>cases h
  | list _=>cases h
  | tuple _=>cases h
  | dict _=>cases h
theorem ZpU:∀(t:List Int),HM.ZaX (HM.ofInts t)=Z t
 | []=>rfl
 | x::t=>by show(HM.ZaX (HM.ofInts t)).map (x::·)=_;rw[ZpU t];rfl
theorem ZoO:∀{ds:List PyData} {ns:List Int},HM.ZaX ds=Z ns->ds=HM.ofInts ns
 | [],ns,h=>by cases h; rfl
 | d::ds,ns,h=>by
  cases d with
  | int b=>obtain⟨bs',h1,h2⟩:=Zzy.mp h;subst h2;rw[ZoO h1];rfl
  | none=>cases h
  | bool _=>cases h
  | str _=>cases h
  | list _=>cases h
  | tuple _=>cases h
  | dict _=>cases h
theorem Zfm{K:Zzx}{F:Hp}:∀(ns:List Int),Zs K F (HM.ofInts ns) (ns.map V.int)
 | []=>.nil
 | n::ns=>.cons (.int n) (Zfm ns)
theorem Zd9:∀{ns:List Int} {us:List Value},Vals (ns.map V.int) us->IntsAre us ns
 | [],_,r=>by rw[ZB1]at r; cases r; exact .nil
 | n::ns,_,r=>by
  rw[ZzG]at r;cases r with
  | cons h t=>obtain⟨u,rfl⟩:=h; exact .cons n u (Zd9 t)
theorem Zij:∀{us:List Value} {ns:List Int},IntsAre us ns->Vals (ns.map V.int) us
 | _,_,.nil=>.nil
 | _,_,.cons n t h=>.cons ⟨t,rfl⟩ (Zij h)
theorem ZnU:∀{ds:List PyData} {ts:List (List Int)},HM.Zjs ds=Z ts->ds=HM.Zfn ts
 | [],ts,h=>by cases h; rfl
 | d::ds,ts,h=>by
  cases d with
  | tuple es =>
   unfold HM.Zjs at h;split at h
   ·rename_i ns hn
    obtain⟨r',h1,h2⟩:=Zzy.mp h;subst h2;rw[ZoO hn,ZnU h1];rfl
   ·cases h
  | none=>cases h
  | bool _=>cases h
  | int _=>cases h
  | str _=>cases h
  | list _=>cases h
  | dict _=>cases h
theorem Zob{ns ms:List Int}(h:ms.Perm ns)(hs:ms.Pairwise (·<=·)):ms=HM.sortI ns:=by refine Zig (R:=(·<=·)) (λa b h1 h2=>by omega) (h.trans (ZCw ns _).symm) hs ?_;have:=ZCP (le:=λa b:Int=>decide (a<=b)) (λa b c h1 h2=>by simp at *; omega) (λa b=>by simp; omega) ns;exact this.imp λh=>by simpa using h
theorem Zt7{ts us:List (List Int)}(h:us.Perm ts)(hs:us.Pairwise (λx y=>HM.lexLt y x=ZEO)):us=HM.Zfa ts:=by
 refine Zig (R:=λx y=>HM.lexLt y x=ZEO) (λa b h1 h2=>Zjd a b h2 h1) (h.trans (ZCw ts _).symm) hs ?_;have:=ZCP (le:=λa b:List Int=>!HM.lexLt b a) (λa b c h1 h2=>by
  simp only[Bool.not_eq_true']at *;cases q:HM.lexLt c a with
  | false=>rfl
  | true =>
   rcases ZlR c b a q with z | z
   ·rw[h2]at z; cases z
   ·rw[h1]at z; cases z) (λa b=>by
  cases q:HM.lexLt b a with
  | false=>simp
  | true =>
   cases q2:HM.lexLt a b with
   | false=>simp
   | true=>have:=lex_trans _ _ _ q q2; rw[lex_irrefl]at this; cases this) ts
 exact this.imp λh=>by simpa using h
theorem Zj8{vs:List Value}{out:Array Value}{b:Addr}{o:Obj}(hb:b≠a)(e:h.get? b=Z o):(sortedHeap h a vs out).get? b=Z o:=by rw[sortedHeap_old hb (ZzO e)]; exact e
theorem Zoo(hc:X.calm=ZEN):ZaQ X (.builtin "sorted") (λxs H Q=>∃p F ds ds',xs=[.ref p]/\Zq F H/\Zja X.K F H p ds/\HM.Ze8 ds=Z ds'/\∀l ws,H l=Z_->Zs X.K (ZbU F H) ds' ws->Q (.ref l) (upd H l (.lst ws))):=by
 intro pins s σ H xs us Q I r h;obtain⟨p,F,ds,ds',rfl,sub,hsrc,hsort,q⟩:=h;obtain⟨u,rfl,rx⟩:=vals1 r;cases rx;obtain⟨vs,rv,go⟩:=hsrc.gath I sub;unfold HM.Ze8 at hsort;split at hsort
 ·rename_i h64
  have hvl:=rv.1;refine ZDN kind_sorted plain_sorted entry_sorted (args_sorted1 _) ?_;unfold Builtin.«sorted»;refine Zzv (m:=checkCount "sorted" 1 1 _) (Zzz ?_);refine Zzv (go _ _ _ (I.ok.hd hc) λus h' tk ru kp=>?_);have hul:=ru.length;refine Zzv (wpAny_newList ?_ (by rw[ZAS]; omega));have hoL:(h'.push (seqObj "list" us.toArray 0)).get? h'.objs.size=Z (seqObj "list" us.toArray 0):=ZzP _ rfl;have fin:∀(out:Array Value) (ws:List V),Vals ws out.toList->Zs X.K (ZbU F H) ds' ws->ws.length<64->EP X pins σ Q (.ref h'.objs.size) { s with heap:=sortedHeap (h'.push (seqObj "list" us.toArray 0)) h'.objs.size us out,toks:=tk }:=λout ws rw' rd hw=>by obtain⟨e,he⟩:=sortedHeap_at (out:=out) hoL;have I1:Inv X pins σ H { s with heap:=h',toks:=tk }:=I.kept kp;refine⟨.ref h'.objs.size,_,I1.laid (a:=h'.objs.size) (o:=.lst ws) (t':=tk) (λb o e1=>?_) (ZzH _) ⟨by rw[ZAS]; omega,out.toList,e,rw',by simpa using he⟩,rfl,q _ ws (I1.hok.fresh (ZzH _)) rd⟩;exact Zj8 (ZzU (ZzO e1)) (ZzA _ e1)
  show wpAny _ _ _ _ _ { s with heap:=h'.push (seqObj "list" us.toArray 0),toks:=tk };split at hsort
  ·rename_i ns hns
   cases hsort;have evs:=Zdn hns rv;rw[evs]at ru;have hI:=Zd9 ru;refine Zzv (ZAI (ZAB slot_list_sort ⟨_,hoL,rfl⟩ ZEd (list_sort_tree hoL hI (by omega) λout ns' a1 a2 a3=>⟨_,rfl,?_⟩) (args_list_sort _)));refine Zzz ⟨_,rfl,?_⟩;have e:=Zob a2 a3;have hl:ns'.length<64:=by rw[a2.length_eq,<-hI.length,<-hul]; omega
   refine fin out (ns'.map V.int) (Zij a1) ?_ (by rw[Zzw]; exact hl);rw[<-e];exact Zfm ns'
  ·split at hsort
   ·rename_i ts hts
    split at hsort
    ·rename_i hne
     cases hsort;have eds:=ZnU hts;have hT:∀(i:Nat) t,ts[i]?=Z t->∃b,us[i]?=Z (.ref b)/\TI (h'.push (seqObj "list" us.toArray 0)) b t:=λi t e=>by
      have ed:ds[i]?=Z (.tuple (HM.ofInts t)):=by rw[eds]; unfold HM.Zfn; rw[Zz2,e]; rfl
      obtain⟨v,hv,rp⟩:=rv.get ed;generalize hq:HM.ofInts t=q at rp;cases rp with
      | @tupk b x h1 =>
       exfalso;cases t with
       | nil=>cases hq
       | cons a t =>
        injection hq with e1 _
        cases e1
      | @tup b _ xs hb hl hr=>subst hq;obtain⟨u,hu,ru'⟩:=ru.get hv;cases ru';have ev:=Zdn (F:=ZbU F H) (ZpU t) ⟨hl,hr⟩;subst ev;have hH:H b=Z (.tup (t.map V.int)):=(Ext.refl sub).tups.sub _ _ hb;obtain⟨z,its,rt,o,h1,h2,n,h3⟩:=(show Z4 X.prog X.w H s.heap b (.tup (t.map V.int)) from I.hok b _ hH);exact⟨b,hu,o,its.toArray,n,ZzA _ (kp b o h1),h2,h3,by simpa using Zd9 rt⟩
     have hlt:ts.length=us.length:=by have:=congrArg ZAg eds;unfold HM.Zfn at this;rw[Zzw]at this;omega
     refine Zzv (ZAI (ZAB slot_list_sort ⟨_,hoL,rfl⟩ ZEd (Ztb hoL hlt hT ?_ (by omega) λpm hp hs=>⟨_,rfl,?_⟩) (args_list_sort _)))
     ·rw[ZBt]at hne
      rcases hne with z | z
      ·left
       have:=of_decide_eq_true z;omega
      ·right
       intro t ht e;have:=ZzR.mp z t ht;rw[e]at this;cases this
     ·refine Zzz ⟨_,rfl,?_⟩
      have hpl:pm.length=us.length:=by rw[hp.length_eq,ZBS]
      have hmem:∀i∈pm,i<us.length:=λi hi=>ZAj.mp (hp.mem_iff.mp hi);have e:(pm.map λi=>ts.getD i [])=HM.Zfa ts:=by
       refine Zt7 ?_ hs;refine(hp.map _).trans ?_;have:(ZzQ us.length).map (λi=>ts.getD i [])=ts:=by refine List.ext_getElem (by simp[hlt]) λi h1 h2=>?_;simp at h1;simp[ZA0,show i<ts.length by omega]
       rw[this]
      refine fin _ (pm.map λi=>vs.getD i V.non) ?_ ?_ (by rw[Zzw]; omega)
      ·refine Zhw (by simp) λk v u e1 e2=>?_
       rw[Zz2]at e1;rw[List.toList_toArray,Zz2]at e2;obtain⟨i,hi,rfl⟩:=Zzy.mp e1;rw[hi]at e2;cases e2;have hlt':=hmem i (Zz5 hi);have hv:vs[i]?=Z (vs.getD i V.non):=by simp[ZA0,show i<vs.length by omega]
       obtain⟨u,hu,ru'⟩:=ru.get hv;have:us.getD i ZAx=u:=by simp[ZA0,hu]
       show RelV _ (us.getD i ZAx);rw[this];exact ru'
      ·rw[<-e]
       refine⟨by unfold HM.Zfn; simp,λk d v e1 e2=>?_⟩;unfold HM.Zfn at e1;rw[Zz2,Zz2]at e1;rw[Zz2]at e2;obtain⟨i,hi,rfl⟩:=Zzy.mp e2;rw[hi]at e1;have hlt':=hmem i (Zz5 hi);have hd:ds[i]?=Z d:=by
        rw[eds]; unfold HM.Zfn;rw[Zz2];have:ts[i]?=Z (ts.getD i []):=by simp[ZA0,show i<ts.length by omega]
        rw[this];exact e1
       have hv:vs[i]?=Z (vs.getD i V.non):=by simp[ZA0,show i<vs.length by omega]
       exact rv.2 i d _ hd hv
    ·cases hsort
   ·cases hsort
 ·cases hsort
end
end HP
namespace HP
open PySem PySem.Spec PySem.W PySem.Calls PyProof.Rows L2
variable{F:Hp}{p' pos':Pos}{K:Zzx}
variable[FX]
section
variable{prog:Program}{w:World}{A:Around}{E:Value->Shared->Prop}{s:Shared}
theorem ZmS{r:Addr}{a b c:Int}{t u v:Tok}{n:Nat}{R:List Value->Shared->Prop}(hh:A.handled=Z_)(hr:IsRange s.heap r a b c t u v)(hsmall:ZEB a b c=ZEN)(hn:ZB8 a b c=n)(hlen:n<=2 ^ 24)
  (h:∀(h':Heap) (tk:Nat) (acc:Array Value),(∀b o,s.heap.get? b=Z o->h'.get? b=Z o)->ItemsOf (λi v=>∃t,v=.int (a+i*c) t) acc n->R acc.toList { s with heap:=h',toks:=tk }) :
  wpAny (model prog w) A (collect (.ref r)) R E s:=by
 unfold collect;refine Zzv (wpAny_runValue (ZAT entry_proto_collect' ?_));rw[ZAH ZDs _];show wpAny _ A.in1 (newList [] >>= λl=>again (.builtin "list.__iadd__" ⟨[l,.ref r],[]⟩)) _ _ s;refine Zzv (ZAa (Zzz ⟨ZBP ZCa _,ZAT entry_list_iadd' ?_⟩));rw[ZAH ZCa _];have hS₁:(s.heap.push { cls:=.type "list",data:=.seq ([]:List Value).toArray }).get? s.heap.objs.size=Z { cls:=.type "list",data:=.seq #[] }:=ZzP _ rfl;show wpAny _ A.in1 (ZDt (.ref s.heap.objs.size) (.ref r) (.ref s.heap.objs.size)) _ _ _;have hr1:IsRange (s.heap.push { cls:=.type "list",data:=.seq ([]:List Value).toArray }) r a b c t u v:=ZzA _ hr;refine ZAD (wpAny_extend_range (A:=A) (s:={ s with heap:=s.heap.push { cls:=.type "list",data:=.seq ([]:List Value).toArray } })
  (R:=λ(q:Result) (s':Shared)=>∃(h':Heap) (tk:Nat) (acc':Array Value) (c':Nat),q=.ok (.ret (.ref s.heap.objs.size))/\s'={ s with heap:=h',toks:=tk } /\
   (∀b o,s.heap.get? b=Z o->h'.get? b=Z o)/\h'.get? s.heap.objs.size=Z { cls:=.type "list",dict:=Z_,data:=.seq acc' c',slots:=#[] }/\ItemsOf (λi v=>∃t,v=.int (a+i*c) t) acc' n)
  hh hr1 hsmall hn hlen s.heap.objs.size (.ref s.heap.objs.size) 0 hS₁
  (λh' tk acc' c' hk hS' hacc=>⟨h',tk,acc',c',rfl,rfl,λb o e=>hk b o (ZzU (ZzO e)) (ZzA _ e),hS',hacc⟩)) (λfin s' x=>?_) λe s' x=>?_
 ·have go:∀(h':Heap) (tk:Nat) (acc':Array Value) (c':Nat),(∀b o,s.heap.get? b=Z o->h'.get? b=Z o)->h'.get? s.heap.objs.size=Z { cls:=.type "list",dict:=Z_,data:=.seq acc' c',slots:=#[] }->ItemsOf (λi v=>∃t,v=.int (a+i*c) t) acc' n ->
    wpAny (model prog w) A (load s.heap.objs.size >>= λo=>match o.data with | .seq xs _=>pure xs.toList | _=>unsupported "internal:collect") R E { s with heap:=h',toks:=tk }:=λh' tk acc' c' hk hS' hacc =>
   Zzv (wpAny_load hS' (Zzz (h h' tk acc' hk hacc)))
  cases fin with
  | done f=>obtain⟨h',tk,acc',c',e,rfl,hk,hS',hacc⟩:=x;cases e;exact go h' tk acc' c' hk hS' hacc
  | again c₁=>refine⟨x.1,ZBp x.2 λq s₂ y=>?_⟩;obtain⟨h',tk,acc',c',rfl,rfl,hk,hS',hacc⟩:=y;exact go h' tk acc' c' hk hS' hacc
 ·obtain⟨_,_,_,_,e',_⟩:=x
  cases e'
end
theorem ZjO(r:Addr)(a b c:Int)(t u v:Tok)(n:Nat)(hsmall:ZEB a b c=ZEN)(hn:ZB8 a b c=n)(hlen:n<=2 ^ 24) :
  Meets (Builtin.«tuple.__new__» ⟨[.type "tuple",.ref r],[]⟩)
   (λA R s=>A.handled=Z_/\IsRange s.heap r a b c t u v/\∀(h':Heap) (tk:Nat) (acc:Array Value),(∀b o',s.heap.get? b=Z o'->h'.get? b=Z o')->ItemsOf (λi v=>∃t,v=.int (a+i*c) t) acc n ->
    R (.ok (.ret (.ref h'.objs.size))) { s with heap:=h'.push { cls:=.type "tuple",data:=.seq acc },toks:=tk }) :=
 .of_wp λprog w A R s h=>by
  obtain⟨hp,g,d,tk,os⟩:=s; obtain⟨hh,ht,h⟩:=h;have hsub:=PySem.sub_tuple_self;have hinit:=PySem.init_tuple_lookup;have hmh:=PySem.madeHere_tuple;have hT:Shared.TypeIs ⟨hp,g,d,tk,os⟩ (.ref r) "range":=⟨_,ht,rfl⟩;have hh1:A.in1.handled=Z_:=hh
  wp_walk using ZDU hT,ZmS hh1 ht hsmall hn hlen
  intro h' tk' acc hk hacc;show wpAny _ _ (ZAJ acc.toList.toArray >>= λv=>ret v) _ _ _;unfold ZAJ;have e:acc.toList.toArray=acc:=by simp
  rw[e];refine Zzv (ZAa ?_ (by show acc.size<=sizeLine; rw[hacc.1,ZAS]; omega));exact Zzz ⟨_,rfl,h h' tk' acc hk hacc⟩
section
variable{X:Cx}{a b c e:Expr}{fa fb fc:HM.EF}{pos p:Pos}{f:HM.BF}
theorem ZnZ:ZaQ X (.type "range") (λxs H Q=>∃j,xs=[.int j]/\∀l,H l=Z_->Q (.ref l) (upd H l (.rng 0 j))):=by intro pins s σ H xs us Q I r h;obtain⟨j,rfl,q⟩:=h;obtain⟨u,rfl,rx⟩:=vals1 r;obtain⟨t,rfl⟩:=rx;refine call_range_1 ⟨.ref s.heap.objs.size,_,I.laid (a:=s.heap.objs.size) (o:=.rng 0 j) (λb o e=>ZzA _ e) (ZzH _) ?_,rfl,q _ (I.hok.fresh (ZzH _))⟩;exact⟨_,_,_,ZzP _ rfl⟩
theorem ZpL(hc:X.calm=ZEN):ZaQ X (.type "tuple") (λxs H Q=>∃p lo hi,xs=[.ref p]/\H p=Z (.rng lo hi)/\-1000000<lo/\lo<1000000/\-1000000<hi/\hi<1000000 /\
  ∀l,H l=Z_->Q (.ref l) (upd H l (.tup ((ZzQ (hi-lo).toNat).map λ(k:Nat)=>V.int (lo+k))))):=by
 intro pins s σ H xs us Q I r h;obtain⟨p,lo,hi,rfl,hp,h1,h2,h3,h4,q⟩:=h;obtain⟨u,rfl,rx⟩:=vals1 r;cases rx;obtain⟨t,u,v,ho⟩:=(show Z4 X.prog X.w H s.heap p (.rng lo hi) from I.hok p _ hp);have hn:ZB8 lo hi 1=((hi-lo).toNat:Nat):=by rw[rangeSize_one]; split<;>omega
 refine callType_new PySem.F.called_tuple (by decide) (PySem.F.typeCall_tuple_1 _) (PySem.F.newCall_tuple_1 _) (λobj=>PySem.F.args_object_init_2 obj _) PySem.F.entry_tuple_new
  (ZjO p lo hi 1 t u v (hi-lo).toNat (small_one (by omega) (by omega) (by omega) (by omega)) hn (by omega)) ⟨I.ok.hd hc,ho,λh' tk' acc kp hacc=>⟨⟨_,ZzP _ rfl,rfl⟩,?_⟩⟩
 have I1:Inv X pins σ H { s with heap:=h',toks:=tk' }:=I.kept kp;have rv:Vals ((ZzQ (hi-lo).toNat).map λ(k:Nat)=>V.int (lo+k)) acc.toList:=by
  refine Zhw (by have z:acc.toList.length=acc.size:=ZzY; rw[Zzw,ZBS,z,hacc.1]) λi v u e1 e2=>?_;rw[Zz2]at e1;obtain⟨k,hk,rfl⟩:=Zzy.mp e1;obtain⟨t,rfl⟩:=hacc.2 i u (by rw[<-ZAw]; exact e2);have:k=i:=by have:=ZzL.mp hk;obtain⟨_,e⟩:=this;simpa using e.symm
  subst this;exact⟨t,by simp⟩
 have I2:=I1.laid (a:=h'.objs.size) (o:=.tup ((ZzQ (hi-lo).toNat).map λ(k:Nat)=>V.int (lo+k))) (h':=h'.push { cls:=.type "tuple",data:=.seq acc }) (t':=tk') (λb o e=>ZzA _ e) (ZzH _)
  ⟨by rw[Zzw,ZBS,ZAS]; omega,acc.toList,rv,by simpa using ZD9 _ _⟩
 exact⟨.ref h'.objs.size,_,I2,rfl,q _ (I1.hok.fresh (ZzH _))⟩
theorem ZpE(lo:Int)(n:Nat):Zs K F (HM.ZcS lo n) ((ZzQ n).map λ(k:Nat)=>V.int (lo+k)):=by unfold HM.ZcS;refine⟨by simp,λi d v e1 e2=>?_⟩;rw[Zz2]at e1 e2;obtain⟨k,hk,rfl⟩:=Zzy.mp e1;rw[hk]at e2;cases e2;exact .int _
theorem Zpa(hmt:X.mg "tuple" = Z_)(hm:X.mg "range" = Z_)(hc:X.calm=ZEN)(ha:XE X a fa)(hgt:Gl X "tuple":=by rfl)(hg:Gl X "range":=by rfl)(hs:ZzC [a] X.env=[(ZEO,eval a X.env)]:=by rfl)
  (hs2:ZzC [ZEH (.Name "range" p') [a] [] pos'] X.env=[(ZEO,eval (ZEH (.Name "range" p') [a] [] pos') X.env)]:=by rfl) :
  XE X (.Call (.Name "tuple" p) [.Call (.Name "range" p') [a] [] pos'] [] pos) (HM.ZkB (HM.ZbL fa)):=by
 intro r d hd;unfold HM.ZkB at hd;split at hd
 ·rename_i ds hds
  split at hd
  ·cases hd
   unfold HM.ZbL at hds;split at hds
   ·rename_i j hj
    split at hds
    ·rename_i hok
     cases hds;obtain⟨k1,k2⟩:=Zp4 hok;refine PE.imp (Zdl (ZpL hc) hgt hmt Zkw (Zaa (Zdl ZnZ hg hm boot_range (Zaa (ha r _ hj) ZbJ hs) (he:=hs)) ZbJ hs2) (he:=hs2)) λσ H Q ⟨F0,H0,F,at_,k⟩=>?_;refine⟨F0,H0,F,at_,λv F1 H1 x1 r1=>⟨j,by rw[r1.int_inv],λl hl=>?_⟩⟩;refine⟨l,0,j,rfl,Zy,by omega,by omega,by omega,by omega,λl2 hl2=>?_⟩;have x2:=x1.lay' (o:=.rng 0 j) hl;have x3:=x2.lay (o:=.tup ((ZzQ (j-0).toNat).map λ(k:Nat)=>V.int (0+k))) hl2;have rp:=ZpE (K:=X.K) (F:=upd F1 l2 (.tup ((ZzQ (j-0).toNat).map λ(k:Nat)=>V.int (0+k)))) 0 j.toNat;have ej:(j-0).toNat=j.toNat:=by omega
     refine k _ _ _ x3 (.tup Zy ?_ ?_)
     ·rw[ej]; exact rp.1
     ·rw[ej]at rp ⊢; exact rp.2
    ·cases hds
   ·cases hds
  ·cases hd
 ·cases hd
theorem ZsE{H:Hp}{q:HM.B}{v:V}{fp:List Addr}{ds:List PyData}(sub:Zq F H)(r:Zag K F H q v fp)(h:HM.Zut q=Z ds):∃a,v=.ref a/\Zja K F H a ds:=by
 cases r with
 | pl r =>
  cases r with
  | tup h1 h2 h3=>cases h; exact⟨_,rfl,.tup (.of (sub _ _ h1)) ⟨h2,h3⟩⟩
  | @tupk a x h1=>cases h; exact⟨_,rfl,.tup (.inr h1) (.one (.str x))⟩
  | lst h1 h2 h3=>cases h; exact⟨_,rfl,.lst (sub.seq h1) ⟨h2,h3⟩⟩
  | dct _ _ _ _=>cases h
  | fn _=>cases h
  | non=>cases h
  | bl _=>cases h
  | int _=>cases h
  | str _=>cases h
 | ol h1 r=>cases h; exact⟨_,rfl,.lst (.of h1) r⟩
 | hd _ _ _ _=>cases h
 | hf _=>cases h
 | @ok a kvs vvs h1 h2 h3 =>
  cases h;refine⟨_,rfl,?_⟩;have e:(kvs.map λp=>HM.ZaE p.1)=vvs.map λp=>HM.ZaE p.1:=by
   have:=congrArg (ZBN HM.ZaE) h2
   rwa [ZzV,ZzV]at this
  rw[e];exact .dk h1
 | @ot a kvs vvs h1 h2 h3 =>
  cases h;refine⟨_,rfl,?_⟩;have e:(kvs.map λp=>Zz7 (p.1.map HM.ZaE))=vvs.map λp=>Zz7 (p.1.map HM.ZaE):=by
   have:=congrArg (ZBN λk:List Key=>Zz7 (k.map HM.ZaE)) h2
   rwa [ZzV,ZzV]at this
  rw[e];exact .dt h1
 | @otl a kvs vvs ls h1 h2 h3 h4 =>
  cases h;refine⟨_,rfl,?_⟩;have e:(kvs.map λp=>Zz7 (p.1.map HM.ZaE))=vvs.map λp=>Zz7 (p.1.map HM.ZaE):=by
   have:=congrArg (ZBN λk:List Key=>Zz7 (k.map HM.ZaE)) h2
   rwa [ZzV,ZzV]at this
  rw[e];exact .dt h1
theorem Ziz(hm:X.mg "sorted" = Z_)(hc:X.calm=ZEN)(ha:XB X a f)(hg:Gl X "sorted":=by rfl)(hs:ZzC [a] X.env=[(ZEO,eval a X.env)]:=by rfl):XF X (.Call (.Name "sorted" p) [a] [] pos) (HM.Zhs f):=by
 intro r d h;unfold HM.Zhs at h;split at h
 ·rename_i x hx
  split at h
  ·rename_i ds hds
   obtain⟨ds',h1,h2⟩:=Zzy.mp h;subst h2;refine PE.imp (ZcK (Zoo hc) hg hm Zmv (Zfp ha hx hs) (he:=hs)) λσ H Q ⟨F0,H0,F,at_,k⟩=>?_;refine⟨F0,H0,F,at_,λv fp F1 H1 x1 r1=>?_⟩;obtain⟨l,e1,src⟩:=ZsE x1.sub r1 hds;subst e1;exact⟨l,F1,ds,ds',rfl,x1.sub,src,h1,λl' ws hl' rs=>ZdY (P:=λv _ H'=>Q v H') x1.tups rs hl' k⟩
  ·cases h
 ·cases h
theorem ZsT(hc:X.calm=ZEN):ZaQ X (.type "set") (λxs H Q=>∃p ns,xs=[.ref p]/\SqL X.K H p (ns.map V.int)/\(∀n∈ns,0<=n/\n<8)/\∀l,H l=Z_->Q (.ref l) (upd H l (.ext λh=>ZdB X.prog X.w h l (HM.dedup [] ns)))):=by intro pins s σ H xs us Q I r h;obtain⟨p,ns,rfl,hq,hb,q⟩:=h;obtain⟨u,rfl,rx⟩:=vals1 r;cases rx;obtain⟨its,rv,pl,hz⟩:=I.list hq;refine ZrR (I.ok.hd hc) pl.isList (by simpa using Zd9 rv) hb λh' tk hS kp=>?_;have hS':=hS;obtain⟨o,es,ep,t,ho,_⟩:=hS';refine⟨.ref s.heap.objs.size,_,I.laid (a:=s.heap.objs.size) (o:=.ext λh=>ZdB X.prog X.w h s.heap.objs.size (HM.dedup [] ns)) (λb o e=>kp b o (ZzO e) e) (ZzH _) ?_,rfl,q _ (I.hok.fresh (ZzH _))⟩;exact⟨hS,⟨o,ho⟩,λh1 h2 x kk=>x.at' kk⟩
theorem ZoW(hc:X.calm=ZEN):ZaQ X (.builtin "sorted") (λxs H Q=>∃p L,xs=[.ref p]/\H p=Z (.ext λh=>ZdB X.prog X.w h p L)/\∀l,H l=Z_->Q (.ref l) (upd H l (.lst ((HM.sortI L).map V.int)))):=by
 intro pins s σ H xs us Q I r h;obtain⟨p,L,rfl,hp,q⟩:=h;obtain⟨u,rfl,rx⟩:=vals1 r;cases rx;obtain⟨hX,_,_⟩:=(show Z4 X.prog X.w H s.heap p (.ext λh=>ZdB X.prog X.w h p L) from I.hok p _ hp);obtain⟨o,es,ep,t,ho,hex,hd,hen,hpm,hpl,ht⟩:=hX;have hsz:=size_of hpl;have hfew:=ht.few;have raw:Zex X.w s.heap p es ep t:=⟨⟨o,ho,hex,hd⟩,by rw[hsz]; exact ht.fits,hsz,ht⟩;refine ZDN kind_sorted plain_sorted entry_sorted (args_sorted1 _) ?_;unfold Builtin.«sorted»;refine Zzv (m:=checkCount "sorted" 1 1 _) (Zzz ?_);refine Zzv (Zg7 (Zvh (es:=es) (ep:=ep) (t:=t)) (I.ok.hd hc) raw (by rw[ZAS]; omega) λh' tk acc kp _ hacc=>?_);have hal:acc.toList.length=es.size:=by rw[ZzY]; exact hacc.1
 have hI:IntsAre acc.toList ((Zd1 X.w p es ep).toList.map ZeA):=by
  have key:∀(us:List Value) (xs:List (Int × Value)),us.length=xs.length->(∀(i:Nat) u,us[i]?=Z u->∃e,xs[i]?=Z e/\u=e.2)->(∀e∈xs,∃n t,e=((intKind X.prog X.w).hash n,ZBl n t))->IntsAre us (xs.map ZeA):=by
   intro us
   induction us with
   | nil=>intro xs hl _ _; cases xs with | nil=>exact .nil | cons _ _=>simp at hl
   | cons u us ih =>
    intro xs hl hk he;cases xs with
    | nil=>simp at hl
    | cons x xs=>obtain⟨e,e1,e2⟩:=hk 0 u rfl;simp at e1;subst e1;obtain⟨n,t,e3⟩:=he x (ZzB ..);rw[e2,e3];exact .cons n t (ih xs (by simpa using hl) (λi u e=>hk (i+1) u (by simpa using e)) λe h=>he e (ZzD _ h))
  refine key acc.toList (Zd1 X.w p es ep).toList (by rw[hal,ZzY,Zi7]) (λi u e=>?_) λe h=>hen e ((Zjm X.w p es ep).mem_iff.mp h);obtain⟨e',e1,e2⟩:=hacc.2 i u (by rw[<-ZAw]; exact e);exact⟨e',by rw[ZAw]; exact e1,e2⟩
 refine Zzv (wpAny_newList ?_ (by rw[hal,ZAS]; omega));have hoL:(h'.push (seqObj "list" acc.toList.toArray 0)).get? h'.objs.size=Z (seqObj "list" acc.toList.toArray 0):=ZzP _ rfl;show wpAny _ _ _ _ _ { s with heap:=h'.push (seqObj "list" acc.toList.toArray 0),toks:=tk };refine Zzv (ZAI (ZAB slot_list_sort ⟨_,hoL,rfl⟩ ZEd (list_sort_tree hoL hI (by omega) λout ns' a1 a2 a3=>⟨_,rfl,?_⟩) (args_list_sort _)));refine Zzz ⟨_,rfl,?_⟩;have e:ns'=HM.sortI L:=Zob (a2.trans (((Zjm X.w p es ep).map ZeA).trans hpm)) a3;have hl:ns'.length<64:=by rw[a2.length_eq,<-hI.length,hal]; omega
 obtain⟨ee,he⟩:=sortedHeap_at (out:=out) hoL;have I1:Inv X pins σ H { s with heap:=h',toks:=tk }:=I.kept kp;refine⟨.ref h'.objs.size,_,I1.laid (a:=h'.objs.size) (o:=.lst (ns'.map V.int)) (t':=tk) (λb o e1=>?_) (ZzH _) ⟨by rw[Zzw,ZAS]; omega,out.toList,ee,Zij a1,by simpa using he⟩,rfl,?_⟩
 ·exact Zj8 (ZzU (ZzO e1)) (ZzA _ e1)
 ·rw[e]; exact q _ (I1.hok.fresh (ZzH _))
theorem Zna(hm:X.mg "sorted" = Z_)(hm2:X.mg "set" = Z_)(hc:X.calm=ZEN)(ha:XB X a f)(hg:Gl X "sorted":=by rfl)(hg2:Gl X "set":=by rfl)(hs:ZzC [a] X.env=[(ZEO,eval a X.env)]:=by rfl)
  (hs2:ZzC [ZEH (.Name "set" p') [a] [] pos'] X.env=[(ZEO,eval (ZEH (.Name "set" p') [a] [] pos') X.env)]:=by rfl) :
  XF X (.Call (.Name "sorted" p) [.Call (.Name "set" p') [a] [] pos'] [] pos) (HM.Zia f):=by
 intro r d h;unfold HM.Zia at h;split at h
 ·rename_i x hx
  split at h
  ·rename_i ds hds
   split at h
   ·rename_i ns hns
    split at h
    ·rename_i hlow
     cases h;refine PE.imp (ZcK (ZoW hc) hg hm Zmv (Zaa (Zdl (ZsT hc) hg2 hm2 Zxs (Zfp ha hx hs) (he:=hs)) ZbJ hs2) (he:=hs2)) λσ H Q ⟨F0,H0,F,at_,k⟩=>?_;refine⟨F0,H0,F,at_,λv fp F1 H1 x1 r1=>?_⟩;obtain⟨l,vs,e1,hq,rs⟩:=ZdX x1.sub r1 hds;subst e1;rw[Zdn hns rs]at hq;refine⟨l,ns,rfl,hq,λn hn=>?_,λl2 hl2=>⟨l2,_,rfl,Zy,λl3 hl3=>?_⟩⟩
     ·have:=ZzR.mp hlow n hn
      rw[ZzW,decide_eq_true_eq,decide_eq_true_eq]at this;exact this
     ·have x2:=x1.lay' (o:=.ext λh=>ZdB X.prog X.w h l2 (HM.dedup [] ns)) hl2
      exact ZdY (P:=λv _ H'=>Q v H') x2 (Zfm _) hl3 k
    ·cases h
   ·cases h
  ·cases h
 ·cases h
end
end HP
namespace HP
open PySem PySem.Spec PyProof.Rows L2
variable{r:HM.Env}
variable[FX]
section
variable{X:Cx}{a b:Expr}{fa:HM.EF}{f:HM.BF}{pos:Pos}
theorem ZoD(i:Int):∀ns:List Int,inV (.int i) (ns.map V.int)=ns.contains i
 | []=>rfl
 | n::ns=>by have ih:=ZoD i ns;unfold inV at ih ⊢;rw[ZzG,ZCc,ih,List.contains_cons];show(n==i||_)=(i==n||_);rw[show(n==i)=(i==n) from Bool.eq_iff_iff.mpr ⟨λh=>beq_iff_eq.mpr (beq_iff_eq.mp h).symm,λh=>beq_iff_eq.mpr (beq_iff_eq.mp h).symm⟩]
theorem Zmm:∀ns:List Int,(ns.map V.int).all ZbM=ZEN
 | []=>rfl
 | n::ns=>by rw[ZzG,ZAX,Zmm ns]; rfl
theorem ZtS{d:PyData}(h:HM.ZoB fa f r=Z d):∃i q ds ns,fa r=Z (.int i)/\f r=Z q/\HM.ZfD q=Z ds/\HM.ZaX ds=Z ns/\d=.bool (ns.contains i):=by
 unfold HM.ZoB at h;split at h
 ·split at h
  ·split at h
   ·obtain⟨c,h1,h2⟩:=Zzy.mp h
    obtain⟨ns,h3,h4⟩:=Zzy.mp h1;exact⟨_,_,_,ns,by assumption,by assumption,by assumption,h3,by rw[<-h2,<-h4]⟩
   ·cases h
  ·cases h
 ·cases h
theorem ZtR{neg:Bool}{i:Int}{q:HM.B}{ds:List PyData}{ns:List Int}(ha:XE X a fa)(hb:XB X b f)(h1:fa r=Z (.int i))(h2:f r=Z q)(h3:HM.ZfD q=Z ds)(h4:HM.ZaX ds=Z ns){op:CmpOp}(ho:OpR X (ZAU op) (rIn X.K neg))(hm:ZBz op b=ZEO) :
  PE X (.Compare a [op] [b] pos) (tAt X.K r λ_ F' _ v=>v=.bl (if neg then !ns.contains i else ns.contains i)):=by
 refine PE.imp (Zqn ho (ha r _ h1) (hb r q h2) hm) λσ H Q ⟨F0,H0,F,at_,k⟩=>?_;refine⟨F0,H0,F,at_,λv F1 H1 x1 r1=>⟨F0,H0,F1,at_.grow x1,λw F2 H2 x2 ⟨fp,r2⟩=>?_⟩⟩;obtain⟨p,vs,e1,hq,rs⟩:=ZkC x2.sub r2 h3;cases r1;rw[Zdn h4 rs]at hq;refine⟨p,_,e1,hq,rfl,Zmm ns,k _ F2 H2 (x1.trans x2) ?_⟩;rw[ZoD]
theorem Zv0(ha:XE X a fa)(hb:XB X b f)(hm:ZBz .In b=ZEO:=by rfl):XE X (.Compare a [.In] [b] pos) (HM.ZoB fa f):=by intro r d h;obtain⟨i,q,ds,ns,h1,h2,h3,h4,rfl⟩:=ZtS h;refine PE.imp (ZtR ha hb h1 h2 h3 h4 Zs1 hm) λσ H Q ⟨F0,H0,F,at_,k⟩=>⟨F0,H0,F,at_,λv F' H' x e=>k v F' H' x ?_⟩;subst e;exact .bl _
end
end HP
namespace HP
open PySem PySem.Spec PyProof.Rows L2
variable[FX]
section
variable{X:Cx}{c e:Expr}{fa:HM.EF}{t:HM.TF}{g:HM.SF}{pos:Pos}{body:List Stmt}
theorem Znb(n:Nat)(hxe:X.xe=λ_ _=>False)(hc:XT X c t)(hb:XSs X body g):XS X (.While c body [] pos) (HM.ZoH n t g):=by
 intro r o ho;have ho:HM.ZbN t g n r=Z o:=ho;have pb:PSs X body (λE σ H=>∃r o,g r=Z o/\tSt X.K r o E σ H):=λpins s σ H E I ⟨r,o,h1,h2⟩=>hb r o h1 pins s σ H E I h2;have pc:PT X c (λσ H Q=>∃r b,t r=Z b/\Now X.K r σ H λF0 H0 F=>∀F' H',Ext F H F' H'->Q b H'):=λpins s σ H Q I ⟨r,b,h1,h2⟩=>hc r b h1 pins s σ H Q I h2;refine PS.imp (Zum (Zmh hxe) pc pb) λE σ H ⟨F0,H0,F,at_,k⟩=>?_;refine⟨λm σ H=>∃F r,At X.K F0 H0 F H r σ/\HM.ZbN t g m r=Z o,⟨n,F,r,at_,ho⟩,?_⟩
 rintro m σ H ⟨F2,r2,at2,go⟩
 cases m with
 | zero=>cases go
 | succ m =>
  unfold HM.ZbN at go;split at go
  ·rename_i ht
   refine⟨r2,ZEN,ht,F0,H0,F2,at2,λF' H' x=>?_⟩;dsimp only;rw[if_pos rfl];have at3:=at2.grow x;have a4:=at3.rebase;refine⟨λσ' H'=>∃F r,At X.K F0 H0 F H' r σ'/\HM.ZbN t g m r=Z o,λσ' H' q=>⟨m,ZB3 m,q⟩,?_⟩;split at go
   ·rename_i r' hr
    exact⟨_,_,hr,F',H0,F',a4,λσ' F' H' a'=>⟨F',r',a'.unbase at3.ext at3.nt0,go⟩⟩
   ·rename_i r' hr
    exact⟨_,_,hr,F',H0,F',a4,λσ' F' H' a'=>⟨F',r',a'.unbase at3.ext at3.nt0,go⟩⟩
   ·rename_i r' hr
    cases go;exact⟨_,_,hr,F',H0,F',a4,λσ' F' H' a'=>k σ' F' H' (a'.unbase at3.ext at3.nt0)⟩
   ·rename_i d hr
    cases go;exact⟨_,_,hr,F',H0,F',a4,λv F' H' x q=>k v F' H' (at3.ext.unbase x) q⟩
   ·cases go
  ·rename_i ht
   cases go;refine⟨r2,ZEO,ht,F0,H0,F2,at2,λF' H' x=>?_⟩;dsimp only;rw[if_neg (by simp)];exact k σ F' H' (at2.grow x)
  ·cases go
end
end HP
namespace HP
open PySem PySem.Spec PyProof.Rows L2
variable[FX]
section
variable{X:Cx}{a b:Expr}{fa:HM.EF}{f:HM.BF}{pos:Pos}
open Classical in
end
end HP
namespace HP
open PySem PySem.Spec PyProof.Rows L2
variable{q:HM.B}{r:HM.Env}{F H:Hp}{fp:List Addr}{K:Zzx}
variable[FX]
section
variable{X:Cx}{a b c e:Expr}{fa fb fc:HM.EF}{f:HM.BF}{pos p:Pos}{es:List Expr}
theorem rdT{F':Hp}{a:Addr}{vvs:List (List Key × V)}(r:Rd F a (.dT vvs))(s:Zax F F'):Rd F' a (.dT vvs):=r.imp (λh=>s _ _ h) λ⟨o,h⟩=>⟨o,s _ _ h⟩
theorem ZmZ{a b:Addr}{kvs:List (List Key × V)}{k:List Key}(e:Rd H a (.dT kvs))(eb:H b=Z (.tup (k.map kV))):Zdo H a (.ref b) (ZaI kvs k):=.inr ⟨kvs,k,b,e,rfl,eb,rfl⟩
theorem ZhP{v:V}{kvs:List (List Key × PyData)}(sub:Zq F H)(r:Zag K F H q v fp)(h:HM.Zkv q=Z kvs):∃l vvs,v=.ref l/\Rd H l (.dT vvs)/\ZaM K F kvs vvs:=by
 cases r with
 | pl r =>
  cases r with
  | @dct l es kvs' vvs h1 h2 h3 h4=>subst h2;have h:HM.ZeP (HM.Zg kvs')=Z kvs:=h;rw[HM.dec_enc]at h;cases h;refine⟨l,vvs,rfl,Zjq h1 sub,h3,?_,h4⟩;have:=congrArg ZAg h3;rw[Zzw,Zzw]at this;rw[Zzw,Zzw,this]
  | fn _=>cases h
  | tupk _=>cases h
  | tup _ _ _=>cases h
  | lst _ _ _=>cases h
  | non=>cases h
  | bl _=>cases h
  | int _=>cases h
  | str _=>cases h
 | ol _ _=>cases h
 | ok _ _ _=>cases h
 | @ot l kvs vvs h1 h2 h3=>cases h; exact⟨l,vvs,rfl,.inl h1,h2,h3⟩
 | @hd l o es kvs' vvs h1 h2 h3 h4=>subst h2;have h:HM.ZeP (HM.Zg kvs')=Z kvs:=h;rw[HM.dec_enc]at h;cases h;exact⟨l,vvs,rfl,.inr ⟨o,sub _ _ h1⟩,h3,h4⟩
 | hf _=>cases h
 | otl _ _ _ _=>cases h
theorem Zub{d:PyData}(h:HM.ZoP fa f r=Z d):∃x q kvs y,fa r=Z x/\f r=Z q/\HM.Zkv q=Z kvs/\HM.Zbp x=Z y/\d=.bool (HM.Zj kvs y).isSome:=by
 unfold HM.ZoP at h;split at h
 ·split at h
  ·split at h
   ·obtain⟨y,h1,h2⟩:=Zzy.mp h
    exact⟨_,_,_,y,by assumption,by assumption,by assumption,h1,h2.symm⟩
   ·cases h
  ·cases h
 ·cases h
theorem ZpF{d:PyData}(h:HM.Zd6 fa f r=Z d):∃x q kvs y,fa r=Z x/\f r=Z q/\HM.Zkv q=Z kvs/\HM.Zbp x=Z y/\d=.bool (!(HM.Zj kvs y).isSome):=by
 unfold HM.Zd6 at h;split at h
 ·split at h
  ·split at h
   ·obtain⟨y,h1,h2⟩:=Zzy.mp h
    exact⟨_,_,_,y,by assumption,by assumption,by assumption,h1,h2.symm⟩
   ·cases h
  ·cases h
 ·cases h
theorem Zv1(hu:X.A.units+1<cLine)(ha:XE X a fa)(hb:XB X b f)(hm:ZBz .In b=ZEO:=by rfl):XT X (.Compare a [.In] [b] pos) (HM.tV (HM.ZoP fa f)):=by intro r d h;obtain⟨x,q,kvs,y,h1,h2,h3,h4,e⟩:=Zub (Zk4 h);cases e;refine PT.imp (ZsJ (Zw0 hu (ha r x h1) (hb r q h2)) hm) λσ H Q ⟨F0,H0,F,at_,k⟩=>?_;refine⟨F0,H0,F,at_,λv F1 H1 x1 r1=>⟨F0,H0,F1,at_.grow x1,λw F2 H2 x2 ⟨fp,r2⟩=>?_⟩⟩;obtain⟨l,vvs,e1,e2,T⟩:=ZhP x2.sub r2 h3;obtain⟨bb,rfl,hbb⟩:=Zdj h4 (r1.mono x2.ff);exact⟨l,_,e1,ZmZ e2 (x2.sub _ _ hbb),_,rfl,by rw[T.some_iff]; exact k F2 H2 (x1.trans x2)⟩
theorem Zl0(hu:X.A.units+1<cLine)(ha:XE X a fa)(hb:XB X b f)(hm:ZBz .NotIn b=ZEO:=by rfl):XT X (.Compare a [.NotIn] [b] pos) (HM.tV (HM.Zd6 fa f)):=by intro r d h;obtain⟨x,q,kvs,y,h1,h2,h3,h4,e⟩:=ZpF (Zk4 h);cases e;refine PT.imp (ZsJ (Zs2 hu (ha r x h1) (hb r q h2)) hm) λσ H Q ⟨F0,H0,F,at_,k⟩=>?_;refine⟨F0,H0,F,at_,λv F1 H1 x1 r1=>⟨F0,H0,F1,at_.grow x1,λw F2 H2 x2 ⟨fp,r2⟩=>?_⟩⟩;obtain⟨l,vvs,e1,e2,T⟩:=ZhP x2.sub r2 h3;obtain⟨bb,rfl,hbb⟩:=Zdj h4 (r1.mono x2.ff);exact⟨l,_,e1,ZmZ e2 (x2.sub _ _ hbb),_,rfl,by rw[T.some_iff]; exact k F2 H2 (x1.trans x2)⟩
theorem Zd2(hu:X.A.units+1<cLine)(ha:XB X a f)(hk:XE X b fb)(hs:ZqY b:=by intro _ _; rfl):XE X (.Subscript a b pos) (HM.Z8 f fb):=by
 intro r d h;unfold HM.Z8 at h;split at h
 ·rename_i q hq
  split at h
  ·rename_i kvs hd
   split at h
   ·rename_i x hx
    split at h
    ·rename_i y hy
     refine PE.imp (Zqa hu (ha r q hq) (hk r x hx) hs) λσ H Q ⟨F0,H0,F,at_,kk⟩=>?_;refine⟨F0,H0,F,at_,λv F1 H1 x1 ⟨fp,r1⟩=>⟨F0,H0,F1,at_.grow x1,λw F2 H2 x2 r2=>?_⟩⟩;obtain⟨l,vvs,e1,e2,T⟩:=ZhP x1.sub r1 hd;have e2':=rdT e2 x2.hh;have T':ZaM X.K F2 kvs vvs:=⟨T.1,T.2.mono x2.ff⟩;obtain⟨bb,rfl,hbb⟩:=Zdj hy r2;obtain⟨u,q1,q2⟩:=T'.look.1 d h;exact⟨l,u,e1,by rw[<-q1]; exact ZmZ e2' (x2.sub _ _ hbb),kk u F2 H2 (x1.trans x2) q2⟩
    ·cases h
   ·cases h
  ·cases h
 ·cases h
structure XAL(X:Cx)(es:List Expr)(f:HM.AF):Prop where
 len:∀r ds,f r=Z ds->ds.length=es.length
 pa:∀r ds,f r=Z ds->PA X es λσ H Q=>Now X.K r σ H λF0 H0 F=>∀vs F' H',Ext F H F' H'->Zs X.K H' ds vs->Q vs H'
theorem Zag.lent{v:V}{d:PyData}(sub:Zq F H)(r:Zag K F H q v fp)(h:HM.frz q=Z d):Rep K H d v:=by
 cases r with
 | pl r=>cases h; exact r.mono sub
 | ol h1 r=>cases h; exact .lst (.of h1) r.1 (r.mono sub).2
 | ok _ _ _=>cases h
 | hd h1 he hk r=>cases h; exact(Rep.dct (.inr ⟨_,h1⟩) he hk r.2).mono sub
 | hf h1=>cases h; exact(Rep.fn h1).mono sub
 | ot h1 hk r=>cases h; exact .dct (.inl h1) rfl hk (r.mono sub).2
 | otl _ _ _ _=>cases h
end
end HP
namespace HP
open PySem PySem.Spec PyProof.Rows L2
variable{g:HM.AF}{F:Hp}
variable[FX]
section
variable{X:Cx}{a b c e:Expr}{fa fb fc:HM.EF}{f:HM.BF}{pos p:Pos}{es:List Expr}
theorem ZrG(h:XA X es g):XAL X es g :=
 ⟨h.len,λr ds hd=>PA.imp (h.pa r ds hd) λσ H Q ⟨F0,H0,F,at_,k⟩=>⟨F0,H0,F,at_,λvs F' H' x q=>k vs F' H' x (q.mono x.sub)⟩⟩
theorem Zka(ha:XE X e fa)(hr:XAL X es g)(hs:ZzC (e::es) X.env=(ZEO,eval e X.env)::ZzC es X.env:=by rfl):XAL X (e::es) (HM.Za fa g):=by
 refine⟨λr ds h=>?_,λr ds h=>?_⟩
 ·unfold HM.Za at h
  split at h
  ·obtain⟨xs,h1,h2⟩:=Zzy.mp h
   subst h2;rw[ZzS,ZzS,hr.len r xs h1]
  ·cases h
 unfold HM.Za at h;split at h
 ·rename_i x hx
  obtain⟨xs,h1,h2⟩:=Zzy.mp h;subst h2;refine PA.imp (Zaa (ha r x hx) (hr.pa r xs h1) hs) λσ H Q ⟨F0,H0,F,at_,k⟩=>?_;exact⟨F0,H0,F,at_,λv F1 H1 x1 r1=>⟨F0,H0,F1,at_.grow x1,λvs F2 H2 x2 r2=>k (v::vs) F2 H2 (x1.trans x2) (.cons ((r1.mono x2.ff).mono x2.sub) r2)⟩⟩
 ·cases h
theorem Znc(ha:XB X e f)(hr:XAL X es g)(hs:ZzC (e::es) X.env=(ZEO,eval e X.env)::ZzC es X.env:=by rfl):XAL X (e::es) (HM.Za (HM.ZhY f) g):=by
 refine⟨λr ds h=>?_,λr ds h=>?_⟩
 ·unfold HM.Za at h
  split at h
  ·obtain⟨xs,h1,h2⟩:=Zzy.mp h
   subst h2;rw[ZzS,ZzS,hr.len r xs h1]
  ·cases h
 unfold HM.Za at h;split at h
 ·rename_i x hx
  obtain⟨xs,h1,h2⟩:=Zzy.mp h;subst h2;obtain⟨q,hq,hf⟩:=ZCO.mp hx;refine PA.imp (Zaa (ha r q hq) (hr.pa r xs h1) hs) λσ H Q ⟨F0,H0,F,at_,k⟩=>?_;exact⟨F0,H0,F,at_,λv F1 H1 x1 ⟨fp,r1⟩=>⟨F0,H0,F1,at_.grow x1,λvs F2 H2 x2 r2=>k (v::vs) F2 H2 (x1.trans x2) (.cons ((r1.lent x1.sub hf).monoT x2.hh) r2)⟩⟩
 ·cases h
theorem Rep.flat{K:Zzx}{F':Hp}{d:PyData}{v:V}(r:Rep K F d v)(h:HM.Zlp d=ZEN):Rep K F' d v:=by
 cases r with
 | non=>exact .non
 | bl b=>exact .bl b
 | int i=>exact .int i
 | str x=>exact .str x
 | tupk _=>cases h
 | tup _ _ _=>cases h
 | lst _ _ _=>cases h
 | dct _ _ _ _=>cases h
 | fn _=>cases h
theorem Ext.forget{H F'' H'':Hp}(s:Zq F H)(n:NoT F)(x:Ext (Zcf H) H F'' H''):Ext F H F H'' :=
 ⟨Zq.refl F,x.hh,(n.sub s).trans (x.ff.trans x.sub),λ_ _ z=>.inl z,x.tab,id⟩
theorem Zso(hc:X.calm=ZEN):ZaQ X (.builtin "max") (λxs H Q=>∃(p:Addr) (ns:List Int),xs=[.ref p]/\SqL X.K H p (ns.map V.int)/\0<ns.length/\∀M,M∈ns->(∀a,a∈ns->a<=M)->Q (.int M) H):=by
 intro pins s σ H xs us Q I r h;obtain⟨p,ns,rfl,hq,hne,q⟩:=h;obtain⟨u,rfl,rx⟩:=vals1 r;cases rx;obtain⟨its,rv,pl,hz⟩:=I.list hq;have hi:=Zd9 rv;obtain⟨xs,e⟩:=hi.allInts.items;have hns:ns=xs.toList.map (·.1):=by rw[<-hi.numsOf,<-nums_intItems,<-e]
 have hsz:0<xs.size:=by have h3:=hne; rw[hns,Zzw,ZzY]at h3; exact h3
 have hl:=pl.isList;rw[e]at hl;refine max_intList (I.ok.hd hc) hl hsz λv h' tk hv hk=>?_;obtain⟨t,rfl⟩:=intItems_at hv;obtain⟨h1,h2⟩:=argBest_gt (numAt xs) (xs.size-1);refine⟨.int _,H,I.kept (t':=tk) hk,⟨t,rfl⟩,q _ ?_ λa ha=>?_⟩
 ·rw[hns,numAt_eq]; exact getD_mem (by rw[Zzw,ZzY]; omega)
 ·rw[hns]at ha
  obtain⟨j,hj,rfl⟩:=mem_getD ha;rw[Zzw,ZzY]at hj;rw[<-numAt_eq]; exact h2 j (by omega)
theorem ZuH(hm:X.mg "max" = Z_)(hc:X.calm=ZEN)(ha:XB X a f)(hg:Gl X "max":=by rfl)(hs:ZzC [a] X.env=[(ZEO,eval a X.env)]:=by rfl):XE X (.Call (.Name "max" p) [a] [] pos) (HM.Zk6 f):=by
 intro r d h;unfold HM.Zk6 at h;split at h
 ·rename_i x hx
  split at h
  ·rename_i ds hds
   split at h
   ·rename_i ns hns
    obtain⟨m,h1,h2⟩:=Zzy.mp h;subst h2;refine PE.imp (ZcK (Zso hc) hg hm Zsi (Zfp ha hx hs) (he:=hs)) λσ H Q ⟨F0,H0,F,at_,k⟩=>?_;refine⟨F0,H0,F,at_,λv fp F1 H1 x1 r1=>?_⟩;obtain⟨l,vs,e1,hq,rs⟩:=ZdX x1.sub r1 hds;rw[Zdn hns rs]at hq;obtain⟨m1,m2⟩:=ZEt.mp h1;refine⟨l,ns,by rw[e1],hq,List.length_pos_of_mem m1,λM k1 k2=>?_⟩;have:M=m:=Int.le_antisymm (m2 M k1) (k2 m m1);subst this;exact k _ F1 H1 x1 (.int _)
   ·cases h
  ·cases h
 ·cases h
end
end HP
namespace HP
open PySem PySem.Spec PyProof.Rows L2
variable[FX]
end HP
namespace HP
open PySem PySem.Spec PyProof.Rows L2
variable{p1 p2 p3:Pos}{x:Str}
variable[FX]
section
variable{X:Cx}{a b c e:Expr}{fa fb fc:HM.EF}{f:HM.BF}{pos p:Pos}{es:List Expr}
theorem ZrH(i:Nat)(ha:XB X a f)(hN:X.N[i]?=Z x:=by rfl)(hv:Vis X.env.scope x:=by first | exact ZAt rfl | exact Zz8 (ZAt rfl) | exact Zz8 (Zz8 rfl))(hd:(x==("__debug__":Str))=ZEO:=by decide)(hcd:(x==("__classdict__":Str))=ZEO:=by decide)
  (hbase:ZBM (.Name x p1) "extend" X.env (eval (.Name x p1) X.env)=eval (.Name x p1) X.env:=by rfl)
  (hfew:((backTo p3 (ZzC [a] X.env)).all (λx=>!x.1)&&(ZDV p3 (ZCW [] X.env)).all (λx=>x.1.isSome)&&decide (([a]:List Expr).length+([]:List Keyword).length+(if([]:List Keyword).isEmpty then 0 else 1)<30))=ZEN:=by rfl)
  (hline:(p2.endLine==p3.line)=ZEN:=by rfl) (hs:ZzC [a] X.env=[(ZEO,eval a X.env)]:=by rfl):XS X (.Expr (.Call (.Attribute (.Name x p1) "extend" p2) [a] [] p3) pos) (HM.ZjG i f):=by
 intro r o h;unfold HM.ZjG at h;split at h
 ·rename_i ds hds
  split at h
  ·rename_i es hes
   split at h
   ·rename_i hz
    cases h;refine PS.imp (Zhu (Zrt ZB9 PySem.F.slot_list_extend PySem.F.type_list_extend Zsw (ZbQ hN hv hd hcd) (Zaa (ha r _ hes) ZbJ hs) hbase hfew hline hs rfl)) λE σ H ⟨F0,H0,F,at_,k⟩=>?_;obtain⟨l,vs,e1,e2,e3,_⟩:=at_.chgList (es:=ds) hds;refine⟨.ref l,e1,.inl ⟨rfl,_,SqL.of e2⟩,F0,H0,F,at_,λv F1 H1 x1 ⟨fp,r1⟩=>?_⟩;have at1:=at_.grow x1;obtain⟨l',vs',f1,f2,f3,f4⟩:=at1.chgList (es:=ds++es) hds;rw[e1]at f1;cases f1;cases r1 with
    | @ol b _ us hb rs =>
     refine⟨_,b,vs',us,rfl,rfl,f2,hb,?_,k _ F1 _ (f4 _ (f3.append rs))⟩;have e4:=f3.1;have e6:=rs.1;have e5:(1000000:Nat)<=sizeLine:=by decide
     unfold HM.big at hz;omega
   ·cases h
  ·cases h
 ·cases h
theorem Zv2(i j:Nat){y:Str}{p4:Pos}(hN:X.N.Nodup)(hNi:X.N[i]?=Z x:=by rfl)(hNj:X.N[j]?=Z y:=by rfl)(hx:Loc X.env.scope x:=by first | exact ZAt rfl | exact Zz8 rfl)(hv:Vis X.env.scope y:=by first | exact ZAt rfl | exact Zz8 (ZAt rfl) | exact Zz8 (Zz8 rfl))(hd:(y==("__debug__":Str))=ZEO:=by decide)(hcd:(y==("__classdict__":Str))=ZEO:=by decide)
  (hbase:ZBM (.Name y p1) "pop" X.env (eval (.Name y p1) X.env)=eval (.Name y p1) X.env:=by rfl) (hline:(p2.endLine==p3.line)=ZEN:=by rfl)
  (hs:ZBG (.Call (.Attribute (.Name y p1) "pop" p2) [] [] p3) (Z (.Name x p4)) pos.line X.env=pure ZEO:=by rfl) (hf:X.fn x=ZEN\/X.env.scope.names.lookup x=Z .local:=by first | exact .inl rfl | exact .inr rfl) :
  XS X (.Assign [.Name x p4] (.Call (.Attribute (.Name y p1) "pop" p2) [] [] p3) pos) (HM.Zto i j):=by
 intro r o h;unfold HM.Zto at h;split at h
 ·rename_i ds hds
  split at h
  ·rename_i d hd'
   cases h;refine PS.imp (ZnW hN hNi hx (Zxl ZB9 PySem.F.slot_list_pop PySem.F.type_list_pop ZxC (ZbQ hNj hv hd hcd) hbase hline) hs hf) λE σ H ⟨F0,H0,F,at_,k⟩=>?_;obtain⟨l,vs,e1,e2,e3,e4⟩:=at_.chgList (es:=ds.dropLast) hds;obtain⟨v,q1,q2⟩:=e3.get hd';refine⟨.ref l,e1,.inl ⟨rfl,_,SqL.of e2⟩,l,vs,v,rfl,rfl,e2,by rw[<-e3.1]; exact q1,k _ F _ ((e4 _ ?_).set q2)⟩;rw[ZEu,ZEu,<-e3.1];exact e3.take _
  ·cases h
 ·cases h
def spF(K:Zzx)(n:Nat)(M:List PyData->Option PyData):Sp:=λvs H Q _=>∃F ds ys,vs.length=n/\Zq F H/\Tb H/\NoT F/\Zs K F ds vs/\M ds=Z (.list ys)/\∀l us F' H',Ext F H F' H'->H' l=Z (.lst us)->Zs K F' ys us->F' l=Z_->H l=Z_->Q (.ref l) H'
structure Zd5(P:Program)(w:World)(K:Zzx)(mg:Str->Option Value)(base:Heap)(k:Nat)(x:Str)(M:List PyData->Option PyData):Prop where
 ex:∃f fd ps,(∀ds d,M ds=Z d->ds.length=ps.length)/\ZcY P w K mg base CX0 k f fd ps (spF K ps.length M)/\mg x=Z (.ref f)/\ZAP K (.ref f)=ZEN/\Binds K fd ps []
theorem Zd5.mono{P:Program}{w:World}{K:Zzx}{mg:Str->Option Value}{base:Heap}{j k:Nat}{x:Str}{M:List PyData->Option PyData}(C:Zd5 P w K mg base j x M)(h:j<=k):Zd5 P w K mg base k x M:=by obtain⟨f,fd,ps,l,F,r⟩:=C.ex;exact⟨f,fd,ps,l,F.mono h,r⟩
theorem Zs6{k:Nat}{g:HM.AF}{M:List PyData->Option PyData}(C:Zd5 X.prog X.w X.K X.mg X.base k x M)(hr:Z9 k X.A)(ha:XA X (e::es) g)(hg:Gl X x:=by rfl)(hdb:(x==("__debug__":Str))=ZEO:=by decide)
  (he:ZzC (e::es) X.env=(ZEO,eval e X.env)::ZzC es X.env:=by rfl) (hpl:(backTo pos (ZzC es X.env)).any (·.1)=ZEO:=by rfl):XF X (.Call (.Name x p) (e::es) [] pos) (HM.Zjf M g):=by
 intro r d hd;unfold HM.Zjf at hd;split at hd
 ·rename_i ds hds
  split at hd
  ·rename_i ys hM
   cases hd;obtain⟨fa,fd,ps,hl,F,hm,hk,hb⟩:=C.ex;refine PE.imp (Zjt (E:=E0) F hr hg hm hk hb .nil ZqU (ha.pa r ds hds) hdb he hpl) λσ H Q ⟨F0,H0,F1,at_,k⟩=>?_;refine⟨F0,H0,F1,at_,λvs F' H' x q=>?_⟩;show spF X.K ps.length M (vs++[]) H' Q E0;rw[ZAe];refine⟨F',ds,ys,by rw[<-q.1]; exact hl ds _ hM,x.sub,at_.tbx x,at_.ntx x,q,hM,λl us F2 H2 x2 h1 h2 h3 h4=>k _ F2 H2 (x.trans x2) ⟨[l],.ol h1 h2,by simp,λa ha=>?_⟩⟩;obtain rfl:a=l:=by simpa using ha
   exact⟨h3,x.hh.free h4⟩
  ·cases hd
 ·cases hd
theorem ZqM{P:Program}{w:World}{K:Zzx}{mg:Str->Option Value}{base:Heap}{k:Nat}{qual:Str}{st:Stmt}{f:Addr}{fd:FuncData}{N ps:List Str}{e:Expr}{g:HM.BF}(Fn:Fun K x qual st f fd)(S:Zt N ps (Zh st))(hm:mg x=Z (.ref f))(hb:Binds K fd ps [])
  (hst:ZaA st=[.Return (Z e) p1]) (hol:∀r b,g r=Z b->∃ys,b=.ol ys)
  (body:∀(cdv:Value) (A:Around) (outer:List Env) (s:Shared) (H:Hp) (E:XK),Z9 k (A.deeper (envOfC qual (Zh st) s.heap.objs.size f cdv))->XF (Zd0 CX0 P w K mg base N qual (Zh st) f cdv A outer s H E).nox e g) :
  Zd5 P w K mg base (k+1) x (HM.fnOf ps.length N.length (HM.ZB (HM.eOf g))):=by
 have hpl:ps.length<=N.length:=by have:=congrArg ZAg S.pre; rw[ZAN]at this; omega
 refine⟨f,fd,ps,λds d h=>?_,Fn.ok S (λvs H Q E h=>?_) (λcdv A outer s H vs Q E hr h=>?_),hm,Fn.kp,hb⟩
 ·unfold HM.fnOf at h
  split at h
  ·assumption
  ·cases h
 ·obtain⟨_,_,_,h,_⟩:=h
  exact h
 ·obtain⟨F,ds,ys,hl,sub,tb,nt,q,hM,kk⟩:=h
  unfold HM.fnOf at hM;split at hM
  ·rename_i hds
   have a0:=ZeI (N:=N) sub tb nt q (by omega);have hg:g (HM.Zdm N.length ds)=Z (.ol ys):=by
    split at hM
    ·rename_i r hr'
     cases hq:HM.eOf g (HM.Zdm N.length ds)with
     | none=>unfold HM.ZB at hr'; rw[hq]at hr'; cases hr'
     | some d=>unfold HM.ZB at hr'; rw[hq]at hr'; cases hr'
    ·rename_i d' hr'
     cases hM;obtain⟨d,h1,h2⟩:=Zzy.mp hr';cases h2;obtain⟨b,h3,h4⟩:=ZCO.mp h1;obtain⟨zs,rfl⟩:=hol _ _ h3;cases h4;exact h3
    ·cases hM
   rw[hst];refine⟨_,ZlY (ZiS (body cdv A outer s H E hr _ _ hg)),F,H,F,a0,λv F' H' x ⟨fp,r1,nd,hn⟩=>?_⟩;cases r1 with
   | @ol l _ us h1 h2=>exact kk l us F' H' x h1 h2 (hn l (by simp)).1 (hn l (by simp)).2
  ·cases hM
theorem Ztj(i:HM.IF)(c:HM.TF)(e:HM.EF)(r:HM.Env)(b:HM.B)(h:HM.ZF i c e r=Z b):∃ys,b=.ol ys:=by
 unfold HM.ZF at h;split at h
 ·split at h
  ·obtain⟨ys,_,h2⟩:=Zzy.mp h
   exact⟨ys,h2.symm⟩
  ·cases h
 ·cases h
end
end HP
namespace HP
open PySem PySem.Spec PyProof.Rows L2
variable{tg:Expr}{b':HM.B}{pos:Pos}{K:Zzx}{x:Str}
variable[FX]
section
variable{K:Zzx}{F H F0 H0 G:Hp}{a b:Addr}{ob u:HO}{vvs:List (List Key × V)}{d:PyData}{v:V}{ds:List PyData}{vs:List V}{r:HM.Env}{σ:L2.St}{i:Nat}{es:List (PyData × PyData)}
theorem Za8(h:b≠a):sw a ob G b=G b:=by unfold sw; rw[if_neg h]
theorem ZfS:sw a ob G a=(G a).map λ_=>ob:=by unfold sw; rw[if_pos rfl]
theorem Zqe(s:Zq F H):Zq (sw a ob F) (sw a ob H):=λb o z=>by
 by_cases hb:b=a
 ·subst hb
  rw[ZfS]at z ⊢;obtain⟨x,h1,h2⟩:=Zzy.mp z;rw[s _ _ h1,<-h2]; rfl
 ·rw[Za8 hb]at z ⊢; exact s b o z
theorem ZuF(hG:∀u,G a=Z u->u=.dT vvs):sw a (.dT vvs) (sw a ob G)=G:=by
 funext b
 by_cases hb:b=a
 ·subst hb
  rw[ZfS,ZfS];cases h:G b with
  | none=>rfl
  | some u=>rw[hG u h]; rfl
 ·rw[Za8 hb,Za8 hb]
theorem Dk.nt(h:Dk vvs u):(∀xs,u≠.tup xs)/\(∀xs,u≠.lst xs)/\(∀o xs,u≠.frz o (.lst xs))/\(∀ps,u≠.tbl ps)/\(∀x,u≠.own x):=by rcases h with h | ⟨o,h⟩<;>subst h<;>exact⟨λ_ z=>(by cases z),λ_ z=>(by cases z),λ_ _ z=>(by cases z),λ_ z=>(by cases z),λ_ z=>(by cases z)⟩
theorem Rep.sw(hF:∀u,F a=Z u->Dk vvs u)(hob:Dk vvs ob)(r:Rep K F d v):Rep K (HP.sw a ob F) d v:=by
 induction r with
 | non=>exact .non
 | bl b=>exact .bl b
 | int i=>exact .int i
 | str x=>exact .str x
 | fn h=>exact .fn (FX.sw hF hob h)
 | tupk h=>exact .tupk h
 | @tup b ds vs h hl _ ih=>exact .tup (by rw[Za8 (λz=>(hF _ (z▸h)).nt.1 _ rfl)]; exact h) hl ih
 | @lst b ds vs h hl _ ih =>
  refine .lst ?_ hl ih;rcases h with h | h
  ·refine .inl ?_
   have hb:b≠a:=λz=>by
    rcases h with h | ⟨o,h⟩
    ·exact(hF _ (z▸h)).nt.2.1 _ rfl
    ·exact(hF _ (z▸h)).nt.2.2.1 _ _ rfl
   unfold Rd;rw[Za8 hb];exact h
  ·exact .inr h
 | @dct b es kvs vvs' h he hk _ ih =>
  refine .dct ?_ he hk ih
  by_cases hb:b=a
  ·subst hb
   have:vvs'=vvs/\∃u,F b=Z u:=by
    rcases h with h | ⟨o,h⟩
    ·rcases hF _ h with z | ⟨o',z⟩
     ·cases z; exact⟨rfl,_,h⟩
     ·cases z
    ·rcases hF _ h with z | ⟨o',z⟩
     ·cases z
     ·cases z; exact⟨rfl,_,h⟩
   obtain⟨rfl,u,hu⟩:=this;unfold Rd;rw[ZfS,hu];rcases hob with z | ⟨o,z⟩
   ·subst z; exact .inl rfl
   ·subst z; exact .inr ⟨o,rfl⟩
  ·unfold Rd
   rw[Za8 hb];exact h
theorem Zs.sw(hF:∀u,F a=Z u->Dk vvs u)(hob:Dk vvs ob)(r:Zs K F ds vs):Zs K (HP.sw a ob F) ds vs:=⟨r.1,λi d v h1 h2=>(r.2 i d v h1 h2).sw hF hob⟩
theorem Ext.sw(x:Ext F0 H0 F H)(hH:∀u,H a=Z u->Dk vvs u)(hob:Dk vvs ob):Ext (HP.sw a ob F0) (HP.sw a ob H0) (HP.sw a ob F) (HP.sw a ob H) :=
 ⟨Zqe x.ff,x.hh.sw,Zqe x.sub,λb o z=>by
  by_cases hb:b=a
  ·subst hb
   rw[ZfS]at z;obtain⟨u,h1,h2⟩:=Zzy.mp z;rcases x.new b u h1 with q | q | ⟨xs,e,q⟩
   ·exact .inl (by rw[ZfS,q,<-h2]; rfl)
   ·exact .inr (.inl (by rw[ZfS,q]; rfl))
   ·exact absurd e ((hH _ (x.sub _ _ h1)).nt.1 xs)
  ·rw[Za8 hb]at z
   rcases x.new b o z with q | q
   ·exact .inl (by rw[Za8 hb]; exact q)
   ·refine .inr ?_
    unfold Fre;rw[Za8 hb];exact q,λt=>(x.tab (t.unsw hob)).sw hH,λt b o z=>by
  unfold HP.sw at z;split at z
  ·obtain⟨u,_,e⟩:=Zzy.mp z
   subst e; exact hob.ntt
  ·rename_i hb
   refine x.nts (λc u y=>?_) b o z
   by_cases hc:c=a
   ·subst hc; exact(hH _ (x.sub _ _ (x.ff _ _ y))).ntt
   ·exact t c u (by rw[Za8 hc]; exact y)⟩
theorem At.sw(e:At K F0 H0 F H r σ)(hFa:F a=Z u)(hu:Dk vvs u)(hob:Dk vvs ob)(nh:∀(i:Nat) (es:List (PyData × PyData)),r[i]?≠Z (Z (HM.B.hd es))):At K (HP.sw a ob F0) (HP.sw a ob H0) (HP.sw a ob F) (HP.sw a ob H) r σ:=by
 obtain⟨fp,e⟩:=e;have hF:∀u,F a=Z u->Dk vvs u:=λu' h=>by rw[hFa]at h; cases h; exact hu
 have hH:∀u,H a=Z u->Dk vvs u:=λu' h=>by rw[e.sub _ _ hFa]at h; cases h; exact hu
 have own:∀i,∀c∈fp i,c≠a:=λi c hc z=>by rw[<-z,(e.own i c hc).1]at hFa; cases hFa
 refine⟨fp,e.ext.sw hH hob,e.len,λi b h=>?_,e.emp,λi b h=>?_,e.nd,e.dis,e.tb.sw (vvs:=vvs) (λu' z=>by have q:=e.ext.hh.back z (e.sub _ _ hFa) hu.nt.2.2.2.1;rw[q]; exact hu),λb o z=>?_⟩
 rotate_left 2
 ·unfold HP.sw at z
  split at z
  ·obtain⟨u,_,e⟩:=Zzy.mp z
   subst e; exact hob.ntt
  ·exact e.nt b o z
 ·obtain⟨v,h1,h2⟩:=e.at_ i b h
  refine⟨v,h1,?_⟩;have own:=own i;generalize fp i=f at h2 own;cases h2 with
  | pl q=>exact .pl (q.sw hF hob)
  | ol k q=>exact .ol (by rw[Za8 (own _ (by simp))]; exact k) (q.sw hF hob)
  | ok k hk q=>exact .ok (by rw[Za8 (own _ (by simp))]; exact k) hk (q.sw hF hob)
  | ot k hk q=>exact .ot (by rw[Za8 (own _ (by simp))]; exact k) hk (q.sw hF hob)
  | otl k hk hv q=>refine .otl (by rw[Za8 (own _ (by simp))]; exact k) hk hv λi ds l h1 h2=>?_;obtain⟨vs,q1,q2⟩:=q i ds l h1 h2;exact⟨vs,by rw[Za8 (own l (ZzD _ (Zz5 h2)))]; exact q1,q2.sw hF hob⟩
  | hd _ _ _ _=>exact absurd h (nh _ _)
  | hf _=>exact absurd h (nh _ _)
 ·rw[Za8 (own i b h),Za8 (own i b h)]
  exact e.own i b h
theorem set_same{x:Option V}(h:σ[i]?=Z x):σ.set i x=σ:=by obtain⟨h1,h2⟩:=ZzL.mp h;rw[<-h2];exact ZCi h1
theorem At.say(e:At K F0 H0 F H r σ)(h1:σ[i]?=Z (Z v))(q:Zag K F H b' v []):At K F0 H0 F H (r.set i (Z b')) σ:=by
 have:=e.store (i:=i) q ZBc (λa h=>by simp at h) λ_ _ _ _ _ _ h=>by simp at h
 rwa [set_same h1]at this
theorem At.loosen(e:At K F0 H0 F H r σ)(h:r[i]?=Z (Z (.hd es))):At K F0 H0 F H (r.set i (Z (.pl (.dict es)))) σ:=by
 obtain⟨v,fp,h1,h2⟩:=e.any h;cases h2 with
 | hd k1 k2 k3 k4=>exact e.say h1 (.pl (.dct (.inr ⟨_,k1⟩) k2 k3 k4.2))
 | hf k1=>exact e.say h1 (.pl (.fn k1))
theorem Zuu(h:r.all (λq=>!HM.ZaS q)=ZEN)(i:Nat)(es:List (PyData × PyData)):r[i]?≠Z (Z (.hd es)):=λz=>by have:=ZzR.mp h _ (Zz5 z);cases this
theorem ZsH(h:(r.set i Z_).all (λq=>!HM.ZaS q)=ZEN)(hb:∀es,b'≠.hd es)(j:Nat)(es:List (PyData × PyData)):(r.set i (Z b'))[j]?≠Z (Z (.hd es)):=λz=>by
 by_cases hj:i=j
 ·subst hj
  by_cases hi:i<r.length
  ·rw[ZAr hi]at z
   injection z with z
   injection z with z
   exact hb _ z
  ·rw[ZEo (by rw[ZAL]; omega)]at z
   cases z
 ·rw[Zz9 hj]at z
  exact Zuu h j es (by rw[Zz9 hj]; exact z)
end
section
variable{X:Cx}{pins:List (Addr × Obj)}{σ:L2.St}{H:Hp}{s:Shared}{a:Addr}{u ob:HO}{vvs:List (List Key × V)}
theorem Zm0{h:Heap}{o:HO}{b:Addr}(ha:H a=Z u)(hu:Dk vvs u)(x:Z4 X.prog X.w H h b o):Z4 X.prog X.w (sw a ob H) h b o :=
 x.stay (λ_ _ _ q=>q) (λc q=>by rw[Za8 (λz=>by rw[z,ha]at q; cases q; exact hu.nt.2.2.2.2 _ rfl)]; exact q) λc xs q=>by rw[Za8 (λz=>by rw[z,ha]at q; cases q; exact hu.nt.1 _ rfl)]; exact q
theorem ZnY(I:Inv X pins σ H s)(ha:H a=Z u)(hu:Dk vvs u)(ok:Z4 X.prog X.w (sw a ob H) s.heap a ob)(hn:∀o w,X.H₀ a≠Z (.frz o w)):Inv X pins σ (HP.sw a ob H) s:=by
 have none':∀b,H b=Z_->HP.sw a ob H b=Z_:=λb h=>by rw[Za8 (λz=>by rw[z,ha]at h; cases h)]; exact h
 refine⟨I.ok,I.os,I.bare,⟨I.base.keep,I.base.slot,λb o h1 h2 h3=>none' b (I.base.free b o h1 h2 h3),I.base.there,λb xs h=>?_,λb o w h=>?_,λb ps h=>?_⟩,I.loc,I.cell,none' _ I.free,λx c h=>none' _ (I.freeC x c h),λp hp=>?_,λb o h=>?_,I.len⟩
 ·have q:=I.base.tups b xs h
  rw[Za8 (λz=>by rw[z,ha]at q; cases q; exact hu.nt.1 _ rfl)];exact q
 ·have q:=I.base.frzs b o w h
  rw[Za8 (λz=>hn o w (by rw[<-z]; exact h))];exact q
 ·obtain⟨m,q⟩:=I.base.tbls b ps h
  exact⟨m,by rw[Za8 (λz=>by rw[z,ha]at q; cases q; exact hu.nt.2.2.2.1 _ rfl)]; exact q⟩
 ·have q:=I.pin p hp
  exact⟨q.1,none' _ q.2.1,q.2.2⟩
 ·by_cases hb:b=a
  ·subst hb
   rw[ZfS,ha]at h;cases h;exact ok
  ·rw[Za8 hb]at h
   exact Zm0 ha hu (I.hok b o h)
theorem Zhj(i:Nat){st:Stmt}{g:HM.SF}(h:XS X st g):XS X st (HM.Zeu i g):=by
 intro r o ho;unfold HM.Zeu at ho;split at ho
 case h_2=>exact h r o ho
 rename_i es hr;split at ho
 case isFalse=>cases ho
 rename_i hall;have nh:=Zuu hall;intro pins s σ H E I ⟨F0,H0,F,at_,k⟩;obtain⟨v,h1,h2⟩:=at_.plain hr;cases h2 with
 | @dct a _ kvs vvs hd he hk hrr =>
  have rs:∀{F':Hp},Zq F F'->Zs X.K F' (kvs.map (·.2)) (vvs.map (·.2)):=λs=>by refine Zs.mono ⟨?_,hrr⟩ s;have:=congrArg ZAg hk;rw[Zzw,Zzw]at this ⊢;exact this
  rcases hd with hd | ⟨q,hd⟩
  ·have hHa:=at_.sub _ _ hd
   obtain⟨z,y,xs,rl,q,es1,ep,e1,c1⟩:=(show Z4 X.prog X.w H s.heap a (.dT vvs) from I.hok a _ hHa);have hn:∀o w,X.H₀ a≠Z (.frz o w):=λo w z=>by have:=I.base.frzs _ _ _ z;rw[hHa]at this; cases this
   have I1:=ZnY (ob:=.frz q (.dT vvs)) I hHa (.inl rfl) ⟨e1,Zm0 hHa (.inl rfl) ⟨z,y,xs,rl,q,es1,ep,e1,c1⟩⟩ hn;have at1:=at_.sw (ob:=.frz q (.dT vvs)) hd (.inl rfl) (.inr ⟨q,rfl⟩) nh;have Ra:HP.sw a (.frz q (.dT vvs)) F a=Z (.frz q (.dT vvs)):=by rw[ZfS,hd]; rfl
   have hFd:∀u,F a=Z u->Dk vvs u:=λu z=>by rw[hd]at z; cases z; exact .inl rfl
   have at2:=(at1.say (i:=i) h1 (.hd Ra he hk (Zs.sw hFd (.inr ⟨q,rfl⟩) (rs (Zq.refl F))))).rebase;have e0:HP.sw a (.dT vvs) (HP.sw a (.frz q (.dT vvs)) F0)=F0:=ZuF λu z=>by have:=at_.ext.ff _ _ z;rw[hd]at this; cases this; rfl
   have e1:HP.sw a (.dT vvs) (HP.sw a (.frz q (.dT vvs)) H0)=H0:=ZuF λu z=>by exact at_.ext.hh.back z hHa λ_ w=>by cases w
   split at ho
   ·rename_i r' hg
    split at ho
    case h_2=>cases ho
    rename_i es' hr';split at ho
    case isFalse=>cases ho
    rename_i hall';cases ho;refine thn (h _ _ hg pins s σ _ { nx:=λσ' H'=>∃F',At X.K (HP.sw a (.frz q (.dT vvs)) F) (HP.sw a (.frz q (.dT vvs)) H0) F' H' r' σ',rt:=λ_ _=>False,bk:=λ_ _=>False,ct:=λ_ _=>False } I1 ⟨_,_,_,at2,λσ' F' H' a'=>⟨F',a'⟩⟩) λfl s' z=>?_;cases fl with
    | next=>obtain⟨σ',H',I',F',a'⟩:=z;have Fa:=a'.ext.ff _ _ Ra;have Ha:=a'.sub _ _ Fa;have a3:=((At.unbase at1.ext (at1.nt0) a').loosen hr').sw (ob:=.dT vvs) Fa (.inr ⟨q,rfl⟩) (.inl rfl) (ZsH hall' λ_ z=>by cases z);rw[e0,e1]at a3;exact⟨σ',_,ZnY I' Ha (.inr ⟨q,rfl⟩) (Zm0 Ha (.inr ⟨q,rfl⟩) (Zll I'.hok (.inr ⟨q,Ha⟩))) hn,k σ' _ _ a3⟩
    | brk=>obtain⟨_,_,_,z⟩:=z; exact z.elim
    | cont=>obtain⟨_,_,_,z⟩:=z; exact z.elim
    | ret u=>obtain⟨_,_,_,_,_,z⟩:=z; exact z.elim
   ·rename_i d hg
    cases ho;refine thn (h _ _ hg pins s σ _ { nx:=λ_ _=>False,bk:=λ_ _=>False,ct:=λ_ _=>False,rt:=λv' H'=>∃F',Ext (HP.sw a (.frz q (.dT vvs)) F) (HP.sw a (.frz q (.dT vvs)) H0) F' H'/\Rep X.K F' d v' } I1 ⟨_,_,_,at2,λv' F' H' x q=>⟨F',x,q⟩⟩) λfl s' z=>?_;cases fl with
    | ret u=>obtain⟨v',σ',H',I',rv,F',x',r'⟩:=z;have Fa:=x'.ff _ _ Ra;have Ha:=x'.sub _ _ Fa;have x3:=(Ext.unbase at1.ext x').sw (a:=a) (vvs:=vvs) (ob:=.dT vvs) (λu z=>by rw[Ha]at z; cases z; exact .inr ⟨q,rfl⟩) (.inl rfl);rw[e0,e1]at x3;exact⟨v',σ',_,ZnY I' Ha (.inr ⟨q,rfl⟩) (Zm0 Ha (.inr ⟨q,rfl⟩) (Zll I'.hok (.inr ⟨q,Ha⟩))) hn,rv,k v' _ _ x3 (r'.sw (λu z=>by rw[Fa]at z; cases z; exact .inr ⟨q,rfl⟩) (.inl rfl))⟩
    | next=>obtain⟨_,_,_,z⟩:=z; exact z.elim
    | brk=>obtain⟨_,_,_,z⟩:=z; exact z.elim
    | cont=>obtain⟨_,_,_,z⟩:=z; exact z.elim
   ·cases ho
  ·have at2:=at_.say (i:=i) h1 (.hd hd he hk (rs (Zq.refl F)))
   split at ho
   ·rename_i r' hg
    split at ho
    case h_2=>cases ho
    rename_i es' hr';split at ho
    case isFalse=>cases ho
    cases ho;exact h _ _ hg pins s σ H E I ⟨F0,H0,F,at2,λσ' F' H' a'=>k σ' F' H' (a'.loosen hr')⟩
   ·rename_i d hg
    cases ho;exact h _ _ hg pins s σ H E I ⟨F0,H0,F,at2,k⟩
   ·cases ho
 | fn hv =>
  have at2:=at_.say (i:=i) h1 (.hf hv);split at ho
  ·rename_i r' hg
   split at ho
   case h_2=>cases ho
   rename_i es' hr';split at ho
   case isFalse=>cases ho
   cases ho;exact h _ _ hg pins s σ H E I ⟨F0,H0,F,at2,λσ' F' H' a'=>k σ' F' H' (a'.loosen hr')⟩
  ·rename_i d hg
   cases ho;exact h _ _ hg pins s σ H E I ⟨F0,H0,F,at2,k⟩
  ·cases ho
def Itd(a:Addr)(o:Obj):It :=
 ⟨λi H=>∃vvs q,H a=Z (.frz o (.dT vvs))/\vvs[i]?=Z q,λi H x H'=>H'=H/\∀vvs,H a=Z (.frz o (.dT vvs))->∃q b,vvs[i]?=Z q/\x=.ref b/\H b=Z (.tup (q.1.map kV)),λi H=>∃vvs,H a=Z (.frz o (.dT vvs))/\vvs.length<=i⟩
theorem Zra{α β:Type}{R:α->β->Prop}{l:List α}{m:List β}(r:Paired R l m):∀{i:Nat} {x:α},l[i]?=Z x->∃y,m[i]?=Z y/\R x y:=by
 induction r with
 | nil=>intro i x e; simp at e
 | @cons p q _ _ hq _ ih =>
  intro i x e;cases i with
  | zero=>rw[ZBC]at e; cases e; exact⟨q,rfl,hq⟩
  | succ i=>rw[ZAf]at e ⊢; exact ih e
theorem ZsY{P:Program}{w:World}(a it:Addr)(o:Obj)(es:Array DictEntry)(ep:Nat)(hd:o.data=.dict es ep):Turn P w K tg (Itd a o) [it] it (λi h=>h.IsKeyIter it a i es.size ep) where
 mem:=by simp
 obj:=λi h st b hb=>by
  have e:b=it:=by simpa using hb
  subst e;obtain⟨o,e,c,d⟩:=st;exact⟨o,e,λv z=>by rw[d]at z; cases z⟩
 keep:=λi h h' st k=>st.at λo e=>k it (by simp) o e
 item:=by
  intro X hP hw hK hc i pins s σ H E I hf st hg;subst hP hw hK;obtain⟨vvs,q,hH,hq⟩:=hg;obtain⟨h1,z,lo,xs,rel,o2,es2,ep2,h2,h3,h4,h5,h6⟩:=(show Z4 X.prog X.w H s.heap a (.frz o (.dT vvs)) from I.hok a _ hH);rw[h1]at h2;cases h2;rw[hd]at h4;cases h4;obtain⟨f0,f1,f2,f3,f4,f5⟩:=hf it (by simp);obtain⟨p,hp,hr1,hr2,_⟩:=Zra rel hq;have he:es[i]?=Z (entryOfKey (ZCA (Zaq X.prog X.w)) p):=by rw[<-ZAw,h5,Zz2,hp]; rfl
  refine ZnM st ⟨o,h1,h3,hd⟩ he λh' st' sb=>?_;have I1:Inv X pins σ H { s with heap:=h' }:=I.turned (t':=s.toks) (λb o hb e=>(sb.2 b hb).trans e) f0 f1 f3 f4 f5;obtain⟨oi,e,c,d⟩:=id st';refine⟨_,rfl,Zm5 (s:={ s with heap:=h' }) e c d (by decide) ⟨.ref p.2.1,H,I1,rfl,⟨rfl,λvv hv=>?_⟩,st',λb hb=>(hf b hb).1⟩⟩;rw[hH]at hv;cases hv;exact⟨q,p.2.1,hq,rfl,hr2⟩
 done:=by
  intro X hP hw hK hc i pins s σ H E I hf st hg;subst hP hw hK;obtain⟨vvs,hH,hq⟩:=hg;obtain⟨h1,z,lo,xs,rel,o2,es2,ep2,h2,h3,h4,h5,h6⟩:=(show Z4 X.prog X.w H s.heap a (.frz o (.dT vvs)) from I.hok a _ hH);rw[h1]at h2;cases h2;rw[hd]at h4;cases h4;obtain⟨f0,f1,f2,f3,f4,f5⟩:=hf it (by simp);have hl:vvs.length=xs.length:=ZCb rel;have hes:es.size=xs.length:=by rw[<-ZzY,h5,Zzw]
  exact Zqr (I.ok.hd hc) st ⟨o,h1,h3,hd⟩ (by omega) λh' eb=>⟨rfl,I.turned (t':=s.toks) (λb o hb e=>eb b o hb e) f0 f1 f3 f4 f5⟩
 self:=λ_ _ _ _ _ st h=>wpAny_pyIter_keyiter st h
theorem Zvo{l:Expr}{tl:TE}(hl:PE X l tl):PI X tg l (λσ H R=>tl σ H λx H1=>∃a o vvs,x=.ref a/\H1 a=Z (.frz o (.dT vvs))/\R (Itd a o) H1):=by
 intro pins s σ H R I h;refine thn (hl pins s σ H _ I h) λv s1 ⟨x,H1,I1,r1,a,o,vvs,e,hH,q⟩=>?_;subst e;cases r1;obtain⟨h1,z,lo,xs,rel,o2,es,ep,h2,h3,h4,h5,h6⟩:=(show Z4 X.prog X.w H1 s1.heap a (.frz o (.dT vvs)) from I1.hok a _ hH);rw[h1]at h2;cases h2;refine ZoN lo ⟨o,h1,h3,h4⟩ ⟨s1.heap.objs.size,[s1.heap.objs.size],_,_,H1,rfl,I1.kept (t':=s1.toks) λb o e=>ZzA _ e,ZsY a _ o es ep h4,⟨_,ZzP _ rfl,rfl,rfl⟩,λb hb=>?_,q⟩;obtain rfl:b=s1.heap.objs.size:=by simpa using hb
 exact I1.fpOk (ZzH _) (I1.hok.fresh (ZzH _))
theorem Ztk{F:Hp}{a:Addr}{o:Obj}{kvs:List (List Key × PyData)}{vvs:List (List Key × V)}(h:F a=Z (.frz o (.dT vvs)))(hk:kvs.map (·.1)=vvs.map (·.1)):ItD K (Itd a o) (kvs.map λp=>.tuple (p.1.map HM.ZaE)) F:=by
 intro F' H s1 s2;have hH:=s2 _ _ (s1 _ _ h);have hl:kvs.length=vvs.length:=by
  have:=congrArg ZAg hk
  rwa [Zzw,Zzw]at this
 refine⟨λi d hd=>?_,vvs,hH,by rw[Zzw,hl]; exact ZzH _⟩;rw[Zz2]at hd;obtain⟨q,hq,hd⟩:=Zzy.mp hd;subst hd;have hi:i<vvs.length:=by rw[<-hl]; exact(ZzL.mp hq).1
 have hw:vvs[i]?=Z vvs[i]:=ZzT hi;have hw1:vvs[i].1=q.1:=by
  have:(kvs.map (·.1))[i]?=(vvs.map (·.1))[i]?:=by rw[hk]
  rw[Zz2,Zz2,hq,hw]at this;exact(ZAl this).symm
 refine⟨⟨vvs,_,hH,hw⟩,λx H' hy=>?_⟩;obtain⟨e,y⟩:=hy;refine⟨e,?_⟩;obtain⟨q',b,e1,e2,e3⟩:=y vvs hH;rw[hw]at e1;cases e1;subst e2;rw[hw1]at e3;have rk:=ZgK (K:=K) (F:=ZbU F' H) q.1;exact .tup (ZkF e3) rk.1 rk.2
theorem Zhk(i:Nat)(hN:X.N[i]?=Z x:=by rfl)(hv:Vis X.env.scope x:=by first | exact ZAt rfl | exact Zz8 (ZAt rfl) | exact Zz8 (Zz8 rfl))(hd:(x==("__debug__":Str))=ZEO:=by decide)
  (hcd:(x==("__classdict__":Str))=ZEO:=by decide):XI X tg (.Name x pos) (HM.ZaH i):=by
 intro r ds h;have row:∀{d:PyData},r[i]?=Z (Z (.pl d))->HM.ZfD (.pl d)=Z ds->HM.Zad (HM.bOf (HM.Zc i)) r=Z ds:=λ{d} h1 h2=>by
  have e:HM.Zc i r=Z d:=by unfold HM.Zc; rw[h1]
  unfold HM.Zad HM.bOf;rw[e];exact h2
 unfold HM.ZaH at h;split at h
 ·rename_i q; exact Zaj (Zd i hN hv hd hcd) r ds (row q h)
 ·rename_i q; exact Zaj (Zd i hN hv hd hcd) r ds (row q h)
 ·rename_i es q
  obtain⟨kvs,h1,h2⟩:=Zzy.mp h;subst h2;refine PI.imp (Zvo (ZbQ hN hv hd hcd)) λσ H R ⟨F0,H0,F,at_,k⟩=>?_;obtain⟨v,fp,g1,g2⟩:=at_.any q;cases g2 with
  | @hd a o _ kvs' vvs k1 k2 k3 k4=>subst k2;rw[HM.dec_enc]at h1;cases h1;exact⟨.ref a,g1,a,o,vvs,rfl,at_.sub _ _ k1,k _ F H at_.refl (Ztk k1 k3)⟩
  | hf _=>cases h1
 ·cases h
theorem ZxI(i:Nat)(hN:X.N[i]?=Z x:=by rfl)(hv:Vis X.env.scope x:=by first | exact ZAt rfl | exact Zz8 (ZAt rfl) | exact Zz8 (Zz8 rfl))(hd:(x==("__debug__":Str))=ZEO:=by decide)
  (hcd:(x==("__classdict__":Str))=ZEO:=by decide):XE X (.Name x pos) (HM.eHd i):=by
 intro r d h;unfold HM.eHd at h;split at h
 ·rename_i q
  cases h;exact Zd i hN hv hd hcd r d (by unfold HM.Zc; rw[q])
 ·rename_i es q
  cases h;refine PE.imp (ZbQ hN hv hd hcd) λσ H Q ⟨F0,H0,F,at_,k⟩=>?_;obtain⟨v,fp,g1,g2⟩:=at_.any q;cases g2 with
  | hd k1 k2 k3 k4=>exact⟨_,g1,k _ F H at_.refl (.dct (.inr ⟨_,k1⟩) k2 k3 k4.2)⟩
  | hf k1=>exact⟨_,g1,k _ F H at_.refl (.fn k1)⟩
 ·cases h
end
end HP
namespace HP
open PySem PySem.Spec PyProof.Rows L2
variable[FX]
section
variable{X:Cx}{a b c e:Expr}{fa fb fc:HM.EF}{f:HM.BF}{pos p:Pos}
theorem Zhv{K:Zzx}{F:Hp}{ds:List PyData}{v:V}(r:Rep K F (.tuple ds) v):∃l vs,v=.ref l/\SqT K F l vs/\Zs K F ds vs:=by
 cases r with
 | tup h1 h2 h3=>exact⟨_,_,rfl,.of h1,h2,h3⟩
 | @tupk a x h1=>exact⟨_,_,rfl,.inr h1,.one (.str x)⟩
theorem ZfY{lo hi:Option Expr}{fl fh:Option HM.EF}{p2:Pos}(ha:XE X a fa)(hl:XO X lo fl)(hh:XO X hi fh):XE X (.Subscript a (.Slice lo hi Z_ p2) pos) (HM.Zb6 fa fl fh):=by
 intro r d h;unfold HM.Zb6 at h;split at h
 ·rename_i xs hx
  split at h
  ·rename_i l hl'
   split at h
   ·rename_i u hu'
    split at h
    ·cases h
    ·rename_i hno
     cases h;refine PE.imp (Zo5 Zwd (ha r _ hx) (hl r _ hl') (hh r _ hu')) λσ H Q ⟨F0,H0,F,at_,k⟩=>?_;refine⟨F0,H0,F,at_,λv F1 H1 x1 r1=>⟨F0,H0,F1,at_.grow x1,λF2 H2 x2=>⟨F0,H0,F2,(at_.grow x1).grow x2,λF3 H3 x3=>?_⟩⟩⟩;have x23:=x2.trans x3;obtain⟨l',vs,e1,hq,rs⟩:=Zhv (r1.mono x23.ff);refine⟨l',vs,e1,ZeO hq x3.sub,by rw[<-rs.1]; exact hno,λl2 hl2=>?_⟩;have rc:Zs X.K F3 (HM.cutD xs l u) (Zhf vs l u):=by unfold HM.cutD Zhf;rw[<-rs.1];exact(rs.drop _).take _
     exact k _ (upd F3 l2 (.tup (Zhf vs l u))) _ ((x1.trans x23).lay hl2) (.tup Zy rc.1 (rc.mono (Zq.upd' (x3.sub.free hl2))).2)
   ·cases h
  ·cases h
 ·cases h
theorem Znd{apos:Pos}(hu:X.A.units+1<cLine)(ha:XB X a f)(hk:XE X b fb)(m:M1 X a "get" apos b pos):XE X (.Call (.Attribute a "get" apos) [b] [] pos) (HM.ZiX f fb):=by
 intro r d h;unfold HM.ZiX at h;split at h
 ·rename_i q hq
  split at h
  ·rename_i kvs hd
   split at h
   ·rename_i x hx
    split at h
    ·rename_i y hy
     cases h;refine PE.imp (ZtY hu (ha r q hq) (hk r x hx) m) λσ H Q ⟨F0,H0,F,at_,kk⟩=>?_;refine⟨F0,H0,F,at_,λv F1 H1 x1 ⟨fp,r1⟩=>?_⟩;obtain⟨l,vvs,e1,e2,T⟩:=ZhP x1.sub r1 hd;refine⟨l,e1,.inr ⟨vvs,e2⟩,F0,H0,F1,at_.grow x1,λw F2 H2 x2 r2=>?_⟩;have e3:=rdT e2 x2.hh;have T':ZaM X.K F2 kvs vvs:=⟨T.1,T.2.mono x2.ff⟩;obtain⟨bb,rfl,hbb⟩:=Zdj hy r2;refine⟨_,ZmZ e3 (x2.sub _ _ hbb),kk _ F2 H2 (x1.trans x2) ?_⟩;obtain⟨t1,t2⟩:=T'.look (k:=y);cases hl:HM.Zj kvs y with
     | none=>rw[t2 hl]; exact .non
     | some dd=>obtain⟨u,q1,q2⟩:=t1 dd hl; rw[q1]; exact q2
    ·cases h
   ·cases h
  ·cases h
 ·cases h
end
end HP
namespace HP
open PySem PySem.Spec PyProof.Rows L2
variable[FX]
section
variable{X:Cx}{a b c e:Expr}{fa fb fc:HM.EF}{f:HM.BF}{pos p:Pos}{es:List Expr}
theorem Zs7{x y:Str}(hm:∃a,X.mg x=Z (.ref a)/\Zov X.K a [.str y])(hg:Gl X x:=by rfl)(hd:(x==("__debug__":Str))=ZEO:=by decide):XE X (.Name x pos) (HM.eC (.tuple [.str y])):=by obtain⟨a,hm,hk⟩:=hm;exact ZdM (Zju hg hm (v:=.ref a) rfl hd) λ_=>.tupk hk
theorem Zr3{K:Zzx}{F F2 H2:Hp}(s:Zq F2 H2):∀(n:Nat) {d:PyData} {v:V},HM.Ze6 n d=ZEN->Rep K F2 d v->Rep K (ZbU F H2) d v:=by
 intro n
 induction n with
 | zero =>
  intro d v h r;cases r with
  | non=>exact .non
  | bl b=>exact .bl b
  | int i=>exact .int i
  | str x=>exact .str x
  | tupk h1=>exact .tupk h1
  | tup _ _ _=>cases h
  | lst _ _ _=>cases h
  | dct _ _ _ _=>cases h
  | fn _=>cases h
 | succ n ih =>
  intro d v h r;cases r with
  | non=>exact .non
  | bl b=>exact .bl b
  | int i=>exact .int i
  | str x=>exact .str x
  | tupk h1=>exact .tupk h1
  | tup h1 h2 h3=>exact .tup (ZkF (s _ _ h1)) h2 λi d v e1 e2=>ih (ZzR.mp h d (Zz5 e1)) (h3 i d v e1 e2)
  | lst _ _ _=>cases h
  | dct _ _ _ _=>cases h
  | fn _=>cases h
def Zws(K:Zzx)(neg:Bool):R2:=λv w H Q=>∃F x y,Zq F H/\Rep K F x v/\Rep K F y w/\x.canLay0=ZEN/\HM.Za6 y=ZEN/\Q (.bl (if neg then !PyData.eqv x y else ZAV x y)) H
theorem Zye{k:Nat}(hr:Z9 k X.A):OpR X (ZAU .Eq) (Zws X.K ZEO):=by intro pins s σ H v w u u' Q I r1 r2 ⟨F,x,y,sub,q1,q2,a1,p2,q⟩;obtain⟨b1,b2⟩:=ZfT p2;obtain⟨as,h1⟩:=q1.reads I sub a1 u r1;obtain⟨bs,h2⟩:=q2.reads I sub b1 u' r2;refine ZEj X.prog X.w X.A X.xe s u u' x y as bs _ h1 h2 a1 b1 ?_ ⟨.bl _,H,I,rfl,q⟩;have:=hr.un;have:min x.depth y.depth<=60:=ZAn (ZDT _ _) b2;omega
theorem ZxV{k:Nat}(hr:Z9 k X.A):OpR X (ZAU .NotEq) (Zws X.K ZEN):=by intro pins s σ H v w u u' Q I r1 r2 ⟨F,x,y,sub,q1,q2,a1,p2,q⟩;obtain⟨b1,b2⟩:=ZfT p2;obtain⟨as,h1⟩:=q1.reads I sub a1 u r1;obtain⟨bs,h2⟩:=q2.reads I sub b1 u' r2;refine PySem.SeqAt.neOverData X.prog X.w X.A X.xe s u u' x y as bs _ h1 h2 a1 b1 ?_ ⟨.bl _,H,I,rfl,q⟩;have:=hr.un;have:min x.depth y.depth<=60:=ZAn (ZDT _ _) b2;omega
theorem ZyY{k:Nat}(hr:Z9 k X.A):Zfy X .Eq HM.Zg9:=by
 refine⟨⟨_,Zye hr,λF H x y z v w Q s e r1 r2 k=>?_⟩,by decide,by decide⟩;unfold HM.Zg9 at e;split at e
 ·rename_i hp
  cases e;rw[ZzW]at hp;exact⟨F,x,y,s,r1,r2,hp.1,hp.2,k _ (.bl _)⟩
 ·cases e
theorem Zy0{k:Nat}(hr:Z9 k X.A):Zfy X .NotEq HM.ZhW:=by
 refine⟨⟨_,ZxV hr,λF H x y z v w Q s e r1 r2 k=>?_⟩,by decide,by decide⟩;unfold HM.ZhW at e;split at e
 ·rename_i hp
  cases e;rw[ZzW]at hp;exact⟨F,x,y,s,r1,r2,hp.1,hp.2,k _ (.bl _)⟩
 ·cases e
end
end HP
namespace HP
open PySem
variable{S:Addr}
abbrev mdA(I S:Addr)(dv:Value):Args:=⟨[.ref I,.none,.ref S],[(Zz1 "default",dv)]⟩
theorem ZjI:(toString "min" ++ toString ".loop":String) = "min.loop":=by decide
theorem Zvy(a dv:Value):argsOk "min" ⟨[a],[(Zz1 "default",dv)]⟩:=by unfold argsOk; kernel_rfl
section
variable{prog:Program}{w:World}{A:Around}{R:Result->Shared->Prop}{I:Addr}{fp wr:List Addr}{n:Nat}{P:Nat->Value->Prop}{St:Nat->Heap->Prop}
theorem ZuW(W:Walks prog w A.in1 I fp wr n P St)(bt:Nat->Nat->Bool)(hc:CmpOf prog w A.in1 .Lt P bt)(hf:S ∉ fp)(dv:Value):∀(k j:Nat) (s:Shared) (b:Value) (ep:Nat),n=j+1+k->St (j+1) s.heap->P (argBest bt j) b ->
  s.heap.get? S=Z { cls:=.type "list",dict:=Z_,data:=.seq #[b,b] ep,slots:=#[] } ->
  (∀v h' tk,P (argBest bt (n-1)) v->(∀x o,x ∉ wr->x≠S->s.heap.get? x=Z o->h'.get? x=Z o)->R (.ok (.ret v)) { s with heap:=h',toks:=tk }) ->
  codeAny (model prog w) A (.builtin "min.loop" (mdA I S dv)) R s:=by
 have hw:S ∉ wr:=λh=>hf (W.sub _ h);intro k
 induction k with
 | zero =>
  intro j s b ep hn st pb gS out;have hn:n=j+1:=by omega
  subst hn;refine ZAT ZCY ?_;rw[ZAH ZAZ _];show wpAny _ A.in1 (seqItems? (.ref S) >>= _) _ _ s;refine Zzv (ZCL gS rfl ?_);show wpAny _ A.in1 (tryCatch (pyNext (.ref I)) _ >>= _) _ _ s;refine Zzv (ZCM (W.done s _ _ st λh1 tk keep=>?_));have gS1:=keep S _ hw gS;show wpAny _ A.in1 (updateSeq S (λ_=>#[]) >>= _) _ _ _;exact Zzv (ZEe gS1 rfl (Zzv (ZEl (Zzz (out b _ tk pb λx o hx hS e=>(ZAY _ _ (ZAG hS)).trans (keep x o hx e))))))
 | succ k ih =>
  intro j s b ep hn st pb gS out;refine ZAT ZCY ?_;rw[ZAH ZAZ _];show wpAny _ A.in1 (seqItems? (.ref S) >>= _) _ _ s;refine Zzv (ZCL gS rfl ?_);show wpAny _ A.in1 (tryCatch (pyNext (.ref I)) _ >>= _) _ _ s;refine Zzv (ZCM (W.item (j+1) s _ _ (by omega) st λv h1 tk pv st1 keep=>?_));have gS1:=keep S _ hw gS;show wpAny _ A.in1 (tryCatch (holding [v,v] (richCompare .Lt v b >>= _)) _ >>= _) _ _ _;refine Zzv (ZCM (ZAI (Zzv (hc (j+1) (argBest bt j) v b _ _ _ pv pb (Zzv (ZAI (ZBw (Zzv (ZEl (Zzz ?_))))))))));have best:argBest bt (j+1)=if bt (j+1) (argBest bt j)then j+1 else argBest bt j:=rfl
  cases hb:bt (j+1) (argBest bt j)with
  | true =>
   rw[hb,if_pos rfl]at best;simp only[if_true];refine Zzv (ZEe gS1 rfl (Zzv (ZEl ?_)));rw[ZjI];refine Zzz ⟨ZBP ZAZ _,ih (j+1) _ v _ (by omega) (W.frame _ _ _ st1 λx hx o e=>?_) (by rw[best]; exact pv) (ZAE _ gS1 rfl) λv' h2 tk2 p' keep2=>?_⟩
   ·exact(ZAY _ _ (λz:S=x=>hf (by rw[z]; exact hx))).trans e
   ·exact out v' h2 tk2 p' λx o hx hS e=>keep2 x o hx hS ((ZAY _ _ (ZAG hS)).trans (keep x o hx e))
  | false=>rw[hb,if_neg (by simp)]at best;simp only[ZA7,if_false];refine Zzv (ZEl ?_);rw[ZjI];exact Zzz ⟨ZBP ZAZ _,ih (j+1) _ b ep (by omega) st1 (by rw[best]; exact pb) gS1 λv' h2 tk2 p' keep2=>out v' h2 tk2 p' λx o hx hS e=>keep2 x o hx hS (keep x o hx e)⟩
theorem ZtN(W:Walks prog w A.in1 I fp wr n P St)(bt:Nat->Nat->Bool)(hc:CmpOf prog w A.in1 .Lt P bt)(hf:S ∉ fp)(dv:Value){s:Shared}{ep:Nat}(st:St 0 s.heap)
  (gS:s.heap.get? S=Z { cls:=.type "list",dict:=Z_,data:=.seq #[] ep,slots:=#[] })
  (o0:n=0->∀h' tk,(∀x o,x ∉ wr->x≠S->s.heap.get? x=Z o->h'.get? x=Z o)->R (.ok (.ret dv)) { s with heap:=h',toks:=tk })
  (o1:0<n->∀v h' tk,P (argBest bt (n-1)) v->(∀x o,x ∉ wr->x≠S->s.heap.get? x=Z o->h'.get? x=Z o)->R (.ok (.ret v)) { s with heap:=h',toks:=tk }) :
  codeAny (model prog w) A (.builtin "min.loop" (mdA I S dv)) R s:=by
 have hw:S ∉ wr:=λh=>hf (W.sub _ h);refine ZAT ZCY ?_;rw[ZAH ZAZ _];show wpAny _ A.in1 (seqItems? (.ref S) >>= _) _ _ s;refine Zzv (ZCL gS rfl ?_);show wpAny _ A.in1 (tryCatch (pyNext (.ref I)) _ >>= _) _ _ s
 by_cases h0:n=0
 ·subst h0
  refine Zzv (ZCM (W.done s _ _ st λh1 tk keep=>?_));show wpAny _ A.in1 (rule _ >>= _) _ _ _;exact Zzv (ZCp (Zzz (o0 rfl h1 tk λx o hx _ e=>keep x o hx e)))
 ·refine Zzv (ZCM (W.item 0 s _ _ (by omega) st λv h1 tk pv st1 keep=>?_))
  have gS1:=keep S _ hw gS;show wpAny _ A.in1 (updateSeq S (λ_=>#[v,v]) >>= _) _ _ _;refine Zzv (ZEe gS1 rfl ?_);rw[ZjI];refine Zzz ⟨ZBP ZAZ _,ZuW W bt hc hf dv (n-1) 0 _ v _ (by omega) (W.frame _ _ _ st1 λx hx o e=>?_) pv (ZAE _ gS1 rfl) λv' h2 tk2 p' keep2=>?_⟩
  ·exact(ZAY _ _ (λz:S=x=>hf (by rw[z]; exact hx))).trans e
  ·exact o1 (by omega) v' h2 tk2 p' λx o hx hS e=>keep2 x o hx hS ((ZAY _ _ (ZAG hS)).trans (keep x o hx e))
end
end HP
namespace HP
open PySem PySem.Spec PyProof.Rows L2
variable{cs:List PyData}{K:Zzx}{st:Stmt}{x:Str}
variable[FX]
theorem Rep.fn_inv{F:Hp}{t:Nat}{v:V}(h:Rep K F (HM.fnD t cs) v):∃a,v=.ref a/\FX.fv t cs F a:=by
 cases h with
 | @dct a es kvs vvs h he hk hr =>
  cases kvs with
  | nil=>cases he
  | cons p r =>
   injection he with h1 _
   injection h1 with h2 _
   cases h2
 | fn h=>exact⟨_,rfl,h⟩
theorem Zo6{d:PyData}{t:Nat}(h:HM.Zh5 d=Z (t,cs)):d=HM.fnD t cs:=by
 unfold HM.Zh5 at h;split at h
 ·cases h; rfl
 ·cases h
structure GFn(mg:Str->Option Value)(x:Str)(t:Nat):Prop where
 ex:∃f,mg x=Z (.ref f)/\∀F,FX.fv t [] F f
section
variable{X:Cx}{pos p:Pos}{e a b:Expr}{es:List Expr}{f:HM.AF}
theorem ZkO{t:Nat}(h:GFn X.mg x t)(hg:Gl X x:=by rfl)(hd:(x==("__debug__":Str))=ZEO:=by decide):XE X (.Name x pos) (HM.eC (HM.fnD t [])):=by obtain⟨f,hm,hv⟩:=h.ex;exact ZdM (Zju hg hm (v:=.ref f) rfl hd) λF=>.fn (hv F)
structure Zcy(P:Program)(w:World)(K:Zzx)(mg:Str->Option Value)(base:Heap)(k:Nat)(ap:HM.AP):Prop where
 fn:∀{t:Nat} {cs:List PyData} {F:Hp} {a:Addr},FX.fv t cs F a->∀{A:Around} {outer:List Env} {s:Shared} {H:Hp},ZeJ P w K mg base A outer s H->Zq F H->ZEI a s.heap
 run:∀{t:Nat} {cs:List PyData} {F:Hp} {a:Addr},FX.fv t cs F a->∀{A:Around} {outer:List Env} {s:Shared} {H:Hp},ZeJ P w K mg base A outer s H->Zq F H ->
  ∀{us:List Value} {vs:List V} {ds:List PyData} {d:PyData} {Q:VK},Z9 k A->Tb H->NoT F->Vals vs us->Zs K F ds vs->ap t cs ds=Z d->(∀v F' H',Ext F H F' H'->Rep K F' d v->Q v H') ->
   codeAny (model P w) A (.call (.ref a) ⟨us,[]⟩) (CR CX0 outer P w H s Q E0) s
theorem Zcy.mono{P:Program}{w:World}{K:Zzx}{mg:Str->Option Value}{base:Heap}{j k:Nat}{ap:HM.AP}(C:Zcy P w K mg base j ap)(h:j<=k):Zcy P w K mg base k ap :=
 ⟨C.fn,by intro t cs F a q A outer s H e z us vs ds d Q hr; exact C.run q e z (hr.mono h)⟩
theorem Zkb{k:Nat}{ap:HM.AP}(C:Zcy X.prog X.w X.K X.mg X.base k ap)(hr:Z9 k X.A)(i:Nat)(ha:XA X (e::es) f)(hN:X.N[i]?=Z x:=by rfl)
  (hv:Vis X.env.scope x:=by first | exact ZAt rfl | exact Zz8 (ZAt rfl) | exact Zz8 (Zz8 rfl)) (hd:(x==("__debug__":Str))=ZEO:=by decide) (hcd:(x==("__classdict__":Str))=ZEO:=by decide)
  (he:ZzC (e::es) X.env=(ZEO,eval e X.env)::ZzC es X.env:=by rfl) (hpl:(backTo pos (ZzC es X.env)).any (·.1)=ZEO:=by rfl):XE X (.Call (.Name x p) (e::es) [] pos) (HM.ZcQ ap i f):=by
 intro r d h;unfold HM.ZcQ at h;split at h
 case h_2=>cases h
 rename_i d0 hs;split at h
 case h_2=>cases h
 rename_i t cs hu;split at h
 case h_2=>cases h
 rename_i ds hds;obtain rfl:=Zo6 hu;intro pins s σ H Q I ⟨F0,H0,F1,at_,kk⟩;obtain⟨v,h1,h2⟩:=at_.plain hs;obtain⟨q,rfl,fv⟩:=h2.fn_inv;refine ZBm (thn (ZbQ hN hv hd hcd pins s σ H (λv' H'=>v'=.ref q/\H'=H) I ⟨_,h1,rfl,rfl⟩) λu s1 ⟨v',H1,I1,r1,e1,e2⟩=>?_);subst e1 e2;obtain rfl:u=ZAh q:=r1;refine ZEJ (C.fn fv I1.env0 at_.sub) (thn (ha.pa r ds hds pos pins s1 σ H1 (λvs H2=>∃F2,Ext F1 H1 F2 H2/\Zs X.K F2 ds vs) I1 ⟨F0,H0,F1,at_,λvs F2 H2 x2 q2=>⟨F2,x2,q2⟩⟩) λus s2 ⟨vs,H2,I2,r2,F2,x2,q2⟩=>?_) he hpl;have fv2:=FX.mono fv x2.ff;refine⟨C.fn fv2 I2.env0 x2.sub,ZDH (ZBp (C.run fv2 I2.env0 x2.sub hr (at_.tbx x2) (at_.ntx x2) r2 q2 h λv F' H' x3 q3=>kk v F' H' (x2.trans x3) q3) λrs s' hq=>?_)⟩;cases rs with
 | error e=>exact ZAp hq
 | ok fl =>
  cases fl with
  | ret u=>exact I2.after hq
  | next=>exact ZAp hq
  | brk=>exact ZAp hq
  | cont=>exact ZAp hq
def spN(K:Zzx)(n:Nat)(M:List PyData->Option (List (List Key × PyData))):Sp:=λvs H Q _=>∃F ds kvs,vs.length=n/\Zq F H/\Tb H/\NoT F/\Zs K F ds vs/\M ds=Z kvs /\
 ∀l vvs F' H',Ext F H F' H'->H' l=Z (.dT vvs)->kvs.map (·.1)=vvs.map (·.1)->Zs K F' (kvs.map (·.2)) (vvs.map (·.2))->F' l=Z_->H l=Z_->Q (.ref l) H'
structure Zd8(P:Program)(w:World)(K:Zzx)(mg:Str->Option Value)(base:Heap)(k:Nat)(x:Str)(M:List PyData->Option (List (List Key × PyData))):Prop where
 ex:∃f fd ps,(∀ds d,M ds=Z d->ds.length=ps.length)/\ZcY P w K mg base CX0 k f fd ps (spN K ps.length M)/\mg x=Z (.ref f)/\ZAP K (.ref f)=ZEN/\Binds K fd ps []
theorem Zd8.mono{P:Program}{w:World}{K:Zzx}{mg:Str->Option Value}{base:Heap}{j k:Nat}{x:Str}{M:List PyData->Option (List (List Key × PyData))}(C:Zd8 P w K mg base j x M)(h:j<=k):Zd8 P w K mg base k x M:=by obtain⟨f,fd,ps,l,F,r⟩:=C.ex;exact⟨f,fd,ps,l,F.mono h,r⟩
theorem Zs.flat{K:Zzx}{F F':Hp}{ds:List PyData}{vs:List V}(r:Zs K F ds vs)(h:∀d∈ds,HM.Zlp d=ZEN):Zs K F' ds vs :=
 ⟨r.1,λi d v h1 h2=>(r.2 i d v h1 h2).flat (h d (Zz5 h1))⟩
theorem Zs8{k:Nat}{g:HM.AF}{M:List PyData->Option (List (List Key × PyData))}(C:Zd8 X.prog X.w X.K X.mg X.base k x M)(hr:Z9 k X.A)(ha:XAL X (e::es) g)(hg:Gl X x:=by rfl)(hdb:(x==("__debug__":Str))=ZEO:=by decide)
  (he:ZzC (e::es) X.env=(ZEO,eval e X.env)::ZzC es X.env:=by rfl) (hpl:(backTo pos (ZzC es X.env)).any (·.1)=ZEO:=by rfl):XF X (.Call (.Name x p) (e::es) [] pos) (HM.Zjj M g):=by
 intro r d hd;unfold HM.Zjj at hd;split at hd
 case h_2=>cases hd
 rename_i ds hds;split at hd
 case h_2=>cases hd
 rename_i kvs hM;split at hd
 case isFalse=>cases hd
 rename_i hfl;cases hd;obtain⟨fa,fd,ps,hl,F,hm,hk,hb⟩:=C.ex;refine PE.imp (Zjt (E:=E0) F hr hg hm hk hb .nil ZqU (ha.pa r ds hds) hdb he hpl) λσ H Q ⟨F0,H0,F1,at_,kk⟩=>?_;refine⟨F0,H0,F1,at_,λvs F' H' x q=>?_⟩;show spN X.K ps.length M (vs++[]) H' Q E0;rw[ZAe];refine⟨Zcf H',ds,kvs,by rw[<-q.1]; exact hl ds _ hM,Zfj,at_.tbx x,.drop,q.drop',hM,λl vvs F2 H2 x2 h1 h2 h3 h4 h5=>?_⟩;refine kk _ F' H2 (x.trans (Ext.forget x.sub (at_.ntx x) x2)) ⟨[l],.ot h1 h2 (h3.flat λd hd=>?_),by simp,λc hc=>?_⟩
 ·obtain⟨q,h6,rfl⟩:=ZzI.mp hd
  exact ZzR.mp hfl q h6
 ·obtain rfl:c=l:=by simpa using hc
  exact⟨x.sub.free h5,x.hh.free h5⟩
def tSn(K:Zzx)(r:HM.Env)(kvs:List (List Key × PyData)):TS:=λE σ H=>Now K r σ H λF0 H0 F=>∀l vvs F' H',Ext F0 H0 F' H'->H' l=Z (.dT vvs)->kvs.map (·.1)=vvs.map (·.1)->Zs K F' (kvs.map (·.2)) (vvs.map (·.2))->F' l=Z_->H0 l=Z_->E.rt (.ref l) H'
def XSn(X:Cx)(sts:List Stmt)(m:HM.NF):Prop:=∀r kvs,m r=Z kvs->PSs X sts (tSn X.K r kvs)
theorem ZoI{rest:List Stmt}{g:HM.SF}{m:HM.NF}(h1:XS X st g)(h2:XSn X rest m):XSn X (st::rest) (HM.Zkn g m):=by
 intro r kvs h;unfold HM.Zkn at h;split at h
 ·rename_i r' q
  refine PSs.imp (ZdS (h1 r _ q) (h2 r' kvs h)) λE σ H ⟨F0,H0,F,at_,k⟩=>?_;exact⟨F0,H0,F,at_,λσ' F' H' at'=>⟨F0,H0,F',at',k⟩⟩
 ·cases h
theorem ZvR(j:Nat){p1:Pos}(hN:X.N[j]?=Z x:=by rfl)(hv:Vis X.env.scope x:=by first | exact ZAt rfl | exact Zz8 (ZAt rfl) | exact Zz8 (Zz8 rfl))(hd:(x==("__debug__":Str))=ZEO:=by decide)
  (hcd:(x==("__classdict__":Str))=ZEO:=by decide):XSn X [.Return (Z (.Name x p)) p1] (HM.Zos j):=by
 intro r kvs h;unfold HM.Zos at h;split at h
 ·rename_i kvs' hs
  cases h;refine PSs.imp (ZdS (ZiS (ZbQ hN hv hd hcd)) ZcF) λE σ H ⟨F0,H0,F,⟨fp,at_⟩,k⟩=>?_;obtain⟨v,h1,h2⟩:=at_.at_ j _ hs;generalize hfp:fp j=fj at h2;cases h2 with
  | @ot l _ vvs hl hk q=>have ho:=at_.own j l (by rw[hfp]; simp);exact⟨_,h1,k l vvs F H at_.ext hl hk q ho.1 ho.2⟩
 ·cases h
theorem ZqV{P:Program}{w:World}{mg:Str->Option Value}{base:Heap}{k:Nat}{qual:Str}{f:Addr}{fd:FuncData}{N ps:List Str}{m:HM.NF}(Fn:Fun K x qual st f fd)(S:Zt N ps (Zh st))(hm:mg x=Z (.ref f))(hb:Binds K fd ps [])
  (body:∀(cdv:Value) (A:Around) (outer:List Env) (s:Shared) (H:Hp) (E:XK),Z9 k (A.deeper (envOfC qual (Zh st) s.heap.objs.size f cdv))->XSn (Zd0 CX0 P w K mg base N qual (Zh st) f cdv A outer s H E).nox (ZaA st) m) :
  Zd8 P w K mg base (k+1) x (HM.newOf ps.length N.length m):=by
 have hpl:ps.length<=N.length:=by have:=congrArg ZAg S.pre; rw[ZAN]at this; omega
 refine⟨f,fd,ps,λds d h=>?_,Fn.ok S (λvs H Q E h=>?_) (λcdv A outer s H vs Q E hr h=>?_),hm,Fn.kp,hb⟩
 ·unfold HM.newOf at h
  split at h
  ·assumption
  ·cases h
 ·obtain⟨_,_,_,h,_⟩:=h
  exact h
 ·obtain⟨F,ds,kvs,hl,sub,tb,nt,q,hM,kk⟩:=h
  unfold HM.newOf at hM;split at hM
  ·rename_i hds
   exact⟨_,body cdv A outer s H E hr _ _ hM,F,H,F,ZeI (N:=N) sub tb nt q (by omega),λl vvs F' H' x h1 h2 h3 h4 h5=>kk l vvs F' H' x h1 h2 h3 h4 h5⟩
  ·cases hM
theorem Zsq(hc:X.calm=ZEN){pins:List (Addr × Obj)}{s:Shared}{σ:L2.St}{H:Hp}{l:Addr}{ns:List Int}{Q:VK}(I:Inv X pins σ H s)(hq:SqL X.K H l (ns.map V.int))(q:Q (match ns.min? with | some i=>.int i | none=>.non) H) :
  wpAny (model X.prog X.w) X.A (call (.builtin "min") [.ref l] [(Zz1 "default",.none)]) (EP X pins σ Q) X.xe s:=by
 obtain⟨its,rv,pl,hz⟩:=I.list hq;have hi:=Zd9 rv;obtain⟨xs,e⟩:=hi.allInts.items;have hns:ns=xs.toList.map (·.1):=by rw[<-hi.numsOf,<-nums_intItems,<-e]
 have hl:=pl.isList;rw[e]at hl;refine PyProof.Rows.kmk_tree PySem.F.kind_min PySem.F.plain_min PySem.F.entry_min (Zvy _ _) ?_;refine Zzv (ZDo (show Builtin.Builtins.bindParams "min" ["key","default"] 0 ⟨[],[(Zz1 "default",.none)]⟩=pure [Z_,Z .none] from rfl) ?_);refine Zzv (Zzz ?_);refine Zzv (iter_intList hl λs2 e2 st hfp hlI=>?_);subst e2;refine Zzv (ZAa ?_);rw[ZjI];generalize hIT:s.heap.push { cls:=.type "list_iterator",data:=.fields #[.ref l,.int 0 0] }=h1 at st hfp;have z1:h1.objs.size=s.heap.objs.size+1:=by rw[<-hIT]; exact ZBE ..
 have k1:∀b o,s.heap.get? b=Z o->h1.get? b=Z o:=λb o e=>by rw[<-hIT]; exact ZzA _ e
 have W:=Walks.list (prog:=X.prog) (w:=X.w) (A:=X.A.in1) (I.ok.hd hc) s.heap.objs.size l hlI (intItems xs);have hSf:h1.objs.size ∉ [s.heap.objs.size,l]:=λz=>ZBb _ (hfp _ z);have old:∀{h':Heap} {oS:Obj},(∀x o,x ∉ [s.heap.objs.size]->x≠h1.objs.size->(h1.push oS).get? x=Z o->h'.get? x=Z o)->∀b o,s.heap.get? b=Z o->h'.get? b=Z o:=λhk b o e=>by have hb:=ZzO e;exact hk b o (λz=>by rw[ZzF.mp z]at hb; exact ZBb _ hb) (ZzU (by rw[z1]; exact ZCg hb)) (ZzA _ (k1 b o e))
 refine Zzz ⟨ZBP ZAZ _,ZtN W (λi j=>decide (numAt xs i<numAt xs j)) (CmpOf.ints_lt (numAt xs) λ_ _=>intItems_at) hSf .none (W.frame _ _ _ st λb _ o e=>ZzA _ e) (ZzP _ rfl) (λh0 h' tk hk=>?_) λh0 v h' tk hP hk=>?_⟩
 ·have e0:ns=[]:=by
   rw[hns];have:xs.size=0:=by simpa [intItems]using h0
   rw[Array.eq_empty_of_size_eq_zero this]; rfl
  subst e0;exact⟨.non,H,I.kept (t':=tk) (old hk),rfl,q⟩
 ·have h0':0<xs.size:=by simpa [intItems]using h0
  have hP':(intItems xs)[argBest (λi j=>decide (numAt xs i<numAt xs j)) (xs.size-1)]?=Z v:=by simpa [intItems]using hP
  obtain⟨t,rfl⟩:=intItems_at hP';obtain⟨g1,g2⟩:=argBest_lt (numAt xs) (xs.size-1);have hm:ns.min?=Z (numAt xs (argBest (λi j=>decide (numAt xs i<numAt xs j)) (xs.size-1))):=by
   refine ZC6.mpr ⟨?_,λa ha=>?_⟩
   ·rw[hns,numAt_eq]; exact getD_mem (by rw[Zzw,ZzY]; omega)
   ·rw[hns]at ha
    obtain⟨j,hj,rfl⟩:=mem_getD ha;rw[Zzw,ZzY]at hj;rw[<-numAt_eq]; exact g2 j (by omega)
  rw[hm]at q;exact⟨.int _,H,I.kept (t':=tk) (old hk),⟨t,rfl⟩,q⟩
theorem ZpS{f:HM.BF}{kp p2:Pos}{j:Nat}(hm:X.mg "min" = Z_)(hc:X.calm=ZEN)(ha:XB X a f)(hg:Gl X "min":=by rfl)(hs:ZzC [a] X.env=[(ZEO,eval a X.env)]:=by rfl)
  (he:backTo pos (ZzC [a] X.env)=(ZEO,eval a X.env)::backTo pos (ZzC [] X.env):=by rfl) (hpl:(backTo pos (ZzC [a] X.env)).any (·.1)=ZEO:=by rfl) :
  XE X (.Call (.Name "min" p) [a] [⟨Z "default",.Constant .none j p2,kp⟩] pos) (HM.ZfV f):=by
 intro r d h;unfold HM.ZfV at h;split at h
 case h_2=>cases h
 rename_i x hx;split at h
 case h_2=>cases h
 rename_i ds hds;split at h
 case h_2=>cases h
 rename_i ns hns;cases h;intro pins s σ H Q I ⟨F0,H0,F,at_,k⟩;refine ZBm (Zht I hg hm Zsu ?_);refine callWith_kw (thn (Zfp ha hx hs pos pins s σ H (λvs H1=>∃v fp F1,vs=[v]/\Ext F H F1 H1/\Zag X.K F1 H1 x v fp) I ⟨F0,H0,F,at_,λv fp F' H' x1 r1=>⟨v,fp,F',rfl,x1,r1⟩⟩) λus s1 ⟨vs,H1,I1,rv,v,fp,F1,e1,x1,r1⟩=>?_) he hpl;subst e1;obtain⟨u,rfl,ru⟩:=vals1 rv;obtain⟨l,ws,rfl,hq,rs⟩:=ZdX x1.sub r1 hds;obtain rfl:u=ZAh l:=ru;rw[Zdn hns rs]at hq;refine kws_cons (thn (ZrW pins s1 σ H1 (λv' H'=>v'=.non/\H'=H1) I1 ⟨rfl,rfl⟩) λu2 s2 ⟨v',H2,I2,r2,e2,e3⟩=>?_);subst e2 e3;obtain rfl:u2=ZAx:=r2;refine kws_nil ?_;refine Zsq hc I2 hq ?_;refine k _ F1 H2 x1 ?_;cases ns.min? with
 | none=>exact .non
 | some i=>exact .int i
end
end HP
namespace HP
open PySem PySem.Spec PyProof.Rows L2
variable{F:Hp}{K:Zzx}
abbrev FX0:FX where
 tl:=[]
 fv:=λ_ _ _ _=>False
 sw:=λ_ _ h=>h
 drop:=λh=>h
 mono:=λh _=>h
structure Clo(K:Zzx)(F:Hp)(p:Addr)(params:Arguments)(body:Expr)(scope:Scope)(names:List Str)(cs:List PyData):Prop where
 ex:∃(qual:Str) (pm ctv:Value) (c:Addr) (oc:Obj) (clos:List (Str × Addr)),
  F p=Z (Zaw p (ZDe "<lambda>" qual params body scope clos pm c ctv))/\F c=Z (Zaw c oc)/\ZlJ oc qual /\
  (∀x y a,clos.lookup x=Z a->clos.lookup y=Z a->x=y)/\(∀y∈scope.names,y.2=.free->(clos.lookup y.1).isSome=ZEN) /\
  (∀x a,clos.lookup x=Z a->∃o v,F a=Z (Zaw a o)/\o.data=.cell v) /\
  names.length=cs.length/\∀(i:Nat) (x:Str) (d:PyData),names[i]?=Z x->cs[i]?=Z d->∃a o u v,clos.lookup x=Z a/\F a=Z (Zaw a o)/\o.data=.cell (Z u)/\RelV v u/\@Rep FX0 K F d v
section
variable{K:Zzx}{F F':Hp}{p:Addr}{params:Arguments}{body:Expr}{scope:Scope}{names:List Str}{cs:List PyData}
theorem Clo.mono(h:Clo K F p params body scope names cs)(s:Zq F F'):Clo K F' p params body scope names cs:=by
 obtain⟨qual,pm,ctv,c,oc,clos,h1,h2,h3,h4,h5,h6,h7,h8⟩:=h.ex;refine⟨qual,pm,ctv,c,oc,clos,s _ _ h1,s _ _ h2,h3,h4,h5,λx a e=>?_,h7,λi x d e1 e2=>?_⟩
 ·obtain⟨o,u,q1,q2⟩:=h6 x a e
  exact⟨o,u,s _ _ q1,q2⟩
 ·obtain⟨a,o,u,v,q1,q2,q3,q4,q5⟩:=h8 i x d e1 e2
  exact⟨a,o,u,v,q1,s _ _ q2,q3,q4,@Rep.mono FX0 _ _ _ _ _ q5 s⟩
theorem Clo.drop(h:Clo K F p params body scope names cs):Clo K (Zcf F) p params body scope names cs:=by
 obtain⟨qual,pm,ctv,c,oc,clos,h1,h2,h3,h4,h5,h6,h7,h8⟩:=h.ex;refine⟨qual,pm,ctv,c,oc,clos,Zck h1 rfl,Zck h2 rfl,h3,h4,h5,λx a e=>?_,h7,λi x d e1 e2=>?_⟩
 ·obtain⟨o,u,q1,q2⟩:=h6 x a e
  exact⟨o,u,Zck q1 rfl,q2⟩
 ·obtain⟨a,o,u,v,q1,q2,q3,q4,q5⟩:=h8 i x d e1 e2
  exact⟨a,o,u,v,q1,Zck q2 rfl,q3,q4,@Rep.drop FX0 _ _ _ _ q5⟩
theorem Clo.sw{a:Addr}{ob:HO}{vvs:List (List Key × V)}(hF:∀u,F a=Z u->Dk vvs u)(hob:Dk vvs ob)(h:Clo K F p params body scope names cs):Clo K (HP.sw a ob F) p params body scope names cs:=by
 have key:∀{b:Addr} {o:Obj},F b=Z (Zaw b o)->HP.sw a ob F b=Z (Zaw b o):=λ{b o} e=>by
  have hb:b≠a:=λz=>by subst z;have:=@Dk.te FX0 _ _ (hF _ e);cases this
  unfold HP.sw; rw[if_neg hb]; exact e
 obtain⟨qual,pm,ctv,c,oc,clos,h1,h2,h3,h4,h5,h6,h7,h8⟩:=h.ex;refine⟨qual,pm,ctv,c,oc,clos,key h1,key h2,h3,h4,h5,λx a e=>?_,h7,λi x d e1 e2=>?_⟩
 ·obtain⟨o,u,q1,q2⟩:=h6 x a e
  exact⟨o,u,key q1,q2⟩
 ·obtain⟨a,o,u,v,q1,q2,q3,q4,q5⟩:=h8 i x d e1 e2
  exact⟨a,o,u,v,q1,key q2,q3,q4,@Rep.sw FX0 _ _ _ _ _ _ _ hF hob q5⟩
end
theorem Rep.up[FX]{d:PyData}{v:V}(r:@Rep FX0 K F d v):Rep K F d v:=by
 induction r with
 | non=>exact .non
 | bl b=>exact .bl b
 | int i=>exact .int i
 | str x=>exact .str x
 | tup h hl _ ih=>exact .tup h hl ih
 | tupk h=>exact .tupk h
 | lst h hl _ ih=>exact .lst h hl ih
 | dct h he hk _ ih=>exact .dct h he hk ih
 | fn h=>exact h.elim
theorem Rep.cutF[FX]{F':Hp}(hF:∀b o,F b=Z o->te o=ZEO->F' b=Z o){d:PyData}{v:V}(r:Rep K F d v):∀n,HM.noF n d=ZEN->@Rep FX0 K F' d v:=by
 induction r with
 | non=>intro _ _; exact @Rep.non FX0 _ _
 | bl b=>intro _ _; exact @Rep.bl FX0 _ _ b
 | int i=>intro _ _; exact @Rep.int FX0 _ _ i
 | str x=>intro _ _; exact @Rep.str FX0 _ _ x
 | tupk h=>intro _ _; exact @Rep.tupk FX0 _ _ _ _ h
 | tup h hl _ ih =>
  intro n hn;cases n with
  | zero=>cases hn
  | succ n=>exact @Rep.tup FX0 _ _ _ _ _ (hF _ _ h rfl) hl λi d v h1 h2=>ih i d v h1 h2 n (ZzR.mp hn d (Zz5 h1))
 | lst h hl _ ih =>
  intro n hn;cases n with
  | zero=>cases hn
  | succ n =>
   refine @Rep.lst FX0 _ _ _ _ _ ?_ hl λi d v h1 h2=>ih i d v h1 h2 n (ZzR.mp hn d (Zz5 h1));rcases h with(h | ⟨o,h⟩) | h
   ·exact .inl (.inl (hF _ _ h rfl))
   ·exact .inl (.inr ⟨o,hF _ _ h rfl⟩)
   ·exact .inr h
 | @dct a es kvs vvs h he hk _ ih =>
  intro n hn;cases n with
  | zero=>cases hn
  | succ n =>
   refine @Rep.dct FX0 _ _ _ _ kvs vvs ?_ he hk λi d v h1 h2=>ih i d v h1 h2 n ?_
   ·rcases h with h | ⟨o,h⟩
    ·exact .inl (hF _ _ h rfl)
    ·exact .inr ⟨o,hF _ _ h rfl⟩
   ·subst he
    rw[Zz2]at h1;obtain⟨q,h3,h4⟩:=Zzy.mp h1;subst h4;have hm:(Zz7 (q.1.map HM.ZaE),q.2)∈HM.Zg kvs:=ZzI.mpr ⟨q,Zz5 h3,rfl⟩;have:=ZzR.mp hn _ hm;rw[ZzW]at this;exact this.2
 | fn h =>
  intro n hn;cases n with
  | zero=>cases hn
  | succ n=>have:=ZzR.mp hn _ (ZzB ..);cases this
end HP
namespace HP
open PySem PySem.Spec PyProof.Rows L2
variable{a b:Addr}{G H:Hp}{C:List Addr}{o:Obj}
theorem Rep0.cut{K:Zzx}{F F':Hp}(hF:∀b o,F b=Z o->te o=ZEO->F' b=Z o){d:PyData}{v:V}(r:@Rep FX0 K F d v):@Rep FX0 K F' d v:=by
 induction r with
 | non=>exact @Rep.non FX0 _ _
 | bl b=>exact @Rep.bl FX0 _ _ b
 | int i=>exact @Rep.int FX0 _ _ i
 | str x=>exact @Rep.str FX0 _ _ x
 | tupk h=>exact @Rep.tupk FX0 _ _ _ _ h
 | tup h hl _ ih=>exact @Rep.tup FX0 _ _ _ _ _ (hF _ _ h rfl) hl ih
 | lst h hl _ ih =>
  refine @Rep.lst FX0 _ _ _ _ _ ?_ hl ih;rcases h with(h | ⟨o,h⟩) | h
  ·exact .inl (.inl (hF _ _ h rfl))
  ·exact .inl (.inr ⟨o,hF _ _ h rfl⟩)
  ·exact .inr h
 | @dct a es kvs vvs h he hk _ ih =>
  refine @Rep.dct FX0 _ _ _ _ kvs vvs ?_ he hk ih;rcases h with h | ⟨o,h⟩
  ·exact .inl (hF _ _ h rfl)
  ·exact .inr ⟨o,hF _ _ h rfl⟩
 | fn h=>exact h.elim
def Za1(C:List Addr)(H:Hp):Hp:=λb=>if b∈C then Z_ else H b
theorem Zhx(h:b∈C):Za1 C H b=Z_:=by unfold Za1; rw[if_pos h]
theorem Zao(h:b ∉ C):Za1 C H b=H b:=by unfold Za1; rw[if_neg h]
theorem ZhO{o:HO}(h:Za1 C H b=Z o):b ∉ C/\H b=Z o:=by
 unfold Za1 at h;split at h
 ·cases h
 ·exact⟨by assumption,h⟩
def Zhg(C:List Addr)(G H:Hp):Hp:=λb=>if b∈C then G b else H b
theorem ZeW(h:b∈C):Zhg C G H b=G b:=by unfold Zhg; rw[if_pos h]
theorem Zbh(h:b ∉ C):Zhg C G H b=H b:=by unfold Zhg; rw[if_neg h]
section
variable{P:Program}{w:World}{C:List Addr}{G H H':Hp}{h h':Heap}
theorem ZbS(x:Z4 P w H h a (Zaw a o)):h.get? a=Z o:=x.1
theorem Zhy(e:h.get? a=Z o):Z4 P w H h a (Zaw a o):=⟨e,⟨o,e⟩,λh1 h2 q k=>k o q⟩
theorem HOk.cut(x:HOk P w H h)(hC:∀c∈C,∀o,H c=Z o->te o=ZEN):HOk P w (Za1 C H) h:=λa o e=>by
 obtain⟨_,e⟩:=ZhO e;have out:∀{b:Addr} {u:HO},H b=Z u->te u=ZEO->Za1 C H b=Z u:=λ{b u} q t=>by rw[Zao λz=>by rw[hC b z u q]at t; cases t]; exact q
 exact(x a o e).stay (λ_ _ _ q=>q) (λb q=>out q rfl) λb xs q=>out q rfl
theorem HOk.put(x:HOk P w H h)(hn:∀c∈C,H c=Z_)(hC:∀c∈C,∀u,G c=Z u->∃o,u=Zaw c o/\h.get? c=Z o):HOk P w (Zhg C G H) h:=λa o e=>by
 have out:∀{b:Addr} {u:HO},H b=Z u->Zhg C G H b=Z u:=λ{b u} q=>by rw[Zbh λz=>by rw[hn b z]at q; cases q]; exact q
 by_cases ha:a∈C
 ·rw[ZeW ha]at e
  obtain⟨ob,rfl,hb⟩:=hC a ha o e;exact Zhy hb
 ·rw[Zbh ha]at e
  exact(x a o e).stay (λ_ _ _ q=>q) (λb q=>out q) λb xs q=>out q
end
structure Zkl(scope:Scope)(x:Str)(names:List Str):Prop where
 kind:scope.kind=.function
 co:scope.isCoroutine=ZEO
 gen:scope.isGenerator=ZEO
 nocell:∀y∈scope.names,y.2≠.cell
 par:scope.names.lookup x=Z .local
 free:∀n∈names,scope.names.lookup n=Z .free
 nd:(x::names).Nodup
def Zm2(P:Program)(w:World)(K:Zzx)(mg:Str->Option Value)(base:Heap)(N:List Str)(qual:Str)(scope:Scope)(f:Addr)(cd:Value)(clos:List (Str × Addr))(A:Around)(outer:List Env)(s:Shared)(H:Hp):Cx where
 prog:=P
 w:=w
 K:=K
 mg:=mg
 base:=base
 A:=A.deeper (ZCF qual scope s.heap.objs.size f cd clos)
 N:=N
 s₀:=s
 H₀:=H
 env:=ZCF qual scope s.heap.objs.size f cd clos
 outer:=outer
 stack:=ZCF qual scope s.heap.objs.size f cd clos::outer
 ex:=[]
 calm:=ZEN
 fn:=λ_=>ZEO
 pn:=[]
 xe:=λ_ _=>False
section
variable{P:Program}{w:World}{K:Zzx}{mg:Str->Option Value}{base:Heap}{A:Around}{outer:List Env}{s:Shared}{H:Hp}{k:Nat}
theorem ZrX{qual x:Str}{scope:Scope}{names:List Str}{f:Addr}{cd:Value}{clos:List (Str × Addr)}(S:Zkl scope x names)(hd:A.handled=Z_)(e0:ZeJ P w K mg base A outer s H)
  (inj:∀y z a,clos.lookup y=Z a->clos.lookup z=Z a->y=z) (has:∀y∈scope.names,y.2=.free->(clos.lookup y.1).isSome=ZEN)
  (hcell:∀y a,clos.lookup y=Z a->H a=Z_/\∃o v,s.heap.get? a=Z o/\o.data=.cell v)
  {v:V} {u:Value} (rv:RelV v u) {vs:List V} (hlen:names.length=vs.length) (hcap:∀(i:Nat) (y:Str) (v':V),names[i]?=Z y->vs[i]?=Z v'->∃a o u',clos.lookup y=Z a/\s.heap.get? a=Z o/\o.data=.cell (Z u')/\RelV v' u')
  {h':Heap} {tk:Nat} (hns:h'.Ns s.heap.objs.size λy=>[(x,u)].reverse.lookup y) (hsb:ZA6 s.heap.objs.size (s.heap.push { cls:=.type "frame",data:=.dict #[] }) h') :
  Inv (Zm2 P w K mg base (x::names) qual scope f cd clos A outer s H) [] (Z v::vs.map Z) H { s with heap:=h',toks:=tk }:=by
 have hk:∀b o,s.heap.get? b=Z o->h'.get? b=Z o:=λb o e=>hsb.extBut b o (ZzU (ZzO e)) (ZzA _ e);have noA:∀b:Addr,b ∉ (Zm2 P w K mg base (x::names) qual scope f cd clos A outer s H).ex:=λb z=>absurd (show b∈([]:List Addr) from z) (by simp);refine⟨⟨e0.mod,S.kind,rfl,rfl,ZzH _,inj,λy hy=>?_,λy c z=>absurd (show ZEO=ZEN from z) (by simp),λ_=>hd,ZEw e0.frames,.inr ⟨rfl,rfl⟩,λb z=>absurd z (noA b),e0.bs,e0.bsz,λb _ _=>noA b,λb z=>absurd z (noA b),e0.funs,e0.frf⟩,
  rfl,e0.bare,Un.kept hk,⟨_,hns,λi y v' h1 h2 h3=>?_⟩,λy c e=>?_,e0.hok.fresh (ZzH _),λy c e=>(hcell y c e).1,λp hp=>absurd (show p∈([]:List (Addr × Obj)) from hp) (by simp),e0.hok.kept hk,?_⟩
 ·have hy:scope.names.lookup y=Z .cell\/scope.names.lookup y=Z .free:=hy
  rcases hy with hy | hy
  ·exact absurd rfl (S.nocell _ (ZA2 hy))
  ·exact ZAd.mp (has _ (ZA2 hy) rfl)
 ·cases i with
  | zero=>have e1:x=y:=ZAl h1;have e2:v=v':=ZAl (ZAl h2);subst e1 e2;exact⟨u,rv,.inl ⟨S.par,by simp⟩⟩
  | succ i=>have h1:names[i]?=Z y:=h1;have h2:(vs.map Z)[i]?=Z (Z v'):=h2;rw[Zz2]at h2;obtain⟨v2,h4,h5⟩:=Zzy.mp h2;cases h5;obtain⟨a,o,u',q1,q2,q3,q4⟩:=hcap i y v' h1 h4;exact⟨u',q4,.inr ⟨.inr (S.free y (Zz5 h1)),a,q1,o,hk _ _ q2,q3⟩⟩
 ·obtain⟨_,o,v',q1,q2⟩:=hcell y c e
  exact⟨v',o,hk _ _ q1,q2⟩
 ·show(Z v::vs.map Z).length=(x::names).length
  rw[ZzS,ZzS,Zzw,hlen]
end
end HP
namespace HP
open PySem PySem.Spec PyProof.Rows L2
variable[FX]
def cellsOf(clos:List (Str × Addr)):List Addr:=clos.filterMap λq=>clos.lookup q.1
theorem Zl8{clos:List (Str × Addr)}{a:Addr}:a∈cellsOf clos↔∃y,clos.lookup y=Z a:=by unfold cellsOf;rw[ZAu];exact⟨λ⟨q,_,h⟩=>⟨q.1,h⟩,λ⟨y,h⟩=>⟨(y,a),ZA2 h,h⟩⟩
theorem Tb.cut{P:Program}{w:World}{C:List Addr}{H:Hp}{h:Heap}(t:Tb H)(x:HOk P w H h)(hC:∀c∈C,∃o v,H c=Z (Zaw c o)/\o.data=.cell v):Tb (Za1 C H):=λT q hT=>by
 obtain⟨ps,h1,h2,h3⟩:=t T q hT;refine⟨ps,?_,h2,λpos c hc=>?_⟩
 ·rw[Zao λz=>by
   obtain⟨o,v,e,_⟩:=hC T z;rw[h1]at e; cases e]
  exact h1
 ·obtain⟨a,o,e1,e2,e3⟩:=h3 pos c hc
  refine⟨a,o,e1,?_,e3⟩;rw[Zao λz=>by obtain⟨o',v,f1,f2⟩:=hC a z;have g1:=ZbS (x a _ e2);have g2:=ZbS (x a _ f1);rw[g1]at g2;cases g2;obtain⟨vs,tt,d1,_⟩:=e3;rw[d1]at f2; cases f2];exact e2
section
variable{P:Program}{w:World}{K:Zzx}{mg:Str->Option Value}{base:Heap}{k:Nat}
theorem Zva{params:Arguments}{body:Expr}{scope:Scope}{x:Str}{names:List Str}{g:HM.EF}(S:Zkl scope x names)
  (hbind:∀(qual:Str) (clos:List (Str × Addr)) (pm cd ctv u:Value),bindArgs (PySem.W.kla_fn "<lambda>" qual params body scope clos pm cd ctv) ⟨[u],[]⟩=pure [(x,u)])
  (hbody:∀(qual:Str) (f:Addr) (cd:Value) (clos:List (Str × Addr)) (A:Around) (outer:List Env) (s:Shared) (H:Hp),Z9 k (A.deeper (ZCF qual scope s.heap.objs.size f cd clos))->XE (Zm2 P w K mg base (x::names) qual scope f cd clos A outer s H) body g)
  {A:Around} {outer:List Env} {s:Shared} {F H:Hp} {p:Addr} {cs:List PyData} (C:Clo K F p params body scope names cs) (e0:ZeJ P w K mg base A outer s H) (sub:Zq F H) (hr:Z9 (k+1) A) (tb:Tb H) (nt:NoT F)
  {us:List Value} {vs:List V} {ds:List PyData} {d:PyData} {Q:VK} (rv:Vals vs us) (rs:Zs K F ds vs) (hap:HM.ZfP 1 names.length g cs ds=Z d) (kk:∀v F' H',Ext F H F' H'->Rep K F' d v->Q v H') :
  codeAny (model P w) A (.call (.ref p) ⟨us,[]⟩) (CR CX0 outer P w H s Q E0) s:=by
 unfold HM.ZfP at hap;split at hap
 case isFalse=>cases hap
 rename_i hc;obtain⟨hl1,hl2,hnf⟩:=hc;obtain⟨d0,rfl⟩:=List.length_eq_one_iff.mp hl1;obtain⟨v0,vs',rfl,r0,rs'⟩:=rs.cons_inv;obtain rfl:=rs'.nil_inv;obtain⟨u0,rfl,ru0⟩:=vals1 rv;have hnf0:HM.noF 20 d0=ZEN:=by rw[ZAX,ZzW]at hnf; exact hnf.1
 obtain⟨qual,pm,ctv,c,oc,clos,h1,h2,h3,h4,h5,h6,h7,h8⟩:=C.ex;generalize hCs:cellsOf clos=Cs;have hCm:∀a,a∈Cs↔∃y,clos.lookup y=Z a:=λa=>by rw[<-hCs]; exact Zl8
 have hCo:∀a∈Cs,∃o v,F a=Z (Zaw a o)/\o.data=.cell v/\s.heap.get? a=Z o:=λa ha=>by obtain⟨y,e⟩:=(hCm a).mp ha;obtain⟨o,v,q1,q2⟩:=h6 y a e;exact⟨o,v,q1,q2,ZbS (e0.hok a _ (sub _ _ q1))⟩
 have hCt:∀a∈Cs,∀o,H a=Z o->te o=ZEN:=λa ha o e=>by obtain⟨ob,v,q1,_,_⟩:=hCo a ha;rw[sub _ _ q1]at e; cases e; rfl
 have hCn:∀a∈Cs,H a≠Z_:=λa ha z=>by obtain⟨ob,v,q1,_,_⟩:=hCo a ha;rw[sub _ _ q1]at z; cases z
 have none1:∀b,H b=Z_->Za1 Cs H b=Z_:=λb e=>by
  by_cases hb:b∈Cs
  ·exact Zhx hb
  ·rw[Zao hb]; exact e
 have e1:ZeJ P w K mg base A outer s (Za1 Cs H):=⟨e0.frames,e0.mod,λb o e=>⟨(e0.bs b o e).1,none1 b (e0.bs b o e).2⟩,e0.bsz,e0.funs,λb hb=>none1 b (e0.frf b hb),HOk.cut e0.hok hCt,e0.bare⟩;have KX:K.In s.heap:=e0.mod.kin.keeps λb o e=>(e0.bs b o e).1;have lim:s.heap.NoLimit:=e0.mod.nolimit.keeps λb o e=>(e0.bs b o e).1;have hcd:s.heap.CodeRec (.ref c) qual:=by obtain⟨vs,t,d1,d2⟩:=h3;exact⟨c,oc,vs,t,rfl,ZbS (e0.hok c _ (sub _ _ h2)),d1,d2⟩
 refine PySem.W.kla_callFunE hr.depth (ZbS (e0.hok p _ (sub _ _ h1))) rfl S.co S.gen rfl hcd ?_;rw[hbind];refine Zzz (ZDc S.nocell (λy hy=>by rw[ZzF.mp hy]; exact S.par) (λh' hns hsb=>⟨lim.fresh _ hsb,?_⟩) S.kind);show codeAny _ _ (.expr body (ZCF qual scope s.heap.objs.size p (.ref c) clos)) _ _;have hvs:∃wv:List V,names.length=wv.length/\(∀(i:Nat) (y:Str) (v':V),names[i]?=Z y->wv[i]?=Z v'->∃a o u',clos.lookup y=Z a/\s.heap.get? a=Z o/\o.data=.cell (Z u')/\RelV v' u')/\Zs K (Za1 Cs F) cs wv:=by
  have step:∀n,n<=cs.length->∃wv:List V,wv.length=n/\∀(i:Nat) (y:Str) (d:PyData) (v':V),names[i]?=Z y->cs[i]?=Z d->wv[i]?=Z v'->(∃a o u',clos.lookup y=Z a/\s.heap.get? a=Z o/\o.data=.cell (Z u')/\RelV v' u')/\Rep K (Za1 Cs F) d v':=by
   intro n
   induction n with
   | zero=>exact λ_=>⟨[],rfl,λi y d v' _ _ h=>by simp at h⟩
   | succ n ih =>
    intro hn;obtain⟨wv,l1,l2⟩:=ih (by omega);have hy:n<names.length:=by omega
    have hd:n<cs.length:=by omega
    obtain⟨a,o,u',v',q1,q2,q3,q4,q5⟩:=h8 n names[n] cs[n] (ZzT hy) (ZzT hd);refine⟨wv++[v'],by rw[ZzM,l1]; rfl,λi y d v2 g1 g2 g3=>?_⟩
    by_cases hi:i<n
    ·rw[ZAq (by omega)]at g3
     exact l2 i y d v2 g1 g2 g3
    ·have hin:i=n:=by
      have:=(ZzL.mp g3).1;rw[ZzM,l1]at this;have:i<n+1:=this;omega
     subst hin;rw[ZAk (by omega),l1,Nat.sub_self]at g3;rw[ZzT hy]at g1;rw[ZzT hd]at g2;cases g1; cases g2; cases g3;refine⟨⟨a,o,u',q1,ZbS (e0.hok a _ (sub _ _ q2)),q3,q4⟩,?_⟩;refine(Rep0.cut (λb ob z t=>?_) q5).up;rw[Zao λhb=>by obtain⟨ob',v,w1,_,_⟩:=hCo b hb;rw[w1]at z; cases z; cases t];exact z
  obtain⟨wv,l1,l2⟩:=step cs.length (ZzH _);refine⟨wv,by omega,λi y v' g1 g3=>?_,by omega,λi d v' g2 g3=>?_⟩
  ·have hi:=(ZzL.mp g3).1
   exact(l2 i y cs[i] v' g1 (ZzT (by omega)) g3).1
  ·have hi:=(ZzL.mp g3).1
   exact(l2 i names[i] d v' (ZzT (by omega)) g2 g3).2
 obtain⟨wv,wl,wc,wr⟩:=hvs;have cutF:∀b o,F b=Z o->te o=ZEO->Za1 Cs F b=Z o:=λb ob z t=>by rw[Zao λhb=>by obtain⟨ob',v,w1,_,_⟩:=hCo b hb;rw[w1]at z; cases z; cases t];exact z
 have r0':Rep K (Za1 Cs F) d0 v0:=(Rep.cutF cutF r0 20 hnf0).up;have sub1:Zq (Za1 Cs F) (Za1 Cs H):=λb o e=>by obtain⟨hb,e⟩:=ZhO e;rw[Zao hb]; exact sub _ _ e
 have nt1:NoT (Za1 Cs F):=λb o e=>nt b o (ZhO e).2;have tb1:Tb (Za1 Cs H):=tb.cut e0.hok λa ha=>by obtain⟨o,v,q1,q2,_⟩:=hCo a ha;exact⟨o,v,sub _ _ q1,q2⟩
 have I:=ZrX (qual:=qual) (f:=p) (cd:=.ref c) (tk:=s.toks+1) S hr.hd e1 h4 h5 (λy a e=>by obtain⟨o,v,q1,q2,q3⟩:=hCo a ((hCm a).mpr ⟨y,e⟩);exact⟨Zhx ((hCm a).mpr ⟨y,e⟩),o,v,q3,q2⟩) ru0 wl wc hns hsb;have a0:At K (Za1 Cs F) (Za1 Cs H) (Za1 Cs F) (Za1 Cs H) ((d0::cs).map λd=>Z (HM.B.pl d)) (Z v0::wv.map Z):=by
  have:=ZeI (N:=x::names) sub1 tb1 nt1 (Zs.cons r0' wr) (by rw[ZzS,ZzS]; omega);have e3:HM.Zdm (x::names).length (d0::cs)=(d0::cs).map λd=>Z (HM.B.pl d):=by unfold HM.Zdm;rw[ZzS,ZzS,show names.length+1-(cs.length+1)=0 by omega];exact ZAe _
  have e4:L2.start (x::names) (v0::wv)=Z v0::wv.map Z:=by unfold L2.start;rw[ZzS,ZzS,show names.length+1-(wv.length+1)=0 by omega];exact ZAe _
  rw[e3,e4]at this;exact this
 refine PySem.W.kla_codeExpr (ZAD (hbody qual p (.ref c) clos A outer s (Za1 Cs H) (hr.deeper _) _ _ hap [] _ _ _ (λv' H'=>∃F',Ext (Za1 Cs F) (Za1 Cs H) F' H'/\Rep K F' d v') I ⟨_,_,_,a0,λv' F' H' x' q'=>⟨F',x',q'⟩⟩) (λu' s' hq=>?_) λe s' hq=>ZAp hq);obtain⟨v',H',I',ru',F',x',q'⟩:=hq;have un:Un (frs outer) [] (Za1 Cs H) H' s.heap s'.heap:=I'.base;have nfs:∀a∈Cs,a ∉ frs outer:=λa ha hb=>hCn a ha (e0.frf a hb);have kc:∀a∈Cs,∃o,H a=Z (Zaw a o)/\F a=Z (Zaw a o)/\s'.heap.get? a=Z o/\H' a=Z_:=λa ha=>by obtain⟨o,v,q1,q2,q3⟩:=hCo a ha;exact⟨o,sub _ _ q1,q1,un.keep a o q3 (Zhx ha) (nfs a ha) (by simp),un.free a o q3 (Zhx ha) (by simp)⟩
 have out:∀{b:Addr} {o:HO},H b=Z o->te o=ZEO->b ∉ Cs:=λ{b o} e t hb=>by rw[hCt b hb o e]at t; cases t
 have outN:∀{b:Addr},H b=Z_->b ∉ Cs:=λ{b} e hb=>hCn b hb e;have outT:∀{b:Addr} {ps:Array Value},H b=Z (.tbl ps)->b ∉ Cs:=λ{b ps} e hb=>by obtain⟨o,q,_⟩:=kc b hb;rw[e]at q; cases q
 refine⟨v',Zhg Cs H H',I'.os,I'.bare,⟨λb o e n hb hx=>?_,λb o e n hb hx=>?_,λb o e n hx=>?_,un.there,λb xs e=>?_,λb o u e=>?_,λb ps e=>?_⟩,HOk.put I'.hok (λa ha=>by obtain⟨_,_,_,_,q⟩:=kc a ha; exact q) (λa ha u e=>?_),ru',kk v' (Zhg Cs F F') (Zhg Cs H H') ⟨λb o e=>?_,λb o e=>?_,λb o e=>?_,λb o e=>?_,λt=>?_,λn b o e=>?_⟩ (q'.mono λb o e=>?_)⟩
 ·exact un.keep b o e (none1 b n) hb hx
 ·exact un.slot b o e (none1 b n) hb hx
 ·rw[Zbh (outN n)]; exact un.free b o e (none1 b n) hx
 ·have hb:=out e rfl
  rw[Zbh hb]; exact un.tups b xs (by rw[Zao hb]; exact e)
 ·have hb:=out e rfl
  rw[Zbh hb]; exact un.frzs b o u (by rw[Zao hb]; exact e)
 ·have hb:=outT e
  rw[Zbh hb]; exact un.tbls b ps (by rw[Zao hb]; exact e)
 ·obtain⟨o,q1,_,q3,_⟩:=kc a ha
  rw[q1]at e; cases e;exact⟨o,rfl,q3⟩
 ·by_cases hb:b∈Cs
  ·rw[ZeW hb]; exact e
  ·rw[Zbh hb]; exact x'.ff b o (by rw[Zao hb]; exact e)
 ·by_cases hb:b∈Cs
  ·exact .of (by rw[ZeW hb]; exact e)
  ·exact(x'.hh b o (by rw[Zao hb]; exact e)).cong (Zbh hb)
 ·by_cases hb:b∈Cs
  ·rw[ZeW hb]at e ⊢; exact sub _ _ e
  ·rw[Zbh hb]at e ⊢; exact x'.sub _ _ e
 ·by_cases hb:b∈Cs
  ·rw[ZeW hb]at e; exact .inl e
  ·rw[Zbh hb]at e
   rcases x'.new b o e with q | q
   ·exact .inl (ZhO q).2
   ·refine .inr ?_
    unfold Fre at q ⊢;rw[Zao hb]at q;exact q
 ·exact(x'.tab tb1).keep λa o e _=>by rw[Zbh λhb=>by obtain⟨_,_,_,_,q⟩:=kc a hb;rw[e]at q; cases q];exact e
 ·by_cases hb:b∈Cs
  ·rw[ZeW hb]at e; exact n b o e
  ·rw[Zbh hb]at e; exact x'.nts nt1 b o e
 ·rw[Zbh λhb=>by
   obtain⟨_,_,_,_,q⟩:=kc b hb;rw[x'.sub _ _ e]at q; cases q]
  exact e
end
end HP
namespace HP
open PySem PySem.Spec PyProof.Rows L2
variable{b:Addr}{o:HO}{F H:Hp}
variable[FX]
theorem Zrx{a b:Int}{cv:Value}(l:List Value)(h:TriplesOk l):∀(pos:Pos) (c:Value),ZDp pos (l++[rawInt a,rawInt b,cv])=Z c->ZDp pos l=Z c\/c=cv:=by
 fun_induction TriplesOk l with
 | case1 =>
  intro pos c e;simp only[ZBr,ZDp,rawInt]at e;split at e
  ·cases e; exact .inr rfl
  ·cases e
 | case2 x t y u z rest ih =>
  intro pos c e;simp only[ZD1,ZDp]at e ⊢;split at e
  ·rename_i hq
   rw[if_pos hq];exact .inl e
  ·rename_i hq
   rw[if_neg hq];exact ih h pos c e
 | case3=>exact h.elim
def BMod(base:Heap)(mg:Str->Option Value):Prop:=∃bm o,mg "__builtins__" = Z (.ref bm)/\bm≠ZDG/\bm≠ZAb/\base.get? bm=Z o/\o.cls=.type "module"/\o.dict=Z ZDG/\o.data=.plain
structure Zro(X:Cx)(t:Nat)(params:Arguments)(body:Expr)(scope:Scope)(names:List Str)(is:List Nat):Prop where
 code:∃c P,X.env.code=.ref c/\ZA9 X.K c P=ZEN/\(P,X.env.qual ++ "<lambda>")∈FX.tl/\∀q,(P,q)∈FX.tl->q=X.env.qual ++ "<lambda>"
 bm:BMod X.base X.mg
 dflt:defaultsOf params X.env=([],[])
 len:is.length=names.length
 at_:∀(j i:Nat) (x:Str),is[j]?=Z i->names[j]?=Z x->X.N[i]?=Z x/\X.env.scope.names.lookup x=Z .cell
 cells:∀y∈scope.names,y.2=.free->X.env.scope.names.lookup y.1=Z .cell
 free:∀x∈names,(x,ZBO)∈scope.names
 own:∀x,X.fn x=ZEN
 good:∀F p cs,Clo X.K F p params body scope names cs->FX.fv t cs F p
section
variable{X:Cx}{t:Nat}{params:Arguments}{body:Expr}{scope:Scope}{names:List Str}{is:List Nat}{pos lpos p:Pos}
structure Made(X:Cx)(params:Arguments)(body:Expr)(scope:Scope)(H H':Hp)(q:Addr)(clos:List (Str × Addr)):Prop where
 ex:∃(pm ctv:Value) (c:Addr) (oc:Obj),H' q=Z (Zaw q (ZDe "<lambda>" (X.env.qual ++ "<lambda>") params body scope clos pm c ctv))/\H' c=Z (Zaw c oc)/\ZlJ oc (X.env.qual ++ "<lambda>")
 hh:Zax H H'
 tb:Tb H'
theorem Zt8(L:Zro X t params body scope names is){pins:List (Addr × Obj)}{s:Shared}{σ:L2.St}(I:Inv X pins σ H s)(tb:Tb H){clos:List (Str × Addr)}(hcl:closureFor scope X.env=pure clos) :
  wpAny (model X.prog X.w) X.A (eval (.Lambda params body scope lpos) X.env) (λu s'=>∃q H',u=.ref q/\Inv X pins σ H' s'/\Made X params body scope H H' q clos) X.xe s:=by
 obtain⟨c,P,hc,hh,hm,hu⟩:=L.code;obtain⟨ps,hP,ht,hg⟩:=tb P _ hm;have gP:s.heap.get? P=Z (ZCl ps):=I.hok P _ hP;have Ns:=I.mod.glob.keeps I.bk;have CH:PySem.W.CodeHd s.heap c P:=ZEC I.kIn hh;obtain⟨bm,ob,b1,b2,b3,b4,b5,b6,b7⟩:=L.bm;have gb:=I.bk _ _ b4;have hbP:bm≠P:=λz=>by rw[z,gP]at gb; cases gb; cases b5
 have hgP:ZAb≠P:=λz=>by obtain⟨o,es,ep,e,hd,_⟩:=Ns;rw[z,gP]at e; cases e; cases hd
 have BA:s.heap.BuiltinsAt X.mg P:=⟨bm,ob,b1,b2,b3,hbP,gb,b5,b6,b7⟩;refine PySem.W.kla_eval L.dflt ?_;cases hq:ZDp lpos ps.toList with
 | some cv =>
  obtain⟨a,oc,rfl,h1,h2⟩:=hg lpos cv hq;refine PySem.W.kla_makeFunctionHit hcl I.ok.glob Ns hc CH gP ht hq BA λctv h' tk hk hz=>?_;generalize hob:ZDe "<lambda>" (X.env.qual ++ "<lambda>") params body scope clos ((X.mg "__name__").getD .none) a ctv=fo;have hn:H h'.objs.size=Z_:=I.hok.fresh hz;have hk2:∀b o,s.heap.get? b=Z o->(h'.push fo).get? b=Z o:=λb o e=>ZzA _ (hk b o e);have gq:(h'.push fo).get? h'.objs.size=Z fo:=by rw[<-hob]; exact ZzP _ rfl
  refine⟨h'.objs.size,upd H h'.objs.size (Zaw h'.objs.size fo),rfl,?_,⟨_,ctv,a,oc,by rw[Zy,<-hob],?_,h2⟩,.of (Zkt hn),tb.same (Zkt hn)⟩
  ·subst hob
   exact I.laid (t':=tk) hk2 hz (Zhy gq)
  ·rw[Zx (Zas h1 hn)]; exact h1
 | none =>
  refine PySem.W.kla_makeFunction hcl I.ok.glob Ns hc CH gP ht hq hgP BA λc' ctv h' tk hx hge hlt hrec htab=>?_;generalize hob:ZDe "<lambda>" (X.env.qual ++ "<lambda>") params body scope clos ((X.mg "__name__").getD .none) c' ctv=fo;generalize hps:ps++#[rawInt lpos.line,rawInt lpos.col,ZAh c']=ps2 at htab;obtain⟨c2,oc,vs,tq,e2,goc,d1,d2⟩:=hrec;cases e2;have hcn:H c'=Z_:=I.hok.fresh hge;have hqn:H h'.objs.size=Z_:=I.hok.fresh (ZAn hge (ZBo hlt));have hcq:c'≠h'.objs.size:=ZzU hlt;have hcP:c'≠P:=λz=>by rw[z,hP]at hcn; cases hcn
  have hqP:h'.objs.size≠P:=λz=>by rw[z,hP]at hqn; cases hqn
  have gq:(h'.push fo).get? h'.objs.size=Z fo:=by rw[<-hob]; exact ZzP _ rfl
  have gc:(h'.push fo).get? c'=Z oc:=ZzA _ goc;have gP2:(h'.push fo).get? P=Z (ZCl ps2):=ZzA _ htab;have hk2:∀b o,b≠P->s.heap.get? b=Z o->(h'.push fo).get? b=Z o:=λb o hb e=>ZzA _ (hx b o hb e);generalize hH':upd (upd (upd H P (.tbl ps2)) c' (Zaw c' oc)) h'.objs.size (Zaw h'.objs.size fo)=H';have aq:H' h'.objs.size=Z (Zaw h'.objs.size fo):=by rw[<-hH',Zy]
  have ac:H' c'=Z (Zaw c' oc):=by rw[<-hH',Zx hcq,Zy]
  have aP:H' P=Z (.tbl ps2):=by rw[<-hH',Zx (ZAG hqP),Zx (ZAG hcP),Zy]
  have ao:∀b,b≠h'.objs.size->b≠c'->b≠P->H' b=H b:=λb n1 n2 n3=>by rw[<-hH',Zx n1,Zx n2,Zx n3]
  have at1:∀b o,H b=Z o->b≠P->H' b=Z o:=λb o e n=>by rw[ao b (Zas e hqn) (Zas e hcn) n]; exact e
  have nP:∀b o,H b=Z o->(∀ps,o≠.tbl ps)->b≠P:=λb o e n z=>by rw[z,hP]at e; cases e; exact n _ rfl
  have old:∀b o,s.heap.get? b=Z o->b≠h'.objs.size/\b≠c':=λb o e=>by have hb:=ZzO e;exact⟨ZzU (ZzZ hb (ZAn hge (ZBo hlt))),ZzU (ZzZ hb hge)⟩
  have hokN:HOk X.prog X.w H' (h'.push fo):=λb o e=>by
   by_cases n1:b=h'.objs.size
   ·subst n1; rw[aq]at e; cases e; exact Zhy gq
   ·by_cases n2:b=c'
    ·subst n2; rw[ac]at e; cases e; exact Zhy gc
    ·by_cases n3:b=P
     ·subst n3; rw[aP]at e; cases e; exact gP2
     ·rw[ao b n1 n2 n3]at e
      refine(I.hok b o e).stay (λd u hd z=>hk2 d u (λy=>?_) z) (λd z=>at1 d _ z (nP d _ z λ_ y=>by cases y)) λd xs z=>at1 d _ z (nP d _ z λ_ y=>by cases y);rcases hd with y2 | y2
      ·exact n3 (y2▸y)
      ·exact nP d _ y2 (λ_ q=>by cases q) y
  have un:Un X.fs [] H H' s.heap (h'.push fo):=by
   refine⟨λb o e n hb hx=>?_,λb o e n hb hx=>?_,λb o e n hx=>?_,λb o e hx=>?_,λb xs e=>at1 b _ e (nP b _ e λ_ y=>by cases y),λb o u e=>at1 b _ e (nP b _ e λ_ y=>by cases y),λb pp e=>?_⟩
   ·exact hk2 b o (λz=>by rw[z,hP]at n; cases n) e
   ·exact⟨o.slots,hk2 b o (λz=>by rw[z,hP]at n; cases n) e⟩
   ·obtain⟨n1,n2⟩:=old b o e
    rw[ao b n1 n2 (λz=>by rw[z,hP]at n; cases n)]; exact n
   ·by_cases n3:b=P
    ·exact⟨_,by rw[n3]; exact gP2⟩
    ·exact⟨o,hk2 b o n3 e⟩
   ·by_cases n3:b=P
    ·subst n3
     rw[hP]at e; cases e;exact⟨_,by rw[aP,<-hps]⟩
    ·exact⟨#[],by rw[at1 b _ e n3]; simp⟩
  refine⟨h'.objs.size,H',rfl,?_,⟨_,ctv,c',oc,by rw[aq,<-hob],ac,vs,tq,d1,d2⟩,λb o e=>?_,λT q hT=>?_⟩
  ·exact I.un (t':=tk) un hokN
  ·by_cases n3:b=P
   ·subst n3
    rw[hP]at e; cases e;exact⟨_,aP⟩
   ·exact .of (at1 b o e n3)
  ·by_cases n3:T=P
   ·subst n3
    obtain rfl:=hu q hT;refine⟨ps2,aP,?_,λpos' cc hcc=>?_⟩
    ·rw[<-hps,Array.toList_append]
     exact TriplesOk_snoc _ _ _ _ ht
    ·rw[<-hps,Array.toList_append]at hcc
     rcases Zrx _ ht _ _ hcc with e | e
     ·obtain⟨a,o,q1,q2,q3⟩:=hg pos' cc e
      exact⟨a,o,q1,at1 a _ q2 (nP a _ q2 λ_ y=>by cases y),q3⟩
     ·exact⟨c',oc,e,ac,vs,tq,d1,d2⟩
   ·obtain⟨ps',w1,w2,w3⟩:=tb T q hT
    refine⟨ps',at1 T _ w1 n3,w2,λpos' cc hcc=>?_⟩;obtain⟨a,o,q1,q2,q3⟩:=w3 pos' cc hcc;exact⟨a,o,q1,at1 a _ q2 (nP a _ q2 λ_ y=>by cases y),q3⟩
theorem ZnJ{r:HM.Env}:∀{is:List Nat} {cs:List PyData},HM.Zk9 is r=Z cs->cs.length=is.length/\∀(j i:Nat),is[j]?=Z i->∃d,cs[j]?=Z d/\r[i]?=Z (Z (.pl d))
 | [],cs,h=>by cases h; exact⟨rfl,λj i e=>by simp at e⟩
 | i::is,cs,h=>by
  unfold HM.Zk9 at h;split at h
  ·rename_i d hd
   obtain⟨cs',h1,h2⟩:=Zzy.mp h;subst h2;obtain⟨l,k⟩:=ZnJ h1;refine⟨by rw[ZzS,ZzS,l],λj i' e=>?_⟩;cases j with
   | zero=>cases e; exact⟨d,rfl,hd⟩
   | succ j=>exact k j i' e
  ·cases h
def ZeU(F H:Hp):Hp:=λb=>match H b with
 | some (.ext φ)=>Z (.ext φ)
 | _=>F b
theorem Zih{a:Addr}{o:Obj}(h:H a=Z (Zaw a o)):ZeU F H a=Z (Zaw a o):=by unfold ZeU Zaw at *;rw[h]
theorem Zks(h:ZeU F H b=Z o):(H b=Z o/\te o=ZEN)\/F b=Z o:=by
 unfold ZeU at h;split at h
 ·rename_i φ e
  cases h;exact .inl ⟨e,rfl⟩
 ·exact .inr h
theorem Zvp(s:Zq F H)(h:F b=Z o):ZeU F H b=Z o:=by have h2:=s b o h;unfold ZeU;rw[h2];cases o<;>first | rfl | exact h
theorem Zqy{k:Nat}{x:Str}{M:List PyData->Option PyData}{e:Expr}{fa:HM.EF}(C:Callee X.prog X.w X.K X.mg X.base k x M)(hr:Z9 k X.A)(L:Zro X t params body scope names is)(ha:XE X e fa)(hg:Gl X x:=by rfl)(hdb:(x==("__debug__":Str))=ZEO:=by decide)
  (he:ZzC [e,.Lambda params body scope lpos] X.env=(ZEO,eval e X.env)::ZzC [.Lambda params body scope lpos] X.env:=by rfl) (he2:ZzC [.Lambda params body scope lpos] X.env=[(ZEO,eval (.Lambda params body scope lpos) X.env)]:=by rfl)
  (hpl:(backTo pos (ZzC [.Lambda params body scope lpos] X.env)).any (·.1)=ZEO:=by rfl):XE X (.Call (.Name x p) [e,.Lambda params body scope lpos] [] pos) (HM.Zic M t is fa):=by
 intro r d hd;unfold HM.Zic at hd;split at hd
 case h_2=>cases hd
 rename_i d1 hd1;split at hd
 case h_2=>cases hd
 rename_i cs hcs;split at hd
 case isFalse=>cases hd
 rename_i hnc;split at hd
 case h_2=>cases hd
 rename_i d' hM;split at hd
 case isFalse=>cases hd
 rename_i hnd;cases hd;obtain⟨fa',fd,ps,hl,FN,hm,hk,hb⟩:=C.ex;intro pins s σ H Q I ⟨F0,H0,F,at_,kk⟩;obtain⟨clos,hcl,hc1,hc2⟩:=ZfE (scope:=scope) (env:=X.env) λy hy hf=>I.ok.has _ (.inl (L.cells y hy hf));refine ZBm (Zhz I hg hm ?_ hdb);have lamPE:PE X (.Lambda params body scope lpos) λσ' H' Q'=>Tb H'/\∀q H2,Made X params body scope H' H2 q clos->Q' (.ref q) H2:=λpins' s' σ' H' Q' I' ⟨tb',k'⟩=>thn (Zt8 L I' tb' hcl) λu s2 ⟨q,H2,e1,I2,m⟩=>by subst e1; exact⟨.ref q,H2,I2,rfl,k' q H2 m⟩
 refine ZEG (h₀:=X.base) I.ok.mod.kin hk (thn (Zaa (ha r d1 hd1) (Zaa lamPE ZbJ he2) he pos pins s σ H (λvs H2=>∃v1 F1 H1 q,vs=[v1,.ref q]/\Ext F H F1 H1/\Rep X.K F1 d1 v1/\Made X params body scope H1 H2 q clos) I
  ⟨F0,H0,F,at_,λv F1 H1 x1 r1=>⟨at_.tbx x1,λq H2 m=>⟨v,F1,H1,q,rfl,x1,r1,m⟩⟩⟩) λus s2 ⟨vs,H2,I2,rv,v1,F1,H1,q,ev,x1,r1,m⟩=>⟨I2.kIn,?_⟩) he hpl
 subst ev;have at1:=at_.grow x1;have tb1:=at_.tbx x1;have nt1:=at_.ntx x1;generalize hCs:cellsOf clos=Cs;have hCm:∀a,a∈Cs↔∃y,clos.lookup y=Z a:=λa=>by rw[<-hCs]; exact Zl8
 have hCc:∀a∈Cs,∃y o v,X.env.cells.lookup y=Z a/\s2.heap.get? a=Z o/\o.data=.cell v/\H2 a=Z_:=λa ha=>by obtain⟨y,e⟩:=(hCm a).mp ha;have e1:=hc1 y a e;obtain⟨v,o,h1,h2⟩:=I2.cell y a e1;exact⟨y,o,v,e1,h1,h2,I2.freeC y a e1⟩
 generalize hG:(λa:Addr=>(s2.heap.get? a).map (Zaw a))=G;have hGo:∀{a:Addr} {o:Obj},s2.heap.get? a=Z o->G a=Z (Zaw a o):=λ{a o} e=>by rw[<-hG]; show ZBv _ _=_; rw[e]; rfl
 generalize hH3:Zhg Cs G H2=H3;have h3in:∀{a:Addr},a∈Cs->∃o v,H3 a=Z (Zaw a o)/\s2.heap.get? a=Z o/\o.data=.cell v:=λ{a} ha=>by obtain⟨y,o,v,_,g1,g2,_⟩:=hCc a ha;exact⟨o,v,by rw[<-hH3,ZeW ha]; exact hGo g1,g1,g2⟩
 have h3out:∀{a:Addr},a ∉ Cs->H3 a=H2 a:=λ{a} ha=>by rw[<-hH3,Zbh ha]
 have s23:Zq H2 H3:=λb o z=>by rw[h3out λhb=>by obtain⟨_,_,_,_,_,_,g⟩:=hCc b hb;rw[g]at z; cases z];exact z
 have cge:∀a∈Cs,X.s₀.heap.objs.size<=a:=λa ha=>by obtain⟨y,_,_,e1,_⟩:=hCc a ha;exact I.ok.cab y a (L.own y) e1
 have hok3:HOk X.prog X.w H3 s2.heap:=by rw[<-hH3];refine HOk.put I2.hok (λa ha=>by obtain⟨_,_,_,_,_,_,g⟩:=hCc a ha; exact g) λa ha u e=>?_;obtain⟨y,o,v,_,g1,g2,_⟩:=hCc a ha;rw[hGo g1]at e; cases e;exact⟨o,rfl,g1⟩
 have E2:=I2.env0;have cfr:∀b∈frs X.stack,b ∉ Cs:=λb hb hc=>by
  obtain⟨y,o,v,e1,g1,g2,_⟩:=hCc b hc;rcases ZzK.mp (I2.stkSub b hb)with z | z
  ·exact I2.cne y b e1 z
  ·obtain⟨_,o',ho',_⟩:=I.ok.funs.mem z
   exact absurd (ZzZ (ZzO ho') (cge b hc)) (ZBb _)
 have E3:ZeJ X.prog X.w X.K X.mg X.base X.A X.stack s2 H3:=⟨E2.frames,E2.mod,λb o z=>⟨(E2.bs b o z).1,by rw[h3out λhb=>absurd (ZzZ (ZzO z) (ZAn I.ok.bsz (cge b hb))) (ZBb _)];exact(E2.bs b o z).2⟩,E2.bsz,E2.funs,λb hb=>by rw[h3out (cfr b hb)]; exact E2.frf b hb,hok3,E2.bare⟩;have s12:Zq F1 H2:=λb o z=>m.hh.ntb (x1.sub b o z) (nt1 b o z);have s13:Zq F1 H3:=s12.trans s23;have ff:Zq F1 (ZeU F1 H3):=λb o z=>Zvp s13 z;have s33:Zq (ZeU F1 H3) H3:=λb o z=>by
  rcases Zks z with⟨w,_⟩ | w
  ·exact w
  ·exact s13 b o w
 have nt3:NoT (ZeU F1 H3):=λb o z=>by
  rcases Zks z with⟨w1,w2⟩ | w
  ·unfold ZeU at z
   split at z
   ·cases z; rfl
   ·exact nt1 b o z
  ·exact nt1 b o w
 have tb3:Tb H3:=m.tb.same s23;obtain⟨pm,ctv,c,oc,m1,m2,m3⟩:=m.ex;obtain⟨cl1,cl2⟩:=ZnJ hcs;have clo:Clo X.K (ZeU F1 H3) q params body scope names cs:=by
  refine⟨_,pm,ctv,c,oc,clos,Zih (s23 _ _ m1),Zih (s23 _ _ m2),m3,λy z a g1 g2=>I.ok.inj y z a (hc1 y a g1) (hc1 z a g2),hc2,λy a g=>?_,by rw[cl1,L.len],λj y dj g1 g2=>?_⟩
  ·obtain⟨o,v,w1,w2,w3⟩:=h3in ((hCm a).mpr ⟨y,g⟩)
   exact⟨o,v,Zih w1,w3⟩
  ·have hj:j<is.length:=by rw[L.len]; exact(ZzL.mp g1).1
   obtain⟨dj',g3,g4⟩:=cl2 j is[j] (ZzT hj);rw[g2]at g3;cases g3;obtain⟨hN,hkind⟩:=L.at_ j is[j] y (ZzT hj) g1;obtain⟨v,w1,w2⟩:=at1.plain g4;obtain⟨mm,_,hloc⟩:=I2.loc;obtain⟨u,ru,lk⟩:=hloc is[j] y v hN w1 (.inr (.inl hkind));have hfr:=hc2 _ (L.free y (Zz5 g1)) rfl;obtain⟨a,hal⟩:=ZAd.mp hfr;rcases lk with⟨k1,_⟩ | ⟨_,a',k1,o,k2,k3⟩
   ·rw[show X.env.kindOf y=Z .cell from hkind]at k1; cases k1
   ·rw[hc1 y a hal]at k1
    cases k1;obtain⟨o',v',z1,z2,z3⟩:=h3in ((hCm a).mpr ⟨y,hal⟩);rw[k2]at z2;cases z2;refine⟨a,o,u,v,hal,Zih z1,k3,ru,Rep.cutF (λb ob z _=>ff b ob z) w2 20 ?_⟩;exact ZzR.mp hnc dj (Zz5 g2)
 have fv:=L.good _ _ _ clo;have hlen:=hl _ _ hM;refine ZDH (ZBp (FN.run X.A X.stack s2 H3 ⟨us,[]⟩ us [v1,.ref q] (λv H4=>∃F4,Ext (ZeU F1 H3) H3 F4 H4/\Rep X.K F4 d v) E0 hr E3 (by
  have:=hb s2 us I2.kIn (by rw[ZAe,<-rv.length]; exact hlen)
  rwa [ZAe]at this) rv ⟨ZeU F1 H3,_,d,hlen,s33,tb3,nt3,.cons (r1.mono ff) (.one (.fn fv)),hM,λv F4 H4 x4 q4=>⟨F4,x4,q4⟩⟩) λrs s4 hq=>?_)
 cases rs with
 | error e=>exact ZAp hq
 | ok fl =>
  cases fl with
  | next=>exact ZAp hq
  | brk=>exact ZAp hq
  | cont=>exact ZAp hq
  | ret u =>
   obtain⟨v,H4,os,bare,un,hok4,ru,F4,x4,q4⟩:=hq;have c4:∀{a:Addr},a∈Cs->∃o v,H4 a=Z (Zaw a o)/\s2.heap.get? a=Z o/\s4.heap.get? a=Z o/\o.data=.cell v:=λ{a} ha=>by obtain⟨o,v,w1,w2,w3⟩:=h3in ha;have w4:H4 a=Z (Zaw a o):=x4.hh.ntb w1 rfl;exact⟨o,v,w4,w2,ZbS (hok4 a _ w4),w3⟩
   have out4:∀{b:Addr} {o:HO},H2 b=Z o->b ∉ Cs:=λ{b o} z hb=>by obtain⟨_,_,_,_,_,_,g⟩:=hCc b hb;rw[g]at z; cases z
   generalize hF5:(λb:Addr=>match F4 b with | some o=>if te o=ZEN then F1 b else Z o | none=>Z_)=F5;have f5:∀{b:Addr} {o:HO},F5 b=Z o->(F4 b=Z o/\te o=ZEO)\/F1 b=Z o:=λ{b o} z=>by
    rw[<-hF5]at z;dsimp only at z;split at z
    ·rename_i o' w
     split at z
     ·exact .inr z
     ·rename_i n
      cases z;exact .inl ⟨w,by simpa using n⟩
    ·cases z
   have f5a:∀{b:Addr} {o:HO},F4 b=Z o->te o=ZEO->F5 b=Z o:=λ{b o} z n=>by rw[<-hF5]; dsimp only; rw[z]; dsimp only; rw[if_neg (by rw[n]; simp)]
   have f5b:∀{b:Addr} {o:HO},F1 b=Z o->F5 b=Z o:=λ{b o} z=>by
    have w:=x4.ff b o (ff b o z)
    by_cases n:te o=ZEN
    ·rw[<-hF5]; dsimp only; rw[w]; dsimp only; rw[if_pos n]; exact z
    ·exact f5a w (by simpa using n)
   have sub5:Zq F5 (Za1 Cs H4):=λb o z=>by
    rcases f5 z with⟨w,n⟩ | w
    ·rw[Zao λhb=>by
      obtain⟨_,_,g,_⟩:=c4 hb;rw[x4.sub b o w]at g; cases g; cases n]
     exact x4.sub b o w
    ·rw[Zao (out4 (s12 b o w))]
     exact x4.sub b o (x4.ff b o (ff b o w))
   refine I2.after ⟨v,Za1 Cs H4,os,bare,⟨λb o e n hb hx=>?_,λb o e n hb hx=>?_,λb o e n hx=>?_,un.there,λb xs e=>?_,λb o w e=>?_,λb pp e=>?_⟩,HOk.cut hok4 (λa ha o e=>?_),ru,kk v F5 (Za1 Cs H4) (x1.trans ⟨λb o z=>f5b z,λb o z=>?_,sub5,λb o z=>?_,λtb=>?_,λ_ b o z=>?_⟩) ((Rep.cutF (λb o z n=>f5a z n) q4 20 hnd).up)⟩
   ·by_cases hc:b∈Cs
    ·obtain⟨o',_,_,w2,w3,_⟩:=c4 hc
     rw[e]at w2; cases w2; exact w3
    ·exact un.keep b o e (by rw[h3out hc]; exact n) hb hx
   ·exact un.slot b o e (by rw[h3out (cfr b hb)]; exact n) hb hx
   ·by_cases hc:b∈Cs
    ·exact Zhx hc
    ·rw[Zao hc]; exact un.free b o e (by rw[h3out hc]; exact n) hx
   ·rw[Zao (out4 e)]; exact un.tups b xs (s23 _ _ e)
   ·rw[Zao (out4 e)]; exact un.frzs b o w (s23 _ _ e)
   ·rw[Zao (out4 e)]; exact un.tbls b pp (s23 _ _ e)
   ·obtain⟨o',_,g,_⟩:=c4 ha
    rw[g]at e; cases e; rfl
   ·-- tracked things stay
    have z2:=m.hh b o z;have key:∀{u:HO},H2 b=Z u->Zc5 (Za1 Cs H4) b u:=λ{u} w=>(x4.hh b u (s23 b u w)).cong (Zao (out4 w));cases o<;>first | exact key z2 | (obtain⟨pp,w⟩:=z2; exact(show ∃ps',_ from key w))
   ·rcases f5 z with⟨w,n⟩ | w
    ·rcases x4.new b o w with y | y
     ·rcases Zks y with⟨_,y2⟩ | y2
      ·rw[n]at y2; cases y2
      ·exact .inl y2
     ·refine .inr ?_
      have hcb:b ∉ Cs:=λhb=>by
       obtain⟨o',_,g,_⟩:=h3in hb;rcases y with y | ⟨xs,_,y⟩
       ·rw[g]at y; cases y
       ·rw[g]at y; cases y
      rcases y with y | ⟨xs,y1,y2⟩
      ·rw[h3out hcb]at y
       exact .inl (m.hh.free y)
      ·rw[h3out hcb]at y2
       cases w1:H1 b with
       | none=>exact .inl w1
       | some u =>
        have:=m.hh.back w1 y2 λ_ q=>by cases q
        subst this;exact .inr ⟨xs,y1,w1⟩
    ·exact .inl w
   ·refine(x4.tab tb3).cut hok4 λa ha=>?_
    obtain⟨o,v',g1,_,_,g4⟩:=c4 ha;exact⟨o,v',g1,g4⟩
   ·rcases f5 z with⟨w,_⟩ | w
    ·exact x4.nts nt3 b o w
    ·exact nt1 b o w
end
end HP
namespace HP
open PySem
open Sem (wp)
open AutoSeq1 (wpAny_loadPart')
variable{it:Addr}{A:Around}{items:Array Value}{i:Nat}{prog:Program}{Q:Value->Shared->Prop}{w:World}
section
variable{prog:Program}{w:World}{A:Around}{E:Value->Shared->Prop}{s:Shared}
theorem Zuf{t:Addr}{x:Value}(hit:s.heap.IsTupleIter it t i)(ht:s.heap.IsTuple t items)(hx:items[i]?=Z x)(hQ:∀h',h'.IsTupleIter it t (i+1)->ZA6 it s.heap h'->Q x { s with heap:=h' }):wpAny (model prog w) A (ZBX (.ref it)) Q E s:=by obtain⟨⟨o,ho,hc,hd⟩,⟨ot,hot,_,nt,hdt⟩⟩:=And.intro (id hit) ht;unfold ZBX;refine Zzv (wpAny_callSpecial?_slot (name:=Zz1 "__next__") hit.typeIs F.slot_tuple_iterator_next (ZAB F.slot_tuple_iterator_next hit.typeIs F.entry_tuple_iterator_next ?_ (F.args_tuple_iterator_next_1 _)));show wpAny _ _ (field (.ref it) 0 >>= _) _ _ s; refine Zzv (ZCt ho hd (x:=.ref t) rfl ?_); show wpAny _ _ (if(ZAh t==ZAx)=ZEN then _ else _) _ _ s; rw[if_neg (λz=>by cases z)];show wpAny _ _ (field (.ref it) 1 >>= _) _ _ s; refine Zzv (ZCt ho hd (x:=.int i 0) rfl ?_); show wpAny _ _ (seqItems? (.ref t) >>= _) _ _ s; refine Zzv (ZCL hot hdt ?_); simp only[ZBf,hx];exact Zzv (ZBY ho hd (by simp) (Zzz ⟨x,rfl,Zzz (hQ _ ⟨_,ZAE _ ho (ZCj (ZAM hd _)),(ZCT ..).trans hc,by rw[ZAM hd]; simp[rawInt]⟩ (ZAz ..))⟩))
theorem ZvB{t:Addr}(hh:A.handled=Z_)(hit:s.heap.IsTupleIter it t i)(ht:s.heap.IsTuple t items)(hx:items[i]?=Z_)(hE:∀h' e,Heap.ExtBut it s.heap h'->(∃o,h'.get? e=Z o/\o.cls=.type "StopIteration")->E (.ref e) { s with heap:=h' }):wpAny (model prog w) A (ZBX (.ref it)) Q E s:=by
 obtain⟨⟨o,ho,hc,hd⟩,⟨ot,hot,_,nt,hdt⟩⟩:=And.intro (id hit) ht;unfold ZBX;refine Zzv (wpAny_callSpecial?_slot (name:=Zz1 "__next__") hit.typeIs F.slot_tuple_iterator_next (ZAB F.slot_tuple_iterator_next hit.typeIs F.entry_tuple_iterator_next ?_ (F.args_tuple_iterator_next_1 _)));show wpAny _ _ (field (.ref it) 0 >>= _) _ _ s; refine Zzv (ZCt ho hd (x:=.ref t) rfl ?_); show wpAny _ _ (if(ZAh t==ZAx)=ZEN then _ else _) _ _ s; rw[if_neg (λz=>by cases z)];show wpAny _ _ (field (.ref it) 1 >>= _) _ _ s; refine Zzv (ZCt ho hd (x:=.int i 0) rfl ?_); show wpAny _ _ (seqItems? (.ref t) >>= _) _ _ s; refine Zzv (ZCL hot hdt ?_); simp only[ZBf,hx];refine Zzv (ZCp (Zzv (ZBY ho hd (by simp) ?_))); show wpAny _ _ (newExc (.type "StopIteration") [] >>= _) _ _ _; refine Zzv ?_; simp only[newExc,newTuple];refine Zzv (ZAa (Zzv (m:=ZCk _ _) (ZDo (a:=ZAx) (by first | rfl | (simp only[ZCk]; rfl)) (ZAa ?_ (by size_fits)))) (by size_fits))
 simp only[raiseNew]; refine Zzv (wpAny_handled ?_); first | rw[show A.in1.handled=Z_ from hh] | rw[hh]
 exact Zzv (Zzz (wpAny_throw (hE _ _ (((ZAz ..).extBut.push _).push _) ⟨_,ZzP _ rfl,rfl⟩)))
end
theorem Zml(hh:A.handled=Z_)(it t:Addr)(hne:t≠it)(items:Array Value):Draws prog w A it [it,t] items.size (λi v=>items[i]?=Z v) (λi h=>h.IsTupleIter it t i/\h.IsTuple t items) where
 live:=λ_ _ st=>let ⟨o,ho,_⟩:=st.1; ⟨o,ho⟩
 frame:=λ_ _ _ ⟨⟨o,ho,r⟩,o2,ho2,r2⟩ hk=>⟨⟨o,hk it (by simp) o ho,r⟩,o2,hk t (by simp) o2 ho2,r2⟩
 item:=λi s Q E hi st hQ=>Zuf st.1 st.2 (x:=items[i]) (by simp[hi]) λh' a b=>hQ _ h' s.toks (by simp[hi]) ⟨a,st.2.extBut b.extBut hne⟩ b
 done:=λs Q E st hE=>ZvB hh st.1 st.2 (by simp) hE
theorem ZpH(l:Addr)(items:Array Value)(n:Nat)(dct:Option Addr)(sl:Array (Option Value)):Meets (Builtin.«enumerate.__new__» ⟨[.type "enumerate",.ref l],[]⟩) (λ_ R s=>s.heap.get? l=Z { cls:=.type "tuple",dict:=dct,data:=.seq items n,slots:=sl } /\
  R (.ok (.ret (.ref (s.heap.push { cls:=.type "tuple_iterator",data:=.fields #[.ref l,.int 0 0] }).objs.size))) { s with heap:=(s.heap.push { cls:=.type "tuple_iterator",data:=.fields #[.ref l,.int 0 0] }).push { cls:=.type "enumerate",data:=.fields #[.none,.bool ZEO,.ref s.heap.objs.size,rawInt 0,.none,.none] } }) :=
 .of_wp λprog w A R s h=>by
  cases s with
  | mk hp g d tk os =>
  obtain⟨hl,h⟩:=h; have hsub:=sub_enumerate;have hL:Heap.IsTuple (Shared.heap ⟨hp,g,d,tk,os⟩) l items:=⟨_,hl,rfl,n,rfl⟩
  wp_walk using wpAny_loadPart' hl
  refine wpAny_stack_any λst=>Zzz ?_;split
  ·rename_i c _ _ _ _ _
   cases(c==ZBU "enumerate")<;>(wp_walk using wpAny_loadPart' hl,ZDq hL; exact⟨_,rfl,h⟩)
  ·wp_walk using wpAny_loadPart' hl,ZDq hL; exact⟨_,rfl,h⟩
theorem Zq6{E:Value->Shared->Prop}{s:Shared}{l:Addr}(hL:s.heap.IsTuple l items)
  (h:∀h',IsEnum h' (s.heap.objs.size+1) s.heap.objs.size 0 .none->h'.IsTupleIter s.heap.objs.size l 0->h'.objs.size=s.heap.objs.size+2->(∀b o,s.heap.get? b=Z o->h'.get? b=Z o)->Q (.ref (s.heap.objs.size+1)) { s with heap:=h' }):wpAny (model prog w) A (call (.type "enumerate") [.ref l]) Q E s:=by
 obtain⟨⟨c,dct,dt,sl⟩,hl,hc,n,hd⟩:=hL; replace hc:c=.type "tuple":=hc; replace hd:dt=.seq items n:=hd; subst hc hd;refine callType_new F.called_enumerate (by decide) (F.typeCall_enumerate_1 _) (F.newCall_enumerate_1 _) (λobj=>F.args_object_init_2 obj _) F.entry_enumerate_new (ZpH l items n dct sl) ⟨hl,?_⟩;generalize hG:s.heap.push { cls:=.type "tuple_iterator",data:=.fields #[.ref l,.int 0 0] }=g;have hz:g.objs.size=s.heap.objs.size+1:=by rw[<-hG]; exact ZBE ..
 show _/\_;rw[hz];have he:IsEnum (g.push { cls:=.type "enumerate",data:=.fields #[.none,.bool ZEO,.ref s.heap.objs.size,rawInt 0,.none,.none] }) (s.heap.objs.size+1) s.heap.objs.size 0 .none:=by rw[<-hz]; exact ZzP g rfl
 exact⟨⟨_,he,rfl⟩,h _ he ⟨_,ZzA _ (by rw[<-hG]; exact ZzP _ rfl),rfl,rfl⟩ (by rw[ZBE,hz]) λb o x=>ZzA _ (by rw[<-hG]; exact ZzA _ x)⟩
end HP
namespace HP
open PySem PySem.Spec PyProof.Rows L2
variable{a c f:Addr}{A:Around}{fd:FuncData}{base:Heap}{H:Hp}{tabs:List (Addr × Addr)}{outer:List Env}{N:List Str}{P:Program}{K:Zzx}{s:Shared}{st:Stmt}{qual x:Str}{mg:Str->Option Value}{w:World}
structure Zrg(K:Zzx)(x qual:Str)(st:Stmt)(f:Addr)(fd:FuncData)(c:Addr):Prop where
 ex:∃(oc:Value) (od:Option Addr) (kV doc pm:Value) (an:Option Addr) (ct:Value) (osl:Array (Option Value)),
  fd=ZAQ x qual (Zb9 st) (ZaA st) (Zh st) .none kV doc pm an (.ref c) ct/\K.lookup f=Z ⟨oc,od,.func fd,osl⟩/\ZBD K (.ref c) qual=ZEN
 kp:ZAP K (.ref f)=ZEN
theorem Zu6{oc:Value}{od an:Option Addr}{osl:Array (Option Value)}{kV doc pm ct:Value}(l:K.lookup f=Z ⟨oc,od,.func (ZAQ x qual (Zb9 st) (ZaA st) (Zh st) .none kV doc pm an (.ref c) ct),osl⟩)
  (h:ZBD K (.ref c) qual=ZEN) (k:ZAP K (.ref f)=ZEN):Zrg K x qual st f (ZAQ x qual (Zb9 st) (ZaA st) (Zh st) .none kV doc pm an (.ref c) ct) c:=⟨⟨oc,od,kV,doc,pm,an,ct,osl,rfl,l,h⟩,k⟩
section
variable[FX]
theorem Zrr{k:Nat}{ps:List Str}{g:HM.SF}(Fn:Zrg K x qual st f fd c)(S:Zt N ps (Zh st))(hm:mg x=Z (.ref f))(hb:Binds K fd ps [])
  (body:∀(A:Around) (outer:List Env) (s:Shared) (H:Hp) (E:XK),Z9 k (A.deeper (envOfC qual (Zh st) s.heap.objs.size f (.ref c)))->XSs (Zd0 CX0 P w K mg base N qual (Zh st) f (.ref c) A outer s H E).nox (ZaA st) g) :
  Callee P w K mg base (k+1) x (HM.fnOf ps.length N.length g):=by
 have hpl:ps.length<=N.length:=by have:=congrArg ZAg S.pre; rw[ZAN]at this; omega
 refine⟨f,fd,ps,λds d h=>?_,?_,hm,Fn.kp,hb⟩
 ·unfold HM.fnOf at h
  split at h
  ·assumption
  ·cases h
 ·obtain⟨oc,od,kV,doc,pm,an,ct,osl,rfl,lk,hcd⟩:=Fn.ex
  refine Zrk lk hcd S (λvs H Q E h=>by obtain⟨_,_,_,h,_⟩:=h; exact h) λA outer s H vs Q E hr h=>?_;obtain⟨F,ds,d,hl,sub,tb,nt,q,hM,kk⟩:=h;unfold HM.fnOf at hM;split at hM
  ·rename_i hds
   have a0:=ZeI (N:=N) sub tb nt q (by omega);split at hM
   ·rename_i r hr'
    cases hM;exact⟨_,(body A outer s H E hr _ _ hr').nox,F,H,F,a0,λσ F' H' a'=>kk .non F' H' a'.ext .non⟩
   ·rename_i d' hr'
    cases hM;exact⟨_,(body A outer s H E hr _ _ hr').nox,F,H,F,a0,λv F' H' x q=>kk v F' H' x q⟩
   ·cases hM
  ·cases hM
def ZqP(N:List Str)(sc scope:Scope)(names:List Str)(is:List Nat):Bool :=
 decide (is.length=names.length)&&(is.zip names).all (λq=>decide (N[q.1]?=Z q.2)&&decide (sc.names.lookup q.2=Z .cell))&&scope.names.all (λy=>decide (y.2≠.free)||decide (sc.names.lookup y.1=Z .cell))&&names.all λx=>decide ((x,ZBO)∈scope.names)
theorem Zuc{X:Cx}{t:Nat}{params:Arguments}{body:Expr}{scope sc:Scope}{names:List Str}{is:List Nat}{T:Addr}{q:Str}(ck:ZqP N sc scope names is=ZEN)(h1:ZA9 X.K c T=ZEN)(h2:(T,q)∈FX.tl)(h3:∀q',(T,q')∈FX.tl->q'=q)(bm:BMod X.base X.mg)
  (good:∀F p cs,Clo X.K F p params body scope names cs->FX.fv t cs F p) (hN:X.N=N:=by rfl) (hs:X.env.scope=sc:=by rfl) (hc:X.env.code=.ref c:=by rfl) (hq:X.env.qual ++ "<lambda>" = q:=by rfl) (hd:defaultsOf params X.env=([],[]):=by rfl) (ho:∀x,X.fn x=ZEN:=by exact λ_=>rfl) :
  Zro X t params body scope names is:=by
 unfold ZqP at ck;rw[ZzW,ZzW,ZzW]at ck;obtain⟨⟨⟨k1,k2⟩,k3⟩,k4⟩:=ck;refine⟨⟨c,T,hc,h1,by rw[hq]; exact h2,λq' z=>by rw[hq]; exact h3 q' z⟩,bm,hd,of_decide_eq_true k1,λj i x e1 e2=>?_,λy hy hf=>?_,λx hx=>?_,ho,good⟩
 ·have:(i,x)∈is.zip names:=Zz5 (i:=j) (by rw[List.getElem?_zip_eq_some]; exact⟨e1,e2⟩)
  have:=ZzR.mp k2 _ this;rw[ZzW]at this;rw[hN,hs];exact⟨of_decide_eq_true this.1,of_decide_eq_true this.2⟩
 ·have:=ZzR.mp k3 y hy
  rw[ZBt]at this;rw[hs];rcases this with z | z
  ·exact absurd hf (of_decide_eq_true z)
  ·exact of_decide_eq_true z
 ·exact of_decide_eq_true (ZzR.mp k4 x hx)
theorem ZpX(Fn:Fun K x qual st f fd)(hm:mg x=Z (.ref f))(ha:mg x=Z (.ref a))(e0:ZeJ P w K mg base A outer s H):ZEI a s.heap:=by rw[hm]at ha;cases ha;obtain⟨oc,od,kV,doc,pm,an,cdv,ct,osl,rfl,lk,hcd⟩:=Fn.ex;have KX:K.In s.heap:=e0.mod.kin.keeps λb o e=>(e0.bs b o e).1;exact⟨_,_,_,_,KX _ _ lk⟩
theorem Zoc{k:Nat}{M:List PyData->Option PyData}(C:Callee P w K mg base k x M)(ha:mg x=Z (.ref a)){F:Hp}(e0:ZeJ P w K mg base A outer s H)(sub:Zq F H)
  {us:List Value} {vs:List V} {ds:List PyData} {d:PyData} {Q:VK} (hr:Z9 k A) (tb:Tb H) (nt:NoT F) (rv:Vals vs us) (rs:Zs K F ds vs) (hM:M ds=Z d) (kk:∀v F' H',Ext F H F' H'->Rep K F' d v->Q v H') :
  codeAny (model P w) A (.call (.ref a) ⟨us,[]⟩) (CR CX0 outer P w H s Q E0) s:=by
 obtain⟨f,fd,ps,hl,FN,hm,hk,hb⟩:=C.ex;rw[hm]at ha;cases ha;have KX:K.In s.heap:=e0.mod.kin.keeps λb o e=>(e0.bs b o e).1;have hlen:vs.length=ps.length:=by rw[<-rs.1]; exact hl _ _ hM
 refine FN.run A outer s H ⟨us,[]⟩ us vs Q E0 hr e0 ?_ rv ⟨F,ds,d,hlen,sub,tb,nt,rs,hM,kk⟩;have:=hb s us KX (by rw[ZAe,<-rv.length]; exact hlen)
 rwa [ZAe]at this
end
def Zm1(tabs:List Addr)(H:Hp):Prop:=(∀b,H b=Z_\/(∃o xs,H b=Z (.frz o (.lst xs)))\/H b=Z (.tbl #[]))/\∀T∈tabs,H T=Z (.tbl #[])
theorem ZsM{mb:Str->Option Value}{k:Nat}{fa:Addr}{sp:Sp}{s₁:Shared}{vs:List Value}{ns:List Int}
  (hT:∀q∈tabs,ZA9 K q.1 q.2=ZEN/\K.lookup q.2=Z_/\s₁.heap.get? q.2=Z (ZCl #[]))
  (KX:K.In s₁.heap) (hns:s₁.heap.Ns ZAb mg) (hb:s₁.heap.Ns ZDG mb) (hbb:∀x:Str,x ≠ "__name__"->mb x=ZAy x) (hlim:s₁.heap.NoLimit) (hg:s₁.gens=#[])
  (ha:s₁.heap.get? a=Z { cls:=.type "list",data:=.seq vs.toArray }) (hi:IntsAre vs ns) (hl:ns.length<=sizeLine) (hr:Z9 k callerA)
  (hbm:PyProof.Rows.BMain s₁.heap mg) (F:∀base:Heap,K.In base->base.Ns ZAb mg->BMod base mg->ZcY P w K mg base CX0 k fa fd [x] sp) (hbind:∀(s:Shared) (u:Value),BindsTo s fd ⟨[u],[]⟩ [(x,u)])
  (hsp:∀H:Hp,Zm1 (tabs.map (·.2)) H->SqL K H a (ns.map V.int)->sp [.ref a] H (λv _=>v=.bl ZEN) λ_ _ _=>False) :
  codeAny (model P w) callerA (.call (.ref fa) ⟨[.ref a],[]⟩) (λr s'=>r=.ok (.ret (.bool ZEN))/\OldK s₁.heap s'.heap/\s'.os=s₁.os/\AllBare s'.gens) s₁:=by
 have rv:=Zl7 hi;have lenV:=hi.length;have tne:∀q∈tabs,q.2≠a:=λq hq z=>by have:=(hT q hq).2.2;rw[z,ha]at this; cases this
 have core:∀oS:Option HO,(oS=Z_\/∃o xs,oS=Z (.frz o (.lst xs)))->(∀H:Hp,H a=oS->SqL K H a (ns.map V.int))->(∀H:Hp,∀u,oS=Z u->Z4 P w H s₁.heap a u)->(oS≠Z_->K.lookup a=Z_) ->
   codeAny (model P w) callerA (.call (.ref fa) ⟨[.ref a],[]⟩) (λr s'=>r=.ok (.ret (.bool ZEN))/\OldK s₁.heap s'.heap/\s'.os=s₁.os/\AllBare s'.gens) s₁:=by
  intro oS hO hS hok0 hK;generalize hH:(λb:Addr=>if b=a then oS else if b∈tabs.map (·.2)then Z (HO.tbl #[])else Z_)=H;have Ha:H a=oS:=by rw[<-hH]; exact if_pos rfl
  have Ht:∀T∈tabs.map (·.2),H T=Z (.tbl #[]):=λT hT'=>by obtain⟨q,hq,e⟩:=ZzI.mp hT';rw[<-hH];show(if T=a then oS else if T∈tabs.map (·.2)then Z (HO.tbl #[])else Z_)=_;rw[if_neg (by rw[<-e]; exact tne q hq),if_pos hT']
  have Hc:∀b u,H b=Z u->(b=a/\oS=Z u)\/(b∈tabs.map (·.2)/\u=.tbl #[]):=λb u e=>by
   rw[<-hH]at e;dsimp only at e;split at e
   ·rename_i h; exact .inl ⟨h,e⟩
   ·split at e
    ·rename_i h; cases e; exact .inr ⟨h,rfl⟩
    ·cases e
  have tget:∀T∈tabs.map (·.2),s₁.heap.get? T=Z (ZCl #[])/\K.lookup T=Z_/\∃c,ZA9 K c T=ZEN:=λT hT'=>by obtain⟨q,hq,e⟩:=ZzI.mp hT';subst e;exact⟨(hT q hq).2.2,(hT q hq).2.1,q.1,(hT q hq).1⟩
  have hok:HOk P w H s₁.heap:=λb u e=>by
   rcases Hc b u e with⟨rfl,e'⟩ | ⟨h,rfl⟩
   ·exact hok0 H u e'
   ·exact(tget b h).1
  have base_of:∀{b:Addr} {o:Obj},s₁.heap.get? b=Z o->H b=Z_->(Zhd s₁.heap H).get? b=Z o:=λe n=>Zun e n;have noA:∀{b:Addr} {o:Obj} {es:Array DictEntry} {ep:Nat},s₁.heap.get? b=Z o->o.data=.dict es ep->H b=Z_:=λ{b o es ep} e d=>by
   cases q:H b with
   | none=>rfl
   | some u =>
    rcases Hc b u q with⟨rfl,_⟩ | ⟨h,_⟩
    ·rw[ha]at e; cases e
     have d':Data.seq vs.toArray _=Data.dict es ep:=d;cases d'
    ·rw[(tget b h).1]at e; cases e; cases d
  have nsK:∀{b:Addr} {m:Str->Option Value},s₁.heap.Ns b m->(Zhd s₁.heap H).Ns b m:=λ{b m} ⟨o,es,ep,e,d,r⟩=>⟨o,es,ep,base_of e (noA e d),d,r⟩;have hKb:K.In (Zhd s₁.heap H):=λb o e=>base_of (KX b o e) (by
   cases q:H b with
   | none=>rfl
   | some u =>
    rcases Hc b u q with⟨rfl,e'⟩ | ⟨h,_⟩
    ·rw[hK (by rw[e']; simp)]at e; cases e
    ·rw[(tget b h).2.1]at e; cases e)
  have hM:Mod K mg (Zhd s₁.heap H):=⟨hKb,nsK hns,⟨mb,nsK hb,hbb⟩,let ⟨mc,h1,h2⟩:=hlim; ⟨mc,nsK h1,h2⟩⟩;have e0:ZeJ P w K mg (Zhd s₁.heap H) callerA [] s₁ H:=⟨rfl,hM,λb o e=>Zvv e,ZDb (Zsr _ _),trivial,λb hb=>absurd (show b∈([]:List Addr) from hb) (by simp),hok,.of_eq hg⟩;have hOT:Zm1 (tabs.map (·.2)) H:=⟨λb=>by
   cases q:H b with
   | none=>exact .inl rfl
   | some u =>
    rcases Hc b u q with⟨_,e'⟩ | ⟨_,rfl⟩
    ·rcases hO with z | ⟨o,xs,z⟩
     ·rw[z]at e'; cases e'
     ·rw[z]at e'; cases e'; exact .inr (.inl ⟨o,xs,rfl⟩)
    ·exact .inr (.inr rfl),Ht⟩
  have hBM:BMod (Zhd s₁.heap H) mg:=by
   obtain⟨bm,ob,b1,b2,b3,b4,b5,b6⟩:=hbm;refine⟨bm,ob,b1,b2,λz=>?_,base_of b3 ?_,b4,b5,b6⟩
   ·obtain⟨o,es,ep,e,d,_⟩:=hns
    rw[z,e]at b3; cases b3; rw[b6]at d; cases d
   ·cases q:H bm with
    | none=>rfl
    | some u =>
     rcases Hc bm u q with⟨z,_⟩ | ⟨h,_⟩
     ·rw[z,ha]at b3; cases b3; exact absurd (show(ZBU "list":Value)=.type "module" from b4) (by decide)
     ·rw[(tget bm h).1]at b3; cases b3; cases b4
  refine ZBp ((F _ hKb (nsK hns) hBM).run callerA [] s₁ H ⟨[.ref a],[]⟩ [.ref a] [.ref a] _ _ hr e0 (hbind s₁ (.ref a)) (.cons rfl .nil) (hsp H hOT (hS H Ha))) λr s' h=>?_;cases r with
  | error e=>exact ZAp h
  | ok fl =>
   cases fl with
   | next=>exact ZAp h
   | brk=>exact ZAp h
   | cont=>exact ZAp h
   | ret u =>
    obtain⟨v,H',os,bare,un,hok',r',q⟩:=h;have q':v=.bl ZEN:=q;subst q';obtain rfl:u=Value.bool ZEN:=r';refine⟨rfl,⟨λb o e=>?_,λb o e=>un.there b o e (by simp)⟩,os,bare⟩;cases q:H b with
    | none=>exact .inl (un.keep b o e q (by intro z; exact absurd (show b∈([]:List Addr) from z) (by simp)) (by simp))
    | some u =>
     rcases Hc b u q with⟨rfl,e'⟩ | ⟨h,rfl⟩
     ·rcases hO with z | ⟨ob,xs,z⟩
      ·rw[z]at e'; cases e'
      ·rw[z]at e'; cases e'
       have z2:=un.frzs _ ob _ q;obtain⟨e1,_⟩:=hok _ _ q;obtain⟨e2,_⟩:=hok' _ _ z2;rw[e]at e1; cases e1;exact .inl e2
     ·obtain⟨g1,_,c,g3⟩:=tget b h
      rw[g1]at e; cases e;obtain⟨more,z2⟩:=un.tbls b _ q;have z3:s'.heap.get? b=Z { cls:=.none,data:=.fields (#[]++more) }:=hok' b _ z2;refine .inr (.inl ⟨((ZEC KX g3).tab g1).isCodeTable,rfl,#[],more,rfl,z3⟩)
 cases hk:K.lookup a with
 | some o=>have e:=KX a o hk;rw[ha]at e;cases e;exact core Z_ (.inl rfl) (λH _=>.inr ⟨_,vs.toArray,_,hk,rfl,rfl,rfl,by rw[ZzN,lenV]; exact hl,by simpa using rv⟩) (λH u z=>by cases z) λz=>absurd rfl z
 | none=>refine core (Z (.frz { cls:=.type "list",data:=.seq vs.toArray } (.lst (ns.map V.int)))) (.inr ⟨_,_,rfl⟩) (λH e=>.inl (.inr ⟨_,e⟩)) (λH u z=>?_) λ_=>hk;cases z;exact⟨ha,by rw[Zzw]; exact hl,vs,_,rv,ha⟩
theorem Zud{l:ZEf}{n k:Nat}{q:Program}{loose:List Str}{XP:(Str->Option Value)->Heap->Prop}{YP:World->Heap->Prop}{d:DefRec}{K:Params->Zzx}{sp:World->Sp}
  (hn:l.most=Z n) (hn2:n<=sizeLine) (hdf:d.params.defaults=[]) (hr:Z9 k callerA)
  (hY:∀(w:World) (h:Heap),YP w h->(K w.params).In h) (hYT:∀(w:World) (h:Heap),YP w h->∀q∈tabs,h.get? q.2=Z (ZCl #[]))
  (hT:∀(w:World),∀q∈tabs,ZA9 (K w.params) q.1 q.2=ZEN/\(K w.params).lookup q.2=Z_)
  (F:∀(w:World) (mg:Str->Option Value) (fa:Addr) (h:Heap),(K w.params).In h->h.Ns ZAb mg->mg d.name=Z (.ref fa) ->
   ∃fd:FuncData,(∀(s:Shared) (u:Value),BindsTo s fd ⟨[u],[]⟩ [(x,u)]) /\
    ∀base:Heap,(K w.params).In base->base.Ns ZAb mg->BMod base mg->ZcY l.prog w (K w.params) mg base CX0 k fa fd [x] (sp w))
  (hsp:∀(w:World) (H:Hp) (a:Addr) (ns:List Int),ns.length<=n->Zm1 (tabs.map (·.2)) H->SqL (K w.params) H a (ns.map V.int)->sp w [.ref a] H (λv _=>v=.bl ZEN) λ_ _ _=>False) :
  PySem.W.WalkO q loose XP YP l.row.toRowW d [] (λf vs=>PySem.call f vs):=by
 refine Att.ZpR hn hdf λw s₀ s₁ mg mb fa o pm cd doc a vs ns G Y ho hd hcd hmg hobj hints hlen hg=>?_;have KX:=hY w _ Y;obtain⟨fd,hb,hF⟩:=F w mg fa _ KX G.T.g hmg;exact ZsM (λq hq=>⟨(hT w q hq).1,(hT w q hq).2,hYT w _ Y q hq⟩) KX G.T.g G.T.b G.T.builtins G.T.nolimit hg hobj hints (ZAn hlen hn2) hr G.T.bmain hF hb λH hO hS=>hsp w H a ns hlen hO hS
end HP
namespace HP
open PySem PySem.Spec PyProof.Rows L2
def ZxU:Stmt->Option (Arguments × Expr × Scope)
 | .Return (Z (.Call _ [_,.Lambda a b s _] _ _)) _=>Z (a,b,s)
 | .Assign _ (.Call _ [_,.Lambda a b s _] _ _) _=>Z (a,b,s)
 | .Return (Z (.Call _ [_] [⟨_,.Lambda a b s _,_⟩] _)) _=>Z (a,b,s)
 | _=>Z_
def ZlC(st:Stmt):Arguments × Expr × Scope:=((ZaA st).findSome? ZxU).getD default
abbrev Zv5(st:Stmt):Arguments:=(ZlC st).1
abbrev Zue(st:Stmt):Expr:=(ZlC st).2.1
abbrev ZlW(st:Stmt):Scope:=(ZlC st).2.2
theorem Zxy{P:Program}{w:World}{K:Zzx}{mg:Str->Option Value}{base:Heap}{A:Around}{outer:List Env}{s:Shared}{F H:Hp}{p:Addr}{params:Arguments}{body:Expr}{scope:Scope}{names:List Str}{cs:List PyData}
  (C:Clo K F p params body scope names cs) (e0:ZeJ P w K mg base A outer s H) (sub:Zq F H):ZEI p s.heap:=by
 obtain⟨qual,pm,ctv,c,oc,clos,h1,_⟩:=C.ex;exact⟨_,_,_,_,ZbS (e0.hok p _ (sub _ _ h1))⟩
section
variable[FX]
theorem Zxb{K:Zzx}{M:List PyData->Option PyData}{H:Hp}{a:Addr}{ns:List Int}{tabs:List Addr}(hO:Zm1 tabs H)(ht:∀T q,(T,q)∈FX.tl->T∈tabs)(hS:SqL K H a (ns.map V.int))(hM:M [.list (HM.ofInts ns)]=Z (.bool ZEN)) :
  spD K 1 M [.ref a] H (λv _=>v=.bl ZEN) λ_ _ _=>False:=by
 refine⟨Zcf H,[.list (HM.ofInts ns)],.bool ZEN,rfl,Zfj,λT q hT=>⟨#[],hO.2 T (ht T q hT),trivial,λpos c hc=>by cases hc⟩,.drop,.one (Rep.drop (.lst hS (Zfm (K:=K) (F:=H) ns).1 (Zfm ns).2)),hM,λv F1 H1 _ r=>r.bool_inv⟩
end
end HP
namespace HP
open PySem PySem.Spec PyProof.Rows L2
variable[FX]
section
variable{X:Cx}{a b:Expr}{fa fb:HM.EF}{pos:Pos}
def Zx3(K:Zzx):R2:=λv w H Q=>∃p q xs ys,v=.ref p/\w=.ref q/\SqT K H p xs/\SqT K H q ys/\xs.length+ys.length<=sizeLine/\(xs=[]->Q w H)/\(xs≠[]->ys=[]->Q v H)/\(xs≠[]->ys≠[]->∀z,H z=Z_->Q (.ref z) (upd H z (.tup (xs++ys))))
theorem ZvE:OpR X (ZBL .Add) (Zx3 X.K):=by
 intro pins s σ H x y v u Q I rx ry ⟨p,q,xs,ys,e1,e2,hp,hq,hz,q0,q1,q2⟩
 by_cases hx:xs=[]
 ·subst e1 e2
  obtain rfl:v=ZAh p:=rx;obtain rfl:u=ZAh q:=ry;obtain⟨its,r1,p1,_⟩:=I.tuple hp;obtain⟨its2,r2,p2,_⟩:=I.tuple hq;obtain⟨⟨cls,dd,data,sl⟩,ho,hc,n,hd⟩:=id p1;obtain⟨⟨cls2,dd2,data2,sl2⟩,ho2,hc2,n2,hd2⟩:=id p2;simp only at hc hd hc2 hd2;subst hc hd hc2 hd2;have e0:its=[]:=by rw[hx]at r1; cases r1; rfl
  exact ZDR ⟨_,ho,rfl⟩ ⟨_,ho2,rfl⟩ ZDS seq_tuple_add ZCV ZCN (ZCD _ _)
   (tuple_addW0 p q its.toArray its2.toArray n n2 dd dd2 sl sl2 (by simp[e0])) ⟨ho,ho2,⟨.ref q,H,I,rfl,q0 hx⟩⟩
 ·exact Zu8 pins s σ H x y v u Q I rx ry ⟨p,q,xs,ys,e1,e2,hp,hq,hx,hz,λz=>by rw[<-e1]; exact q1 hx z,λz=>q2 hx z⟩
theorem ZdN(ha:XE X a fa)(hb:XE X b fb):XE X (.BinOp a .Add b pos) (HM.ZaU fa fb):=by
 intro r d h;unfold HM.ZaU at h;split at h
 case h_2=>cases h
 rename_i xs hx;split at h
 case h_2=>cases h
 rename_i ys hy;split at h
 case isFalse=>cases h
 rename_i hlt;cases h;refine PE.imp (ZjB ZvE (ha r _ hx) (hb r _ hy)) λσ H Q ⟨F0,H0,F,at_,k⟩=>?_;refine⟨F0,H0,F,at_,λv F1 H1 x1 r1=>⟨F0,H0,F1,at_.grow x1,λw F2 H2 x2 r2=>?_⟩⟩;have r1':=r1.mono x2.ff;obtain⟨l,vs,e1,h1,s1⟩:=Zhv r1';obtain⟨l',us,e2,h2,s2⟩:=Zhv r2;have e3:=s1.1;have e4:=s2.1;have hz:xs.length+ys.length<1000000:=hlt;have e5:(1000000:Nat)<=sizeLine:=by decide
 refine⟨l,l',vs,us,e1,e2,ZeO h1 x2.sub,ZeO h2 x2.sub,by omega,λz=>?_,λ_ z=>?_,λ_ _ p hp=>?_⟩
 ·rw[z]at e3
  exact k _ F2 H2 (x1.trans x2) (by rw[ZAv e3,ZBr]; exact r2)
 ·rw[z]at e4
  exact k _ F2 H2 (x1.trans x2) (by rw[ZAv e4,ZAe]; exact r1')
 ·have rc:=s1.append s2
  exact k _ (upd F2 p (.tup (vs++us))) _ ((x1.trans x2).lay hp) (.tup Zy rc.1 (rc.mono (Zq.upd' (x2.sub.free hp))).2)
end
end HP
namespace HP
open PySem PySem.Spec PyProof.Rows L2
variable[FX]
section
variable{X:Cx}{a b c e:Expr}{fa fb fc:HM.EF}{f:HM.AF}{pos p:Pos}{es:List Expr}
theorem ZrD{F H:Hp}(s:Zq F H):Zq (Zcf F) (Zcf H):=NoT.drop.sub (λb o e=>s b o (Zfj b o e))
theorem ZrI{k:Nat}{ap:HM.AP}(C:Zcy X.prog X.w X.K X.mg X.base k ap)(hr:Z9 k X.A)(i:Nat){x:Str}(ha:XAL X (e::es) f)(hN:X.N[i]?=Z x:=by rfl)
  (hv:Vis X.env.scope x:=by first | exact ZAt rfl | exact Zz8 (ZAt rfl) | exact Zz8 (Zz8 rfl)) (hd:(x==("__debug__":Str))=ZEO:=by decide) (hcd:(x==("__classdict__":Str))=ZEO:=by decide)
  (he:ZzC (e::es) X.env=(ZEO,eval e X.env)::ZzC es X.env:=by rfl) (hpl:(backTo pos (ZzC es X.env)).any (·.1)=ZEO:=by rfl):XE X (.Call (.Name x p) (e::es) [] pos) (HM.Zf5 ap i f):=by
 intro r d h;unfold HM.Zf5 at h;split at h
 case h_2=>cases h
 rename_i d0 hs;split at h
 case h_2=>cases h
 rename_i t cs hu;split at h
 case h_2=>cases h
 rename_i ds hds;split at h
 case h_2=>cases h
 rename_i z hz;split at h
 case isFalse=>cases h
 rename_i ht;cases h;obtain rfl:=Zo6 hu;intro pins s σ H Q I ⟨F0,H0,F1,at_,kk⟩;obtain⟨v,h1,h2⟩:=at_.plain hs;obtain⟨q,rfl,fv⟩:=h2.fn_inv;refine ZBm (thn (ZbQ hN hv hd hcd pins s σ H (λv' H'=>v'=.ref q/\H'=H) I ⟨_,h1,rfl,rfl⟩) λu s1 ⟨v',H1,I1,r1,e1,e2⟩=>?_);subst e1 e2;obtain rfl:u=ZAh q:=r1;refine ZEJ (C.fn fv I1.env0 at_.sub) (thn (ha.pa r ds hds pos pins s1 σ H1 (λvs H2=>∃F2,Ext F1 H1 F2 H2/\Zs X.K H2 ds vs) I1 ⟨F0,H0,F1,at_,λvs F2 H2 x2 q2=>⟨F2,x2,q2⟩⟩) λus s2 ⟨vs,H2,I2,r2,F2,x2,q2⟩=>?_) he hpl;have fv2:=FX.mono (FX.drop (FX.mono fv x2.ff)) (ZrD x2.sub);refine⟨C.fn fv2 I2.env0 Zfj,ZDH (ZBp (C.run fv2 I2.env0 Zfj hr (at_.tbx x2) .drop r2 q2.drop' hz λv F' H' x3 q3=>kk v (ZbU F2 H') H' (x2.trans (Ext.forget x2.sub (at_.ntx x2) x3).tups) (Zr3 x3.sub 400 ht q3)) λrs s' hq=>?_)⟩;cases rs with
 | error e=>exact ZAp hq
 | ok fl =>
  cases fl with
  | ret u=>exact I2.after hq
  | next=>exact ZAp hq
  | brk=>exact ZAp hq
  | cont=>exact ZAp hq
end
end HP
namespace HP
open PySem PySem.W PyProof.Rows
end HP
namespace HP
open PySem PySem.Spec PyProof.Rows L2
variable[FX]
end HP
namespace HP
open PySem PySem.Spec PyProof.Rows L2
variable[FX]
end HP
namespace HP
open PySem PySem.Spec PyProof.Rows L2
variable[FX]
end HP
namespace HT
open PySem PySem.Spec PyProof.Rows L2
end HT
namespace HP
open PySem PySem.Spec PyProof.Rows L2
end HP
namespace HP
open PySem PySem.Spec PyProof.Rows L2
variable{X:Cx}{elts:List Expr}{kt:Nat}{K:Zzx}
variable[FX]
def Ite(K:Zzx)(a:Addr):It :=
 ⟨λi H=>∃xs x,SqT K H a xs/\xs[i]?=Z x,λi H y H'=>∃T x,H T=Z_/\y=.ref T/\(∀xs,SqT K H a xs->xs[i]?=Z x)/\H'=upd H T (.tup [.int (i:Int),x]),λi H=>∃xs,SqT K H a xs/\xs.length=i⟩
omit [FX]in
theorem Zmf{pins:List (Addr × Obj)}{σ:L2.St}{H:Hp}{s:Shared}{h':Heap}{t':Nat}{fp:List Addr}(I:Inv X pins σ H s)(k:∀b o,b ∉ fp->s.heap.get? b=Z o->h'.get? b=Z o)(hf:∀b∈fp,Zfw X pins H b):Inv X pins σ H { s with heap:=h',toks:=t' }:=by
 refine I.step (g':=s.gens) (d':=s.drawn) (ch:=fp) (λb hb=>⟨(hf b hb).2.2.2.1,(hf b hb).2.1,(hf b hb).2.2.2.2.1,(hf b hb).2.2.2.2.2⟩) (λb o _ _ hc e _=>k b o hc e) (λb o _ _ hc e _=>⟨o.slots,k b o hc e⟩) (λ_ _ _ _ n=>n) (λb o hc e=>⟨o,k b o hc e⟩) (λ_ _ e=>e) (λ_ _ _ e=>e) (λb ps e=>⟨#[],by rw[e]; simp⟩) (λm hm=>?_) (λb u e=>?_) I.bare
 ·obtain⟨o,es,ep,ho,r⟩:=hm; exact⟨o,es,ep,k _ o (λz=>(hf _ z).2.1 rfl) ho,r⟩
 ·refine(I.hok b u e).stay (λc v hc q=>k c v (λz=>?_) q) (λ_ q=>q) λ_ _ q=>q
  rcases hc with y | y
  ·subst y; rw[(hf _ z).1]at e; cases e
  ·rw[(hf c z).1]at y; cases y
omit [FX]in
theorem Zsh{P:Program}{w:World}{pt:Pos}(a e it:Addr)(hei:e≠it):Turn P w K (.Tuple elts kt pt) (Ite K a) [e,it] e (λi h=>(∃old,IsEnum h e it (i:Int) old)/\h.IsTupleIter it a i) where
 mem:=by simp
 obj:=λi h st b hb=>by
  rcases ZzK.mp hb with rfl | hb
  ·obtain⟨⟨old,he⟩,_⟩:=st; exact⟨_,he,λv z=>by cases z⟩
  ·rw[ZzF.mp hb]; obtain⟨_,o,ho,hc,hd⟩:=st; exact⟨o,ho,λv z=>by rw[hd]at z; cases z⟩
 keep:=λi h h' ⟨⟨old,he⟩,o,ho,r⟩ k=>⟨⟨old,k e (by simp) _ he⟩,o,k it (by simp) o ho,r⟩
 item:=by
  intro X hP hw hK hc i pins s σ H E I hf st hg;subst hP hw hK;obtain⟨⟨old,he⟩,hit⟩:=st;obtain⟨xs,x,hq,hx⟩:=hg;obtain⟨its,rv,p,hz⟩:=I.tuple hq;obtain⟨u,hu,ru⟩:=rv.get hx;have hp:s.heap.IsTuple a its.toArray:=p;have hai:a≠it:=by
   rintro rfl
   obtain⟨o,ho,hcl,_⟩:=hit;obtain⟨o2,ho2,hcl2,_⟩:=hp;rw[ho]at ho2; cases ho2; rw[hcl]at hcl2; exact absurd hcl2 (by decide)
  have hae:e≠a:=by
   rintro rfl
   obtain⟨o2,ho2,hcl2,_⟩:=hp;rw[he]at ho2; cases ho2; exact absurd (show ZBU "enumerate" = ZBU "tuple" from hcl2) (by decide)
  have D:=Zml (prog:=X.prog) (w:=X.w) (A:=X.A.in1) (I.ok.hd hc) it a hai its.toArray;have hlt:i<its.length:=(ZzL.mp hu).1;have hes:e<s.heap.objs.size:=ZzO he;have his:it<s.heap.objs.size:=by obtain⟨o,ho,_⟩:=hit; exact ZzO ho
  refine wpAny_pyNext_enum_itemD D he ⟨hit,hp⟩ (by simpa using hlt) hei (by simp[hei,hae]) λy h' tk hP ho hs' hT hsz hk=>⟨_,rfl,wpAny_letOwnedTupleGo_enum ho λh2 he2 hs2=>?_⟩;have ey:y=u:=by
   have:its.toArray[i]?=Z u:=by simpa using hu
   rw[this]at hP; exact(ZAl hP).symm
  subst ey;have hn:H s.heap.objs.size=Z_:=I.hok.fresh (ZzH _);have IL:Inv X pins σ (upd H s.heap.objs.size (.tup [.int (i:Int),x])) { s with heap:=s.heap.push { cls:=.type "tuple",data:=.seq #[.int i tk,y] },toks:=s.toks }:=I.laid (λb ob q=>ZzA _ q) (ZzH _) ⟨by show 2<=sizeLine; decide,[.int i tk,y],.cons ⟨tk,rfl⟩ (.cons ru .nil),ZD9 _ _⟩;have I2:Inv X pins σ (upd H s.heap.objs.size (.tup [.int (i:Int),x])) { s with heap:=h2,toks:=tk+1 }:=Zmf (s:={ s with heap:=s.heap.push { cls:=.type "tuple",data:=.seq #[.int i tk,y] },toks:=s.toks }) (fp:=[e,it]) IL (λb o hb q=>by
   have h1:b≠e:=λz=>hb (by simp[z]);have h3:b≠it:=λz=>hb (by simp[z]);show h2.get? b=Z o;rw[hs2.2 b h1]
   by_cases eb:b=s.heap.objs.size
   ·subst eb
    have:(s.heap.push { cls:=.type "tuple",data:=.seq #[.int i tk,y] }).get? s.heap.objs.size=Z { cls:=.type "tuple",data:=.seq #[.int i tk,y] }:=ZzP _ rfl;rw[show(Z o:Option Obj)=_ from q.symm.trans this];exact hT
   ·exact hk b o h1 h3 (by rw[<-ZCh _ _ _ eb]; exact q)) λb hb=>by
    obtain⟨f0,f1,f2,f3,f4,f5⟩:=hf b hb;refine⟨?_,f1,f2,f3,f4,f5⟩;rw[Zx]
    ·exact f0
    ·rcases ZzK.mp hb with rfl | hb
     ·exact ZzU hes
     ·rw[ZzF.mp hb]; exact ZzU his
  refine⟨.ref s.heap.objs.size,_,I2,rfl,⟨_,x,hn,rfl,λys hy=>by rw[I.tuple_inj hy hq]; exact hx,rfl⟩,⟨⟨_,by simpa using he2⟩,?_⟩,λb hb=>?_⟩
  ·obtain⟨⟨o,ho',r⟩,_⟩:=hs'
   exact⟨o,(hs2.2 it hei.symm).trans ho',r⟩
  ·rw[Zx]
   ·exact(hf b hb).1
   ·rcases ZzK.mp hb with rfl | hb
    ·exact ZzU hes
    ·rw[ZzF.mp hb]; exact ZzU his
 done:=by
  intro X hP hw hK hc i pins s σ H E I hf st hg;subst hP hw hK;obtain⟨⟨old,he⟩,hit⟩:=st;obtain⟨xs,hq,hx⟩:=hg;obtain⟨its,rv,p,hz⟩:=I.tuple hq;have hp:s.heap.IsTuple a its.toArray:=p;have hl:=rv.length;have hai:a≠it:=by
   rintro rfl
   obtain⟨o,ho,hcl,_⟩:=hit;obtain⟨o2,ho2,hcl2,_⟩:=hp;rw[ho]at ho2; cases ho2; rw[hcl]at hcl2; exact absurd hcl2 (by decide)
  have D:=Zml (prog:=X.prog) (w:=X.w) (A:=X.A.in1) (I.ok.hd hc) it a hai its.toArray;have en:i=its.toArray.size:=by simp; omega
  subst en;exact wpAny_pyNext_enum_endD D he ⟨hit,hp⟩ λh' eb=>⟨rfl,Zmf (t':=s.toks) (fp:=[e,it]) I (λb o hb q=>eb b o (λz=>hb (by simp[z])) q) hf⟩
 self:=λ_ _ _ _ _ ⟨⟨_,he⟩,_⟩ h=>wpAny_pyIter_enum he h
omit [FX]in
theorem Zqi:∀(ds:List PyData) (k i:Nat) (d:PyData),(HM.ZhS k ds)[i]?=Z d->∃x,ds[i]?=Z x/\d=.tuple [.int ((k+i:Nat):Int),x]
 | [],_,_,_,h=>by cases h
 | x::ds,k,0,d,h=>by cases h; exact⟨x,rfl,rfl⟩
 | x::ds,k,i+1,d,h=>by obtain⟨y,h1,h2⟩:=Zqi ds (k+1) i d h;exact⟨y,h1,by rw[h2,show k+1+i=k+(i+1) by omega]⟩
omit [FX]in
theorem Zom:∀(ds:List PyData) (k:Nat),(HM.ZhS k ds).length=ds.length
 | [],_=>rfl
 | _::ds,k=>congrArg (·+1) (Zom ds (k+1))
theorem Zt9{F:Hp}{a:Addr}{ds:List PyData}{vs:List V}(h:SqT K F a vs)(r:Zs K F ds vs):ItE K (Ite K a) (HM.ZhS 0 ds) F:=by
 intro F' H s1 s2;have hq:SqT K H a vs:=ZeO h (s1.trans s2);refine⟨λi d hd=>?_,vs,hq,by rw[Zom,r.1]⟩;obtain⟨x,hx,rfl⟩:=Zqi ds 0 i d hd;obtain⟨v,h1,h2⟩:=r.get hx;refine⟨⟨vs,v,hq,h1⟩,λy H' ⟨T,z,hn,ey,hz,eH⟩=>?_⟩;subst ey eH;have:=hz vs hq;rw[h1]at this;cases this;have hs:=(Ext.refl s2).tups.sub;refine⟨_,(Ext.refl hs).lay hn,.tup Zy rfl ?_⟩;have hT:ZbU F' H T=Z_:=hs.free hn;have hr:Zs K (upd (ZbU F' H) T (.tup [.int (i:Int),v])) [.int ((0+i:Nat):Int),x] [.int (i:Int),v]:=by rw[Nat.zero_add];exact .cons (.int _) (.one ((h2.mono (s1.trans (ZcX s2))).mono (Zq.upd' hT)))
 exact hr.2
theorem ZuI{a:Expr}{f:HM.EF}{p pos:Pos}{pt:Pos}(hm:X.mg "enumerate" = Z_)(ha:XE X a f)(hg:Gl X "enumerate":=by rfl)(hs:ZzC [a] X.env=[(ZEO,eval a X.env)]:=by rfl):XIE X (.Tuple elts kt pt) (.Call (.Name "enumerate" p) [a] [] pos) (HM.Zm4 f):=by
 intro r ds h;unfold HM.Zm4 at h;split at h
 ·rename_i xs hx
  cases h;intro pins s σ H R I ⟨F0,H0,F,at_,k⟩;have hxa:=Zb ha (Zf (X:=X)) hs;refine Call_ (Zht I hg hm boot_enumerate (ZCn (thn (hxa.pa r [.tuple xs] (by show(match f r with | some x=>_ | none=>_)=_; rw[hx]; rfl) pos pins s σ H (λvs H1=>∃F1,Ext F H F1 H1/\Zs X.K F1 [.tuple xs] vs) I ⟨F0,H0,F,at_,λvs F' H' x q=>⟨F',x,q⟩⟩) λus s1 ⟨vs,H1,I1,r1,F1,x1,q1⟩=>?_) hs rfl));obtain⟨v,rfl,rv⟩:∃v,vs=[v]/\Rep X.K F1 (.tuple xs) v:=by
   obtain⟨e,hh⟩:=q1
   match vs,e with
   | [v],_=>exact⟨v,rfl,hh 0 _ v rfl rfl⟩
  obtain⟨l,ws,rfl,hq,rs⟩:=Zhv rv;obtain⟨u,rfl,ru⟩:=vals1 r1;cases ru;obtain⟨its,_,pt1,_⟩:=I1.tuple (ZeO hq x1.sub);refine Zq6 (items:=its.toArray) pt1 λh' he hi hsz hk=>wpAny_pyIter_enum he ?_;refine⟨_,[s1.heap.objs.size+1,s1.heap.objs.size],_,_,H1,rfl,I1.kept (t':=s1.toks) hk,Zsh l _ _ (Nat.succ_ne_self _),⟨⟨_,he⟩,hi⟩,λb hb=>?_,k _ F1 H1 x1 (Zt9 hq rs)⟩;rcases ZzK.mp hb with rfl | hb
  ·exact I1.fpOk (ZEk _) (I1.hok.fresh (ZEk _))
  ·rw[ZzF.mp hb]; exact I1.fpOk (ZzH _) (I1.hok.fresh (ZzH _))
 ·cases h
section
variable{X:Cx}{N:List Str}{scope:Scope}{x x2:Str}{px px2 pt:Pos}{kt:Nat}{elt iter:Expr}{ifs:List Expr}{pos:Pos}{fi:HM.IF}{fc:HM.TF}{fe:HM.EF}
theorem Zne(i:Nat){y:Str}{py spos:Pos}(hN:X.N.Nodup)(hxe:X.xe=λ_ _=>False)(hcalm:X.calm=ZEN)(T:Zdx X N scope [x,x2])(hi:XIE X (.Tuple [.Name x px,.Name x2 px2] kt pt) iter fi)(hc:∀cl C s H ex,XTs (ZQ X N scope cl C s H ex) ifs fc)(he:∀cl C s H ex,XE (ZQ X N scope cl C s H ex) elt fe)
  (hiy:X.N[i]?=Z y:=by rfl) (hy:X.env.scope.names.lookup y=Z .local:=by rfl) (hsw:ZBG (.ListComp elt [⟨.Tuple [.Name x px,.Name x2 px2] kt pt,iter,ifs,0⟩] scope pos) (Z (.Name y py)) spos.line X.env=pure ZEN:=by rfl)
  (hs:∀x,ZBd iter X.env x=pure x:=by intro _; rfl):XS X (.Assign [.Name y py] (.ListComp elt [⟨.Tuple [.Name x px,.Name x2 px2] kt pt,iter,ifs,0⟩] scope pos) spos) (HM.ZU i (HM.ZbH fi fc fe)):=by
 rw[Zp7];exact ZjP i hN hxe hcalm T (ZsL T) hi hc he hiy hy hsw hs
end
section
variable{X:Cx}{a b:Expr}{ga gb:HM.BF}{pos:Pos}
def Zx5(K:Zzx):R2:=λx y H Q=>∃l b xs zs,x=.ref l/\y=.ref b/\SqL K H l xs/\SqL K H b zs/\xs.length+zs.length<=sizeLine/\∀p,H p=Z_->Q (.ref p) (upd H p (.lst (xs++zs)))
omit [FX]in
theorem ZvG:OpR X (ZBL .Add) (Zx5 X.K):=by intro pins s σ H x y v u Q I rx ry h;obtain⟨l,b,xs,zs,rfl,rfl,hH,hB,hz,q⟩:=h;cases rx;cases ry;obtain⟨its,r,⟨⟨c1,d1,t1,s1⟩,n1,e1,k1,k2,k3⟩,_⟩:=I.list hH;obtain⟨its2,r2,⟨⟨c2,d2,t2,s2⟩,n2,e2,m1,m2,m3⟩,_⟩:=I.list hB;simp only at k1 k2 k3 m1 m2 m3;subst k1 k3 m1 m3;have hl1:=r.length;have hl2:=r2.length;refine ZDR ⟨_,e1,rfl⟩ ⟨_,e2,rfl⟩ noFill_list_add seq_list_add PySem.F.slot_list_add PySem.F.entry_list_add (PySem.F.args_list_add_2 _ _) (list_addW l b its.toArray its2.toArray n1 n2 d1 d2 s1 s2 (by rw[ZzN,ZzN]; omega)) ⟨e1,e2,?_⟩;rw[show its.toArray++its2.toArray=(its++its2).toArray by simp];exact⟨.ref _,_,I.lnew (t':=s.toks) (r.append r2) (by rw[ZzM]; omega),rfl,q _ I.fresh⟩
theorem ZuJ(ha:XB X a ga)(hb:XB X b gb):XF X (.BinOp a .Add b pos) (HM.ZqT ga gb):=by
 intro r d h;unfold HM.ZqT at h;split at h
 ·rename_i x hx
  split at h
  ·rename_i xs hxs
   split at h
   ·rename_i y hy
    split at h
    ·rename_i ys hys
     split at h
     ·rename_i hz
      cases h;refine PE.imp (ZjB ZvG (ha r _ hx) (hb r _ hy)) λσ H Q ⟨F0,H0,F,at_,k⟩=>?_;refine⟨F0,H0,F,at_,λv F1 H1 x1 ⟨fp,r1⟩=>⟨F0,H0,F1,at_.grow x1,λw F2 H2 x2 ⟨fq,r2⟩=>?_⟩⟩;obtain⟨l1,vs1,rfl,hq1,q1⟩:=ZdX x2.sub (r1.mono x2.ff λ_ _ _ z=>x2.hh _ _ z) hxs;obtain⟨l2,vs2,rfl,hq2,q2⟩:=ZdX x2.sub r2 hys;refine⟨_,_,_,_,rfl,rfl,hq1,hq2,?_,λl hl=>ZdY (P:=λv _ H'=>Q v H') (x1.trans x2) (q1.append q2) hl k⟩;have e1:=q1.1;have e2:=q2.1;have e3:(1000000:Nat)<=sizeLine:=by decide
      unfold HM.big at hz;omega
     ·cases h
    ·cases h
   ·cases h
  ·cases h
 ·cases h
end
end HP
namespace HP
open PySem PySem.Spec PyProof.Rows L2
variable[FX]
end HP
namespace HP
open PySem PySem.Spec PyProof.Rows L2
def Zuw(P:Program)(w:World)(outer:List Env)(H:Hp)(s:Shared)(cls:Value)(e:Addr)(s':Shared)(G:Hp->Prop):Prop :=
 ∃(H':Hp) (B:Heap) (a0:Value),s'.os=s.os/\AllBare s'.gens/\Un (frs outer) [] H H' s.heap s'.heap/\HOk P w H' s'.heap/\ZDf B outer e cls a0 s'.heap /\
  (∀b u o,H' b=Z u->s'.heap.get? b=Z o->B.get? b=Z o)/\(∀b o,s.heap.get? b=Z o->H b=Z_->b ∉ frs outer->B.get? b=Z o) /\
  (∀b o,s.heap.get? b=Z o->b ∉ frs outer->∃o',B.get? b=Z o')/\G H'
def CXE(P:Program)(w:World):CXT:=λouter H s E v s'=>∃e cls,v=.ref e/\Zuw P w outer H s cls e s' (E cls Z_)
theorem ZjA{P:Program}{w:World}{H:Hp}{h:Heap}{a:Addr}{o:HO}(x:Z4 P w H h a o):∃ob,h.get? a=Z ob:=by
 cases o with
 | lst xs=>obtain⟨_,_,_,_,q⟩:=x; exact⟨_,q⟩
 | tup xs=>obtain⟨_,_,_,_,q,_⟩:=x; exact⟨_,q⟩
 | dK kvs=>obtain⟨_,_,_,_,_,_,_,q,_⟩:=x; exact⟨_,q⟩
 | dT kvs=>obtain⟨_,_,_,_,_,_,_,q,_⟩:=x; exact⟨_,q⟩
 | set S n=>obtain⟨_,_,_,_,q,_⟩:=x; exact⟨_,q⟩
 | ins C dx fs=>obtain⟨_,_,_,q,_⟩:=x; exact⟨_,q⟩
 | own y=>exact x
 | xd fs=>obtain⟨_,⟨_,_,_,q,_⟩,_⟩:=x; exact⟨_,q⟩
 | rng lo hi=>obtain⟨_,_,_,q⟩:=x; exact⟨_,q⟩
 | frz ob u=>exact⟨_,x.1⟩
 | tbl ps=>exact⟨_,x⟩
 | met f y=>exact⟨_,x⟩
 | ext φ=>exact x.2.1
section
variable{P:Program}{w:World}{outer:List Env}{H H':Hp}{s:Shared}{h1 h2 B:Heap}
theorem Zsp(frm:∀b∈frs outer,∀o,s.heap.get? b=Z o->∀ws,o.data≠.fields ws)(frh:∀b∈frs outer,H b=Z_)(U:Un (frs outer) [] H H' s.heap h1)(hok:HOk P w H' h1)
  (c1:∀b u o,H' b=Z u->h1.get? b=Z o->B.get? b=Z o) (c2:∀b o,s.heap.get? b=Z o->H b=Z_->b ∉ frs outer->B.get? b=Z o)
  (c3:∀b o,s.heap.get? b=Z o->b ∉ frs outer->∃o',B.get? b=Z o') (st:B.StaysIn h2) (sl:h1.UpToSlots h2) :
  Un (frs outer) [] H H' s.heap h2/\HOk P w H' h2/\∀b u o,H' b=Z u->h2.get? b=Z o->B.get? b=Z o:=by
 have keep:∀b u o,H' b=Z u->h1.get? b=Z o->h2.get? b=Z o:=λb u o e q=>st b o (c1 b u o e q);have slot:∀b o,s.heap.get? b=Z o->H b=Z_->b∈frs outer->∃sl,h2.get? b=Z { o with slots:=sl }:=λb o e n hb=>by obtain⟨s1,q⟩:=U.slot b o e n hb (by simp);obtain⟨s2,q2⟩:=sl b _ q (λws=>frm b hb o e ws);exact⟨s2,q2⟩
 refine⟨⟨λb o e n hb _=>st b o (c2 b o e n hb),λb o e n hb _=>slot b o e n hb,U.free,λb o e _=>?_,U.tups,U.frzs,U.tbls⟩,λb u e=>?_,λb u o e q=>?_⟩
 ·by_cases hb:b∈frs outer
  ·obtain⟨s2,q⟩:=slot b o e (frh b hb) hb
   exact⟨_,q⟩
  ·obtain⟨o',q⟩:=c3 b o e hb
   exact⟨o',st b o' q⟩
 ·refine(hok b u e).stay (λc v hc q=>?_) (λ_ q=>q) λ_ _ q=>q
  rcases hc with z | z
  ·subst z; exact keep c u v e q
  ·exact keep c _ v z q
 ·obtain⟨o',q'⟩:=ZjA (hok b u e)
  have:=keep b u o' e q';rw[q]at this;cases this;exact c1 b u o e q'
end
section
variable{X:Cx}{pins:List (Addr × Obj)}{σ:L2.St}{H:Hp}{s:Shared}
theorem Zty(I:Inv X pins σ H s):∀b∈frs X.outer,∀o,X.s₀.heap.get? b=Z o->∀ws,o.data≠.fields ws:=λb hb o e ws=>by obtain⟨_,o',q,n⟩:=I.ok.funs.mem hb;rw[e]at q; cases q;exact n ws
theorem Inv.base0(hx0:X.ex=[])(I:Inv X pins σ H s):Un (frs X.outer) [] X.H₀ H X.s₀.heap s.heap:=by have:=I.base; rw[hx0]at this; exact this
theorem Zlc(I:Inv X pins σ H s){b:Addr}{o:Obj}(q:X.s₀.heap.get? b=Z o)(n:b ∉ frs X.outer):b ∉ frs X.stack:=λz=>by
 rcases ZzK.mp (I.stkSub b z)with y | y
 ·have:=ZzO q
  rw[y]at this;exact absurd (ZzZ this I.ok.above) (ZBb _)
 ·exact n y
theorem Zoj(hx0:X.ex=[])(I:Inv X pins σ H s){h2 B:Heap}{e:Addr}{cls a0:Value}{G:Hp->Prop}(FL:ZDf B X.outer e cls a0 h2)(sl:s.heap.UpToSlots h2)
  (c1:∀b u o,H b=Z u->s.heap.get? b=Z o->B.get? b=Z o) (d2:∀b o,X.s₀.heap.get? b=Z o->X.H₀ b=Z_->b ∉ frs X.outer->B.get? b=Z o)
  (d3:∀b o,X.s₀.heap.get? b=Z o->b ∉ frs X.outer->∃o',B.get? b=Z o') (g:G H):Zuw X.prog X.w X.outer X.H₀ X.s₀ cls e { s with heap:=h2 } G:=by
 obtain⟨u1,u2,u3⟩:=Zsp (Zty I) I.ok.frf (Inv.base0 hx0 I) I.hok c1 d2 d3 FL.1 sl;exact⟨H,B,a0,I.os,I.bare,u1,u2,FL,u3,d2,d3,g⟩
structure Zrs(X:Cx)(E:XK):Prop where
 own:∀(pins:List (Addr × Obj)) (σ:L2.St) (H:Hp) (s:Shared) (h':Heap) (e:Addr) (cls:Value) (vs:List Value),Inv X pins σ H s->Heap.MadeExcOf s.heap h' e cls vs->E cls Z_ H->X.xe (.ref e) { s with heap:=h' }
 pass:Passes (CXE X.prog X.w) X E
end
section
variable{P:Program}{w:World}{K:Zzx}{mg:Str->Option Value}{base:Heap}{N:List Str}{qual:Str}{scope:Scope}{f:Addr}{cd:Value}{A:Around}{outer:List Env}{s:Shared}{H:Hp}{E:XK}
theorem Zid:Zrs (Zd0 (CXE P w) P w K mg base N qual scope f cd A outer s H E) E:=by
 generalize hX:Zd0 (CXE P w) P w K mg base N qual scope f cd A outer s H E=X;have hP:X.prog=P:=by rw[<-hX]; rfl
 have hw:X.w=w:=by rw[<-hX]; rfl
 have hst:X.stack=X.env::X.outer:=by rw[<-hX]; rfl
 have hx0:X.ex=[]:=by rw[<-hX]; rfl
 have hfr:X.env.frame=Z X.env.locals:=by rw[<-hX]; rfl
 have hxe:∀v s',X.xe v s'=wpAny (model X.prog X.w) X.A (leaving X.env v) (λ_ s''=>CXE X.prog X.w X.outer X.H₀ X.s₀ E v s'') (λe' s''=>CXE X.prog X.w X.outer X.H₀ X.s₀ E e' s'') s':=by intro v s'; rw[<-hX]; rfl
 constructor
 ·intro pins σ H1 s1 h' e cls vs I hm g
  rw[hxe];have fr:X.A.frames=Z (X.env::X.outer):=by rw[<-hst]; exact I.ok.frames
  have hin:∀env∈X.env::X.outer,∀a,env.frame=Z a->a∈frs X.stack:=λenv he a ha=>by rw[hst]; exact ZAu.mpr ⟨env,he,ha⟩
  have hfs:s1.heap.FunFrames X.base (X.env::X.outer):=by rw[<-hst]; exact I.stack
  refine wpAny_leaves_madeW (base:=PySem.W.hideAll s1.heap (frs X.stack)) (s:={ s1 with heap:=h' }) fr hfr (λb o q=>ZEF _ q) (PySem.W.funFrames_hide hfs hin) hm λh2 t fl _ _ sl=>?_;refine⟨e,cls,rfl,Zoj (s:=s1) hx0 I fl ((Heap.UpToSlots.of_keeps hm.keeps).trans sl) (λb u o q1 q2=>ZCv _ q2 λz=>?_) (λb o q n hb=>?_) (λb o q hb=>?_) g⟩
  ·rw[I.stkFree b z]at q1; cases q1
  ·exact ZCv _ ((Inv.base0 hx0 I).keep b o q n hb (by simp)) (Zlc I q hb)
  ·obtain⟨o',q'⟩:=(Inv.base0 hx0 I).there b o q (by simp)
   exact⟨o',ZCv _ q' (Zlc I q hb)⟩
 ·intro pins σ H1 s1 v s' I hc
  obtain⟨e,cls,rfl,H',B,a0,os,bare,U,hok,FL,c1,c2,c3,g⟩:=hc;rw[hxe];have fr:X.A.frames=Z (X.env::X.outer):=by rw[<-hst]; exact I.ok.frames
  have I':Inv X pins σ H' s':=I.call' os U hok bare λb z=>absurd z (by simp);rw[hst]at FL;refine wpAny_leaves_onW fr hfr FL λh2 fl sl=>?_;refine⟨e,cls,rfl,Zoj (s:=s') hx0 I' fl sl c1 (λb o q n hb=>?_) (λb o q hb=>?_) g⟩
  ·exact c2 b o ((Inv.base0 hx0 I).keep b o q n hb (by simp)) ((Inv.base0 hx0 I).free b o q n (by simp)) (Zlc I q hb)
  ·obtain⟨o',q'⟩:=(Inv.base0 hx0 I).there b o q (by simp)
   exact c3 b o' q' (Zlc I q hb)
end
end HP
namespace HP
open PySem PySem.Spec PyProof.Rows L2
variable{M:List PyData->Option Str}{epos:Pos}{x:Str}
variable[FX]
def tR(X:Cx)(E:XK)(r:HM.Env)(x:Str):TS:=λ_ σ H=>Now X.K r σ H λF0 H0 F=>∀F' H' v,Ext F0 H0 F' H'->X.mg x=Z v->E v Z_ H'
def XR(X:Cx)(E:XK)(st:Stmt)(g:HM.RF):Prop:=∀r x,g r=Z x->PS X st (tR X E r x)
def XRs(X:Cx)(E:XK)(sts:List Stmt)(g:HM.RF):Prop:=∀r x,g r=Z x->PSs X sts (tR X E r x)
section
variable{X:Cx}{E:XK}{st:Stmt}{sts rest:List Stmt}{g g':HM.RF}{m:HM.SF}{pos p:Pos}{e:Expr}{es:List Expr}{f:HM.AF}
theorem ZuD:XR X E st HM.rNo:=λr x h=>by cases h
theorem ZhU(h1:XR X E st g)(h2:XS X st m)(h3:XRs X E rest g'):XRs X E (st::rest) (HM.Zev g m g'):=by
 intro r x h;unfold HM.Zev at h;split at h
 ·rename_i y q
  cases h;refine PSs.imp (ZdS (h1 r _ q) ZcF) λD σ H ⟨F0,H0,F,at_,k⟩=>?_;exact⟨F0,H0,F,at_,k⟩
 ·split at h
  ·rename_i r' q
   refine PSs.imp (ZdS (h2 r _ q) (h3 r' x h)) λD σ H ⟨F0,H0,F,at_,k⟩=>?_;exact⟨F0,H0,F,at_,λσ' F' H' at'=>⟨F0,H0,F',at',k⟩⟩
  ·cases h
theorem Zrf{t:HM.TF}{c:Expr}{sa sb:List Stmt}(hc:XT X c t)(ha:XRs X E sa g)(hb:XRs X E sb g'):XR X E (.If c sa sb pos) (HM.rIf t g g'):=by
 intro r o ho;unfold HM.rIf at ho;split at ho
 ·rename_i q
  refine PS.imp (Zm3 (hc r _ q) (ha r o ho) ZcF) λD σ H ⟨F0,H0,F,at_,k⟩=>?_;exact⟨F0,H0,F,at_,λF' H' x=>ZlF ⟨F0,H0,F',at_.grow x,k⟩⟩
 ·rename_i q
  refine PS.imp (Zm3 (hc r _ q) ZcF (hb r o ho)) λD σ H ⟨F0,H0,F,at_,k⟩=>?_;exact⟨F0,H0,F,at_,λF' H' x=>ZlZ ⟨F0,H0,F',at_.grow x,k⟩⟩
 ·cases ho
theorem Zs9{C:Addr}{B newId initId:String}{bm:List Value}{np cpos:Pos}(fl:Zrs X E)(hc:X.calm=ZEN)(O:OwnCls x C bm newId X.mg X.base)(FB:ExcBaseFacts B newId initId bm)(ha:XA X (e::es) f)
  (hg:Gl X x:=by rfl) (hdb:(x==("__debug__":Str))=ZEO:=by decide) (he:ZzC (e::es) X.env=(ZEO,eval e X.env)::ZzC es X.env:=by rfl) (hpl:(backTo cpos (ZzC es X.env)).any (·.1)=ZEO:=by rfl)
  (hl:(e::es).length<=sizeLine:=by decide):XR X E (.Raise (Z (.Call (.Name x np) (e::es) [] cpos)) Z_ pos) (HM.Zjh x f):=by
 intro r y h;unfold HM.Zjh at h;split at h
 case h_2=>cases h
 rename_i ds hds;cases h;intro pins s σ H D I ⟨F0,H0,F,at_,k⟩;obtain⟨tl,N,nm,q,bs,hdct,sn,sub,ab,col,dd,k0,k1,k2,k3,k5,mN,hC,hN,hni,T⟩:=O.obj;refine wpAny_Raise_call_subT (C:=C) (nm:=nm) (q:=q) (N:=N) (bs:=bs) (bm:=tl) (hdct:=hdct) (sn:=sn) (sub:=sub) (ab:=ab) (col:=col) (dd:=dd) (k0:=k0) (k1:=k1) (k2:=k2) (k3:=k3) (k5:=k5) (mN:=mN)
  FB (T.hasType FB.hasBase) (I.ok.hd hc) ?_ hni (Zhz I hg O.bound ⟨rfl,?_⟩ hdb)
 ·rw[he]; show(ZEO||(backTo cpos (ZzC es X.env)).any (·.1))=ZEO; rw[hpl]; rfl
 have h:=ha.pa r ds hds cpos pins s σ H (λvs H2=>∃F2,Ext F H F2 H2/\vs.length=ds.length) I ⟨F0,H0,F,at_,λvs F2 H2 x2 q2=>⟨F2,x2,q2.1.symm⟩⟩;have hdl:=ha.len r ds hds;rw[he]at h ⊢;refine ZCo (ZAD h (λus s2 ⟨vs,H2,I2,r2,F2,x2,l2⟩=>?_) λ_ _ y=>y);have kp:=I2.bk;exact⟨rfl,by rw[<-r2.length,l2,hdl]; exact hl,kp _ _ hC,hN.keeps kp,T.keeps kp,λh' e' hm=>fl.own pins σ H2 s2 h' e' _ _ I2 hm (k F2 H2 (.ref C) (at_.ext.trans x2) O.bound)⟩
def spR(K:Zzx)(mg:Str->Option Value)(n:Nat)(M:List PyData->Option Str):Sp:=λvs H _ E=>∃F ds x,vs.length=n/\Zq F H/\Tb H/\NoT F/\Zs K F ds vs/\M ds=Z x/\∀F' H' v,Ext F H F' H'->mg x=Z v->E v Z_ H'
structure Za5(P:Program)(w:World)(K:Zzx)(mg:Str->Option Value)(base:Heap)(k:Nat)(x:Str)(M:List PyData->Option Str):Prop where
 ex:∃f fd ps,(∀ds d,M ds=Z d->ds.length=ps.length)/\ZcY P w K mg base (CXE P w) k f fd ps (spR K mg ps.length M)/\mg x=Z (.ref f)/\ZAP K (.ref f)=ZEN/\Binds K fd ps []
theorem Za5.mono{P:Program}{w:World}{K:Zzx}{mg:Str->Option Value}{base:Heap}{j k:Nat}{x:Str}{M:List PyData->Option Str}(C:Za5 P w K mg base j x M)(h:j<=k):Za5 P w K mg base k x M:=by obtain⟨f,fd,ps,l,F,r⟩:=C.ex;exact⟨f,fd,ps,l,F.mono h,r⟩
theorem Zon{k:Nat}(hp:Passes (CXE X.prog X.w) X E)(C:Za5 X.prog X.w X.K X.mg X.base k x M)(hr:Z9 k X.A)(ha:XA X (e::es) f){r:HM.Env}{y:Str}(h:HM.ZfO M f r=Z y)(hg:Gl X x)(hdb:(x==("__debug__":Str))=ZEO)
  (he:ZzC (e::es) X.env=(ZEO,eval e X.env)::ZzC es X.env) (hpl:(backTo pos (ZzC es X.env)).any (·.1)=ZEO) :
  PE X (.Call (.Name x p) (e::es) [] pos) λσ H _=>Now X.K r σ H λF0 H0 F=>∀F' H' v,Ext F0 H0 F' H'->X.mg y=Z v->E v Z_ H':=by
 unfold HM.ZfO at h;split at h
 case h_2=>cases h
 rename_i ds hds;obtain⟨fa,fd,ps,hl,F,hm,hk,hb⟩:=C.ex;refine PE.imp (Zjt (E:=E) F hr hg hm hk hb .nil hp (ha.pa r ds hds) hdb he hpl) λσ H Q ⟨F0,H0,F1,at_,kk⟩=>?_;refine⟨F0,H0,F1,at_,λvs F' H' x1 q=>?_⟩;show spR X.K X.mg ps.length M (vs++[]) H' Q E;rw[ZAe];exact⟨F',ds,y,by rw[<-q.1]; exact hl ds _ h,x1.sub,at_.tbx x1,at_.ntx x1,q,h,λF2 H2 v x2 hv=>kk F2 H2 v (at_.ext.trans (x1.trans x2)) hv⟩
theorem ZpV{k:Nat}(hp:Passes (CXE X.prog X.w) X E)(C:Za5 X.prog X.w X.K X.mg X.base k x M)(hr:Z9 k X.A)(ha:XA X (e::es) f)(hg:Gl X x:=by rfl)(hdb:(x==("__debug__":Str))=ZEO:=by decide)
  (he:ZzC (e::es) X.env=(ZEO,eval e X.env)::ZzC es X.env:=by rfl) (hpl:(backTo pos (ZzC es X.env)).any (·.1)=ZEO:=by rfl) (hs:ZBG (.Call (.Name x p) (e::es) [] pos) Z_ epos.line X.env=pure ZEO:=by rfl) :
  XR X E (.Expr (.Call (.Name x p) (e::es) [] pos) epos) (HM.ZfO M f):=λr y h=>PS.imp (Zhu (Zon hp C hr ha h hg hdb he hpl) hs) λD σ H t=>t
theorem Zsj{k:Nat}(hp:Passes (CXE X.prog X.w) X E)(C:Za5 X.prog X.w X.K X.mg X.base k x M)(hr:Z9 k X.A)(ha:XA X (e::es) f)(hg:Gl X x:=by rfl)(hdb:(x==("__debug__":Str))=ZEO:=by decide)
  (he:ZzC (e::es) X.env=(ZEO,eval e X.env)::ZzC es X.env:=by rfl) (hpl:(backTo pos (ZzC es X.env)).any (·.1)=ZEO:=by rfl) :
  XR X E (.Return (Z (.Call (.Name x p) (e::es) [] pos)) epos) (HM.ZfO M f):=λr y h=>PS.imp (ZiS (Zon hp C hr ha h hg hdb he hpl)) λD σ H t=>t
end
theorem ZhT{P:Program}{w:World}{K:Zzx}{mg:Str->Option Value}{base:Heap}{k:Nat}{qual:Str}{st:Stmt}{f:Addr}{fd:FuncData}{N ps:List Str}{g:HM.RF}(Fn:Fun K x qual st f fd)(S:Zt N ps (Zh st))(hm:mg x=Z (.ref f))(hb:Binds K fd ps [])
  (body:∀(cdv:Value) (A:Around) (outer:List Env) (s:Shared) (H:Hp) (E:XK),Z9 k (A.deeper (envOfC qual (Zh st) s.heap.objs.size f cdv))->XRs (Zd0 (CXE P w) P w K mg base N qual (Zh st) f cdv A outer s H E) E (ZaA st) g) :
  Za5 P w K mg base (k+1) x (HM.Zkz ps.length N.length g):=by
 have hpl:ps.length<=N.length:=by have:=congrArg ZAg S.pre; rw[ZAN]at this; omega
 refine⟨f,fd,ps,λds d h=>?_,?_,hm,Fn.kp,hb⟩
 ·unfold HM.Zkz at h
  split at h
  ·assumption
  ·cases h
 ·obtain⟨oc,od,kV,doc,pm,an,cdv,ct,osl,rfl,lk,hcd⟩:=Fn.ex
  refine Zrk lk hcd S (λvs H Q E h=>?_) λA outer s H vs Q E hr h=>?_
  ·obtain⟨_,_,_,h,_⟩:=h
   exact h
  ·obtain⟨F,ds,y,hl,sub,tb,nt,q,hM,kk⟩:=h
   unfold HM.Zkz at hM;split at hM
   ·exact⟨_,body cdv A outer s H E hr _ _ hM,F,H,F,ZeI (N:=N) sub tb nt q (by omega),λF' H' v x1 hv=>kk F' H' v x1 hv⟩
   ·cases hM
end HP
namespace HP
open PySem PySem.W PyProof.Rows
section
variable{K:Frag}{e:Addr}{t c:Value}
theorem ZuN(q:kitOne K t c=Z ZEN):Answers (λs=>K.In s.heap/\∃o,s.heap.get? e=Z o/\o.cls=t) (.ref e) c ZEN:=by
 intro dep tk prog w A R s hs;obtain⟨h0,g,d,tt,os⟩:=s;obtain⟨⟨X,o,h1,h2⟩,hq⟩:=hs;have LT:Looks (model prog w) h0 (typeOf (.ref e)) t:=h2▸(Looks.ld h1).andThen .now;unfold kitOne at q;unfold Builtin.«isinstance.nested»;refine Zzv (LT.at ?_)
 by_cases z:(t==c)=ZEN
 ·rw[if_pos z]
  first
   | exact Zzv (ZCp (hq tt))
   | exact Zzv (ZCp (Zzz (hq tt)))
 ·rw[if_neg z]at q
  rw[if_neg z];obtain⟨c1,c2,c3⟩:=kit_cls (M:=model prog w) X q;refine Zzv (c1.at ?_);rw[if_pos (by decide)]
  k_delta "plainIsInstance"
  refine Zzv (Zzv (c2.at ?_));simp only[Bool.not_true,ZA7,if_false];refine Zzv ((LT.andThen c3).at ?_)
  first
   | exact Zzz (Zzz (hq tt))
   | (simp only[if_true]; first | exact Zzz (Zzz (hq tt)) | exact Zzz (hq tt) | exact Zzv (Zzz (Zzz (hq tt))))
theorem ZvF{prog:Program}{w:World}{A:Around}{E:Value->Shared->Prop}{s:Shared}{Q:Value->Shared->Prop}(X:K.In s.heap)(ho:∃o,s.heap.get? e=Z o/\o.cls=t)(q:kitOne K t c=Z ZEN)(h:∀tk,Q (.bool ZEN) { s with toks:=tk }) :
  wpAny (model prog w) A (call (.builtin "isinstance") [.ref e,c]) Q E s :=
 call_isinstance (S:=λ_ R s=>(K.In s.heap/\∃o,s.heap.get? e=Z o/\o.cls=t)/\∀tk,R (.ok (.ret (.bool ZEN))) { s with toks:=tk })
  (λprog w A R s hs=>isinstance_outer (ZuN q 0 _ prog w A R s hs) (by intro z; cases z)) ⟨⟨X,ho⟩,h⟩
end
end HP
namespace HP
open PySem PySem.Spec PyProof.Rows L2
abbrev ZeC(X:Cx)(e:Addr):Cx:={ X with A:=X.A.mark (Z (.ref e)),calm:=ZEO,xe:=λ_ _=>False }
abbrev ZeS(X:Cx)(pn:List (Addr × Obj))(Eh:Value->Shared->Prop):Cx:={ X with pn:=pn,xe:=Eh }
section
variable{X:Cx}{pins:List (Addr × Obj)}{σ:L2.St}{H:Hp}{s:Shared}
theorem ZoV(I:Inv X pins σ H s)(e:Addr):Inv (ZeC X e) pins σ H s :=
 ⟨⟨I.ok.mod,I.ok.kind,I.ok.glob,I.ok.blt,I.ok.above,I.ok.inj,I.ok.has,I.ok.cab,λz=>absurd (show ZEO=ZEN from z) (by simp),I.ok.frames,I.ok.stk,I.ok.exf,I.ok.bs,I.ok.bsz,I.ok.noex,I.ok.exfs,I.ok.funs,I.ok.frf⟩,I.os,I.bare,I.base,I.loc,I.cell,I.free,I.freeC,I.pin,I.hok,I.len⟩
theorem ZqN(ok:X.Ok){e:Addr}(I:Inv (ZeC X e) pins σ H s):Inv X pins σ H s:=⟨ok,I.os,I.bare,I.base,I.loc,I.cell,I.free,I.freeC,I.pin,I.hok,I.len⟩
theorem Zuv(ok:X.Ok)(pn:List (Addr × Obj))(Eh:Value->Shared->Prop):(ZeS X pn Eh).Ok:=⟨ok.mod,ok.kind,ok.glob,ok.blt,ok.above,ok.inj,ok.has,ok.cab,ok.hd,ok.frames,ok.stk,ok.exf,ok.bs,ok.bsz,ok.noex,ok.exfs,ok.funs,ok.frf⟩
theorem ZwA(I:Inv X pins σ H s)(Eh:Value->Shared->Prop):Inv (ZeS X (X.pn++pins) Eh) [] σ H s :=
 ⟨Zuv I.ok _ Eh,I.os,I.bare,I.base,I.loc,I.cell,I.free,I.freeC,λp hp=>I.pin p (by simpa using hp),I.hok,I.len⟩
theorem ZtH(ok:X.Ok){pins1:List (Addr × Obj)}{Eh:Value->Shared->Prop}(I:Inv (ZeS X (X.pn++pins) Eh) pins1 σ H s):Inv X pins σ H s :=
 ⟨ok,I.os,I.bare,I.base,I.loc,I.cell,I.free,I.freeC,λp hp=>I.pin p (ZAC _ hp),I.hok,I.len⟩
theorem Zul(I:Inv X pins σ H s){h':Heap}{m':Str->Option Value}{t':Nat}(hn:h'.Ns X.env.locals m')(hs:ZA6 X.env.locals s.heap h'):Inv X pins (ZzE X.N.length Z_) H { s with heap:=h',toks:=t' }:=by
 have k:∀{b:Addr} {o:Obj},b≠X.env.locals->s.heap.get? b=Z o->h'.get? b=Z o:=λ{b o} hb e=>(hs.2 b hb).trans e;have neL:∀{b:Addr} {o:Obj},X.s₀.heap.get? b=Z o->b≠X.env.locals:=λ{b o} e=>ZzU (ZzZ (ZzO e) I.ok.above);have trk:∀{b:Addr} {u:HO},H b=Z u->b≠X.env.locals:=λ{b u} e z=>by rw[z,I.free]at e; cases e
 refine⟨I.ok,I.os,I.bare,⟨λb o e n hb hx=>k (neL e) (I.base.keep b o e n hb hx),λb o e n hb hx=>?_,I.base.free,λb o e hx=>?_,I.base.tups,I.base.frzs,I.base.tbls⟩,⟨m',hn,λi x v _ h=>?_⟩,λx c e=>?_,I.free,I.freeC,λp hp=>?_,λb u e=>?_,by simp⟩
 ·obtain⟨sl,q⟩:=I.base.slot b o e n hb hx
  exact⟨sl,k (neL e) q⟩
 ·obtain⟨o',q⟩:=I.base.there b o e hx
  exact⟨o',k (neL e) q⟩
 ·rw[ZBB]at h
  split at h<;>cases h
 ·obtain⟨v,o,q,d⟩:=I.cell x c e
  exact⟨v,o,k (I.cne x c e) q,d⟩
 ·obtain⟨q1,q2,q3,q4⟩:=I.pin p hp
  exact⟨k q3 q1,q2,q3,q4⟩
 ·refine(I.hok b u e).stay (λc v hc q=>k ?_ q) (λ_ q=>q) λ_ _ q=>q
  rcases hc with z | z
  ·rw[z]; exact trk e
  ·exact trk z
variable{H':Hp}{s':Shared}{e:Addr}{cls a0:Value}{B:Heap}{G:V->Hp->Prop}{Q:Flow->Shared->Prop}{E:Value->Shared->Prop}{cx n:Str}{c0:Value}{np hp:Pos}{b₀:Stmt}{suite:List Stmt}{rest:List ExceptHandler}{j:Nat}
theorem Zwt(hst:X.stack=X.env::X.outer)(hfr:X.env.frame=Z X.env.locals)(I:Inv X pins σ H s)(os:s'.os=s.os)(bare:AllBare s'.gens)(U:Un (frs X.stack) [] H H' s.heap s'.heap)(hok:HOk X.prog X.w H' s'.heap)(FL:ZDf B X.stack e cls a0 s'.heap)
  (c1:∀b u o,H' b=Z u->s'.heap.get? b=Z o->B.get? b=Z o) (c2:∀b o,s.heap.get? b=Z o->H b=Z_->b ∉ frs X.stack->B.get? b=Z o) (c3:∀b o,s.heap.get? b=Z o->b ∉ frs X.stack->∃o',B.get? b=Z o')
  (hg:Gl X cx) (hm0:X.mg cx=Z c0) (hx0:ZDn X.K cls c0=Z ZEN) (hdb:(cx==("__debug__":Str))=ZEO) (hN:X.N.Nodup) (hj:X.N[j]?=Z n) (hloc:X.env.scope.names.lookup n=Z .local)
  (suiteOk:∀s7 oe,oe.cls=cls->Inv (ZeC X e) pins (σ.set j (Z (.ref e))) (upd H' e (Zaw e oe)) s7->wpAny (model X.prog X.w) (X.A.mark (Z (.ref e))) (execs (b₀::suite) X.env) (λf s8=>∃u v σ8 H8,f=.ret u/\Inv (ZeC X e) pins σ8 H8 s8/\RelV v u/\G v H8) (λ_ _=>False) s7)
  (fin:∀u v H8 σ8 s9,Inv X pins σ8 H8 s9->RelV v u->G v H8->Q (.ret u) s9) :
  wpAny (model X.prog X.w) X.A (noteFrame (.ref e) X.env) (λ_ s₂=>wpAny (model X.prog X.w) X.A (setFlight (.ref e) Z_) (λ_ s₃=>wpAny (model X.prog X.w) X.A (handleBy (.ref e) X.env (.ExceptHandler (Z (.Name cx np)) (Z n) (b₀::suite) hp::rest)) Q E s₃) E s₂) E s':=by
 have fr:X.A.frames=Z (X.env::X.outer):=by rw[<-hst]; exact I.ok.frames
 have frm:∀b∈frs X.stack,∀o,s.heap.get? b=Z o->∀ws,o.data≠.fields ws:=λb hb o q ws=>by obtain⟨_,o',q',nf⟩:=I.stack.mem hb;rw[q]at q'; cases q';exact nf ws
 have FL0:ZDf B (X.env::X.outer) e cls a0 s'.heap:=by rw[<-hst]; exact FL
 refine wpAny_looks_onW fr hfr FL0 λh4 held4 sl4=>?_;refine wpAny_landsW held4 λh5 FL5 sl5=>?_;have step:∀{h:Heap},ZDf B (X.env::X.outer) e cls a0 h->s'.heap.UpToSlots h->Un (frs X.stack) [] H H' s.heap h/\HOk X.prog X.w H' h:=λ{h} fl sl=>by obtain⟨u1,u2,_⟩:=Zsp frm (λb hb=>I.stkFree b hb) U hok c1 c2 c3 fl.1 sl;exact⟨u1,u2⟩
 obtain⟨u5,hok5⟩:=step FL5 (sl4.trans sl5);have I5:Inv X pins σ H' { s' with heap:=h5 }:=I.call' (s':={ s' with heap:=h5 }) os u5 hok5 bare λb z=>absurd z (by simp);obtain⟨ob,hob,hobc⟩:=FL5.there;refine wpAny_handleBy_cons (codeAny_handlers_test (Zhz (X:=ZeC X e) (ZoV I5 e) hg hm0 ?_ hdb)) (by intro q; cases q);have LT:PySem.W.Looks (model X.prog X.w) h5 (typeOf (.ref e)) cls:=hobc▸(PySem.W.Looks.ld hob).andThen .now;refine(PySem.W.exm_one I5.kIn LT hx0).here ?_;refine codeAny_handlers_suite_as (lands_againW FL5 λh6 FL6 sl6=>?_);obtain⟨u6,hok6⟩:=step FL6 (sl4.trans (sl5.trans sl6));obtain⟨oe,hoe,hoec⟩:=FL6.there;have hBe:B.get? e=Z_:=FL6.2.1;have hse:s.heap.get? e=Z_:=by
  cases q:s.heap.get? e with
  | none=>rfl
  | some o =>
   by_cases hb:e∈frs X.stack
   ·exfalso
    have hb':e∈frs (X.env::X.outer):=by rw[<-hst]; exact hb
    obtain⟨_,o',q',nf⟩:=FL6.2.2.1.mem hb';obtain⟨oe',vs,q2,_,q3,_⟩:=FL6.first
    rw[q']at q2; cases q2;exact nf vs q3
   ·obtain⟨o',q'⟩:=c3 e o q hb
    rw[hBe]at q'; cases q'
 have hHe:H e=Z_:=by
  cases q:H e with
  | none=>rfl
  | some u=>obtain⟨o,q'⟩:=ZjA (I.hok e u q);rw[hse]at q'; cases q'
 have hHe':H' e=Z_:=by
  cases q:H' e with
  | none=>rfl
  | some u=>obtain⟨o,q'⟩:=ZjA (hok e u q);have:=c1 e u o q q';rw[hBe]at this; cases this
 have ne:∀{b:Addr} {u:HO},H' b=Z u->b≠e:=λ{b u} q z=>by rw[z,hHe']at q; cases q
 have up:∀{b:Addr} {u:HO},H' b=Z u->upd H' e (Zaw e oe) b=Z u:=λ{b u} q=>by unfold upd; rw[if_neg (ne q)]; exact q
 have u7:Un (frs X.stack) [] H (upd H' e (Zaw e oe)) s.heap h6:=⟨u6.keep,u6.slot,λb o q n hx=>by
  have hb:b≠e:=λz=>by rw[z,hse]at q; cases q
  unfold upd; rw[if_neg hb]; exact u6.free b o q n hx,u6.there,λb xs q=>up (u6.tups b xs q),λb o u q=>up (u6.frzs b o u q),λb ps q=>by
  obtain⟨more,q'⟩:=u6.tbls b ps q;exact⟨more,up q'⟩⟩
 have hok7:HOk X.prog X.w (upd H' e (Zaw e oe)) h6:=λb u q=>by
  by_cases hb:b=e
  ·subst hb
   rw[Zy]at q; cases q;exact Zhy hoe
  ·have q':H' b=Z u:=by unfold upd at q; rw[if_neg hb]at q; exact q
   exact(hok6 b u q').stay (λ_ _ _ q=>q) (λc q=>up q) λc xs q=>up q
 have I6:Inv X pins σ (upd H' e (Zaw e oe)) { s' with heap:=h6 }:=I.call' (s':={ s' with heap:=h6 }) os u7 hok7 bare λb z=>absurd z (by simp);refine Zkk (X:=ZeC X e) (i:=j) (v:=.ref e) (ZoV I6 e) hN hj (.inl hloc) rfl (λs7 I7=>?_) (.inr hloc);refine ZAD (suiteOk s7 oe hoec I7) (λf s8 hf=>?_) λ_ _ z=>ZAp z;obtain⟨u,v,σ8,H8,rfl,I8,rv,g⟩:=hf;have I8':=ZqN I.ok I8;obtain⟨m8,hn8,_⟩:=I8'.loc;refine wpAny_nameGoes hloc hn8 (by rw[I.ok.kind]; rfl) λh9 m9 hn9 hs9=>?_;exact fin u v H8 _ _ (Zul I8' hn9 hs9) rv g
end
end HP
namespace HP
open PySem PySem.Spec PyProof.Rows L2
variable{j:Nat}{p1 p2:Pos}{n:Str}
variable[FX]
section
variable{X:Cx}{pos p:Pos}
theorem ZrY:ZaQ X (.builtin "isinstance") (λxs H Q=>∃e w oe,xs=[.ref e,w]/\H e=Z (Zaw e oe)/\(∀c,RelV w c->ZBZ X.K oe.cls c=Z ZEN)/\Q (.bl ZEN) H):=by
 intro pins s σ H xs us Q I r h;obtain⟨e,w,oe,rfl,he,hk,q⟩:=h;cases r with
 | cons r1 r =>
  cases r with
  | cons r2 r=>cases r;cases r1;exact ZvF I.kIn ⟨oe,ZbS (I.hok e _ he),rfl⟩ (hk _ r2) λtk=>⟨.bl ZEN,H,I.tok tk,rfl,q⟩
def Zy2(j:Nat)(w:V)(X:Cx):TE:=λσ H Q=>∃e oe,σ[j]?=Z (Z (.ref e))/\H e=Z (Zaw e oe)/\(∀c,RelV w c->ZBZ X.K oe.cls c=Z ZEN)/\Q (.bl ZEN) H
theorem Zp6{y:Str}{w:V}(hm:X.mg "isinstance" = Z_)(hy:PE X (.Name y p2) (tC w))(hN:X.N[j]?=Z n)(hv:Vis X.env.scope n)(hd:(n==("__debug__":Str))=ZEO)(hcd:(n==("__classdict__":Str))=ZEO)(hg:Gl X "isinstance")
  (hs1:ZzC [.Name n p1,.Name y p2] X.env=(ZEO,eval (.Name n p1) X.env)::ZzC [.Name y p2] X.env) (hs2:ZzC [.Name y p2] X.env=[(ZEO,eval (.Name y p2) X.env)]):PE X (.Call (.Name "isinstance" p) [.Name n p1,.Name y p2] [] pos) (Zy2 j w X):=by
 refine PE.imp (ZcK ZrY hg hm Zio (Zaa (ZbQ hN hv hd hcd) (Zaa hy ZbJ (by rw[hs2]; rfl)) hs1) (he:=hs1) (hpl:=by rw[hs2]; rfl)) λσ H Q ⟨e,oe,h1,h2,h3,h4⟩=>?_;exact⟨_,h1,e,w,oe,rfl,h2,h3,h4⟩
theorem Zv3{g:HM.RF}{m:HM.SF}{hd:Str->Option PyData}{body:List Stmt}{cx y1 y2:Str}{c0:Value}{w1 w2:V}{np hp rp lp q1 q2 r1 r2 z1 z2:Pos}(hst:X.stack=X.env::X.outer)(hfr:X.env.frame=Z X.env.locals)(hxe:X.xe=λ_ _=>False)(hN:X.N.Nodup)(hm:XSs X body m)
  (hR:∀(pn:List (Addr × Obj)) (Eh:Value->Shared->Prop) (E0:XK),Passes (CXE X.prog X.w) (ZeS X pn Eh) E0->XRs (ZeS X pn Eh) E0 body g)
  (hmi:X.mg "isinstance" = Z_) (hm0:X.mg cx=Z c0) (hy1:∀(e:Addr) (pn:List (Addr × Obj)),PE (ZeC (ZeS X pn λ_ _=>False) e) (.Name y1 r1) (tC w1)) (hy2:∀(e:Addr) (pn:List (Addr × Obj)),PE (ZeC (ZeS X pn λ_ _=>False) e) (.Name y2 r2) (tC w2))
  (hh:∀x d,hd x=Z d->d=.list [.bool ZEN,.bool ZEN]/\∃cls,X.mg x=Z cls/\ZDn X.K cls c0=Z ZEN/\(∀c,RelV w1 c->ZBZ X.K cls c=Z ZEN)/\∀c,RelV w2 c->ZBZ X.K cls c=Z ZEN)
  (hj:X.N[j]?=Z n:=by rfl) (hloc:X.env.scope.names.lookup n=Z .local:=by rfl) (hg0:Gl X cx:=by rfl) (hdb:(cx==("__debug__":Str))=ZEO:=by decide) (hgi:Gl X "isinstance":=by rfl) (hdn:(n==("__debug__":Str))=ZEO:=by decide) (hcd:(n==("__classdict__":Str))=ZEO:=by decide)
  (e1:ZzC [.Name n q1,.Name y1 r1] X.env=(ZEO,eval (.Name n q1) X.env)::ZzC [.Name y1 r1] X.env:=by rfl) (e2:ZzC [.Name y1 r1] X.env=[(ZEO,eval (.Name y1 r1) X.env)]:=by rfl)
  (e3:ZzC [.Name n q2,.Name y2 r2] X.env=(ZEO,eval (.Name n q2) X.env)::ZzC [.Name y2 r2] X.env:=by rfl) (e4:ZzC [.Name y2 r2] X.env=[(ZEO,eval (.Name y2 r2) X.env)]:=by rfl)
  (e5:∀a b:Expr,ZzC [.Call (.Name "isinstance" p1) [a,b] [] z1,.Call (.Name "isinstance" p2) [.Name n q2,.Name y2 r2] [] z2] X.env=(ZEO,eval (.Call (.Name "isinstance" p1) [a,b] [] z1) X.env)::ZzC [.Call (.Name "isinstance" p2) [.Name n q2,.Name y2 r2] [] z2] X.env:=by intros; rfl)
  (e6:ZzC [.Call (.Name "isinstance" p2) [.Name n q2,.Name y2 r2] [] z2] X.env=[(ZEO,eval (.Call (.Name "isinstance" p2) [.Name n q2,.Name y2 r2] [] z2) X.env)]:=by rfl) :
  XS X (.Try body [.ExceptHandler (Z (.Name cx np)) (Z n) [.Return (Z (.List [.Call (.Name "isinstance" p1) [.Name n q1,.Name y1 r1] [] z1,.Call (.Name "isinstance" p2) [.Name n q2,.Name y2 r2] [] z2] lp)) rp] hp] [] [] pos) (HM.ZoG g hd m):=by
 intro r o h;unfold HM.ZoG at h;split at h
 ·rename_i x hx
  obtain⟨d,hd1,hd2⟩:=Zzy.mp h;subst hd2;obtain⟨rfl,cls,hcls,k0,k1,k2⟩:=hh x d hd1;intro pins s σ H D I ⟨F0,H0,F,at_,k⟩;refine wpAny_Try_except ?_;generalize hEh:(λe s₁=>wpAny (model X.prog X.w) X.A (noteFrame e X.env) (λ_ s₂=>wpAny (model X.prog X.w) X.A (setFlight e Z_) (λ_ s₃=>wpAny (model X.prog X.w) X.A (handleBy e X.env _) (SP X pins D) X.xe s₃) X.xe s₂) X.xe s₁)=Eh;have hP:Passes (CXE X.prog X.w) (ZeS X (X.pn++pins) Eh) (λv _ H'=>X.mg x=Z v/\∃F',Ext F0 H0 F' H'):=by
   intro pins1 σ1 H1 s1 v s' I1 hc;obtain⟨e,cls',rfl,H',B,a0,os,bare,U,hok,FL,c1,c2,c3,hmg,F',x1⟩:=hc;rw[hcls]at hmg;cases hmg;have I1n:Inv (ZeS X (X.pn++pins) λ_ _=>False) pins1 σ1 H1 s1:=⟨Zuv I.ok _ _,I1.os,I1.bare,I1.base,I1.loc,I1.cell,I1.free,I1.freeC,I1.pin,I1.hok,I1.len⟩;show Eh (.ref e) s';rw[<-hEh];refine Zwt (X:=ZeS X (X.pn++pins) λ_ _=>False) (j:=j) (G:=λv H8=>∃F8,Ext F0 H0 F8 H8/\Rep X.K F8 (.list [.bool ZEN,.bool ZEN]) v) hst hfr I1n os bare U hok FL c1 c2 c3 hg0 hm0 k0 hdb hN hj hloc (λs7 oe hoe I7=>?_) λu v H8 σ8 s9 I9 rv ⟨F8,x8,q8⟩=>?_
   ·subst hoe
    have hlen:j<σ1.length:=by rw[I1.len]; exact(ZzL.mp hj).1
    have hsj:(σ1.set j (Z (.ref e)))[j]?=Z (Z (V.ref e)):=by simp[hlen]
    have pa:PA (ZeC (ZeS X (X.pn++pins) λ_ _=>False) e) [.Call (.Name "isinstance" p1) [.Name n q1,.Name y1 r1] [] z1,.Call (.Name "isinstance" p2) [.Name n q2,.Name y2 r2] [] z2] _ :=
     Zaa (Zp6 (j:=j) (w:=w1) hmi (hy1 e _) hj (.inl hloc) hdn hcd hgi e1 e2) (Zaa (Zp6 (j:=j) (w:=w2) hmi (hy2 e _) hj (.inl hloc) hdn hcd hgi e3 e4) ZbJ e6) (e5 _ _)
    refine ZAD (ZlY (ZiS (Zsf pa)) pins1 s7 (σ1.set j (Z (.ref e))) (upd H' e (Zaw e oe)) { nx:=λ_ _=>False,rt:=λv H8=>∃F8,Ext F0 H0 F8 H8/\Rep X.K F8 (.list [.bool ZEN,.bool ZEN]) v } I7 ?_) (λf s8 hf=>?_) λ_ _ z=>z
    ·have hHe:H' e=Z_:=by
      cases q:H' e with
      | none=>rfl
      | some u=>obtain⟨o,q'⟩:=ZjA (hok e u q);have:=c1 e u o q q';rw[FL.2.1]at this; cases this
     have x2:=x1.lay' (o:=Zaw e oe) hHe;refine⟨e,oe,hsj,Zy,k1,e,oe,hsj,Zy,k2,(show 2<=sizeLine by decide),λpp hpp=>?_⟩;exact⟨_,x2.lay (o:=.lst [.bl ZEN,.bl ZEN]) hpp,.lst (.of Zy) rfl (Zs.cons (.bl ZEN) (.one (.bl ZEN))).2⟩
    ·cases f with
     | ret u=>obtain⟨v,σ8,H8,I8,rv,q⟩:=hf;exact⟨u,v,σ8,H8,rfl,I8,rv,q⟩
     | next=>obtain⟨_,_,_,q⟩:=hf; exact q.elim
     | brk=>obtain⟨_,_,_,q⟩:=hf; exact q.elim
     | cont=>obtain⟨_,_,_,q⟩:=hf; exact q.elim
   ·exact⟨v,σ8,H8,ZtH I.ok I9,rv,k v F8 H8 x8 q8⟩
  refine ZAD (hR _ Eh _ hP r x hx [] s σ H { nx:=λ_ _=>False,rt:=λ_ _=>False } (ZwA I Eh) ⟨F0,H0,F,at_,λF' H' v x1 hv=>⟨hv,F',x1⟩⟩) (λf s1 hf=>?_) λe s1 he=>he;cases f with
  | ret u=>obtain⟨_,_,_,_,_,q⟩:=hf; exact q.elim
  | next=>obtain⟨_,_,_,q⟩:=hf; exact q.elim
  | brk=>obtain⟨_,_,_,q⟩:=hf; exact q.elim
  | cont=>obtain⟨_,_,_,q⟩:=hf; exact q.elim
 ·intro pins s σ H D I t
  refine wpAny_Try_except (ZAD (hm r o h pins s σ H D I t) (λf s1 hf=>?_) λe s1 he=>?_)
  ·cases f with
   | next=>exact ZCx hf
   | ret u=>exact hf
   | brk=>exact hf
   | cont=>exact hf
  ·rw[hxe]at he; exact he.elim
end
end HP
namespace HP
open PySem PySem.Spec PyProof.Rows L2
theorem ZlT:fillsNumberSlot (.type "tuple") "mul" = pure ZEO :=
 PySem.fillsNumberSlot_seq (r:=Z (.builtin "tuple.__rmul__")) F.slot_tuple_mul.lookup (by decide +kernel) F.slot_tuple_rmul.lookup (by decide +kernel)
theorem ZqZ:seqRepeat? (.type "tuple")=pure (Z (.builtin "tuple.__mul__")):=by unfold seqRepeat?;rw[PySem.seqSlot_of (T:="tuple") (name:="__mul__") (id:="tuple.__mul__") F.slot_tuple_mul.lookup (by decide +kernel),PySem.seqSlot_of (T:="tuple") (name:="__rmul__") (id:="tuple.__rmul__") F.slot_tuple_rmul.lookup (by decide +kernel)];rfl
theorem Ztc(a:Int)(t:Tok)(l:Addr)(dd:Option Addr)(items:Array Value)(n:Nat)(sl:Array (Option Value)) :
  Meets (Builtin.«int.__rmul__» ⟨[.int a t,.ref l],[]⟩) (λ_ R s=>s.heap.get? l=Z ⟨.type "tuple",dd,.seq items n,sl⟩/\R (.ok (.ret Value.notImplemented)) s) :=
 .of_wp λprog w A R s h=>by
  obtain⟨hp,g,d,tk,os⟩:=s;obtain⟨hl,h⟩:=h
  wp_walk
  exact⟨_,rfl,h⟩
section
variable{prog:Program}{w:World}{A:Around}{E:Value->Shared->Prop}{s:Shared}
theorem ZvA{l:Addr}{dd:Option Addr}{items:Array Value}{n:Nat}{sl:Array (Option Value)}{k:Int}{t:Tok}{P:PySem.Fin->Shared->Prop}(ho:s.heap.get? l=Z ⟨.type "tuple",dd,.seq items n,sl⟩)(h0:0<=k)(h1:k<1000)(hz:items.size<1000)(hs:sizeOk (.seq ((ZzE k.toNat items).foldl (·++·) #[])))
  (same:(items.isEmpty||k==1)=ZEN->P (.done (.ret (.ref l))) s) (new:(items.isEmpty||k==1)=ZEO->P (.done (.ret (.ref s.heap.objs.size))) { s with heap:=s.heap.push { cls:=.type "tuple",data:=.seq ((ZzE k.toNat items).foldl (·++·) #[]) } }) :
  wpAny (model prog w) A (Builtin.«tuple.__mul__» ⟨[.ref l,.int k t],[]⟩) P E s:=by
 unfold Builtin.«tuple.__mul__»
 k_delta "repeated"
 have n1:¬(decide (k < -(2:Int) ^ 63)||decide (k ≥ (2:Int) ^ 63))=ZEN:=by rw[ZBt,decide_eq_true_eq,decide_eq_true_eq]; omega
 obtain⟨hp,g,d,tk,os⟩:=s
 wp_walk
 rw[if_neg n1];dsimp only;refine Zzv (wpAny_tupleItemsOf ho rfl ?_)
 by_cases c:(items.isEmpty||k==1)=ZEN
 ·rw[if_pos c]
  refine Zzv ?_;unfold Builtin.Tuple.tupleIsExact;refine Zzv (ZDU (T:="tuple") ⟨_,ho,rfl⟩ (Zzz ?_));rw[if_pos (by decide)];exact Zzv (ZCp (Zzz (same c)))
 ·rw[if_neg c]
  have new:=new (by simpa using c);have ne:items.isEmpty=ZEO:=by
   cases q:items.isEmpty with
   | false=>rfl
   | true=>rw[q]at c; exact absurd rfl c
  by_cases hk:k<=0
  ·have e:k=0:=by omega
   subst e;rw[if_pos (by simp)];refine Zzv ?_;unfold ZAJ;exact ZAa (Zzz new)
  ·rw[if_neg (by rw[ne,Bool.or_false,decide_eq_true_eq]; exact hk)]
   have b1:(items.size:Int)*k<=1000*1000:=Int.mul_le_mul (by omega) (by omega) (by omega) (by omega);rw[if_neg (by omega),if_neg (by unfold Builtin.Tuple.tupleTooMany; rw[decide_eq_true_eq,ZAS]; omega)];refine Zzv ?_;unfold ZAJ;exact ZAa (Zzz new) hs
end
section
variable[FX]{X:Cx}{a b:Expr}{fa fb:HM.EF}{pos:Pos}
def ZxZ(K:Zzx)(x y:V)(H:Hp)(Q:VK):Prop:=∃l k xs,x=.ref l/\y=.int k/\SqT K H l xs/\0<=k/\k<1000/\xs.length<1000/\((xs=[]\/k=1)->Q (.ref l) H)/\∀p,H p=Z_->Q (.ref p) (upd H p (.tup (ZzE k.toNat xs).flatten))
theorem Zu3:OpR X (ZBL .Mult) (ZxZ X.K):=by
 intro pins s σ H x y v u Q I rx ry h;obtain⟨l,k,xs,rfl,rfl,hq,h0,h1,hz,q1,q2⟩:=h;cases rx;obtain⟨t,rfl⟩:=ry;obtain⟨its,r,⟨o,ho,hc,n,hd⟩,_⟩:=I.tuple hq;have hl:its.length=xs.length:=r.length.symm;obtain⟨ocls,dd,odata,sl⟩:=o;simp only at hc hd;subst hc hd;have f0:ZDJ (λx1 x2=>x1++x2) #[] (ZzE k.toNat its.toArray)=(ZzE k.toNat its).flatten.toArray:=by have:=foldl_rep its k.toNat [];rw[ZBr]at this;exact this
 have hlen:(ZzE k.toNat xs).flatten.length<=sizeLine:=by
  rw[len_rep];have e3:(1000*1000:Nat)<=sizeLine:=by decide
  exact ZAn (Nat.mul_le_mul (by omega) (by omega)) e3
 have hsz:sizeOk (.seq (ZDJ (λx1 x2=>x1++x2) #[] (ZzE k.toNat its.toArray))):=by rw[f0];show(ZzE k.toNat its).flatten.toArray.size<=sizeLine;rw[ZzN,<-(r.rep k.toNat).length];exact hlen
 refine wpAny_binaryOp_repeat_ref (T:="tuple") (U:="int") (by decide) ⟨_,ho,rfl⟩ (λs'=>ZDI s' k t) ZlT F.fills_int_mul F.slot_int_rmul ZqZ F.slot_int_index.lookup
  (ZC8 F.slot_int_rmul (ZDI s k t) F.entry_int_rmul (F.args_int_rmul_2 _ _) (Ztc k t l dd its.toArray n sl) ⟨ho,rfl,⟨_,ho,rfl⟩,ZAB F.slot_tuple_mul ⟨_,ho,rfl⟩ F.entry_tuple_mul (ZvA ho h0 h1 (by rw[ZzN]; omega) hsz (λc=>⟨_,rfl,?_⟩) λc=>⟨_,rfl,?_⟩) (F.args_tuple_mul_2 _ _)⟩)
 ·refine⟨.ref l,H,I,rfl,q1 ?_⟩
  rw[ZBt,beq_iff_eq]at c;rcases c with c | c
  ·left
   have:its.length=0:=by simpa using c
   exact ZAv (by omega)
  ·exact .inr c
 ·rw[f0]
  exact⟨.ref _,_,I.laid (a:=s.heap.objs.size) (o:=.tup (ZzE k.toNat xs).flatten) (t':=s.toks) (λ_ _ e=>ZzA _ e) (ZzH _) ⟨hlen,_,r.rep k.toNat,_,ZzP _ rfl,rfl,0,rfl⟩,rfl,q2 _ I.fresh⟩
theorem ZpT(ha:XE X a fa)(hb:XE X b fb):XE X (.BinOp a .Mult b pos) (HM.Zjy fa fb):=by
 intro r d h;unfold HM.Zjy at h;split at h
 case h_2=>cases h
 rename_i xs hx;split at h
 case h_2=>cases h
 rename_i k hk;split at h
 case isFalse=>cases h
 rename_i hz;cases h;rw[ZzW,ZzW,decide_eq_true_eq,decide_eq_true_eq,decide_eq_true_eq]at hz;refine PE.imp (ZjB Zu3 (ha r _ hx) (hb r _ hk)) λσ H Q ⟨F0,H0,F,at_,kk⟩=>?_;refine⟨F0,H0,F,at_,λv F1 H1 x1 r1=>⟨F0,H0,F1,at_.grow x1,λw F2 H2 x2 r2=>?_⟩⟩;have r1':=r1.mono x2.ff;obtain⟨l,vs,rfl,hq,rs⟩:=Zhv r1';have hl:=rs.1;refine⟨l,k,vs,rfl,r2.int_inv,hq.imp (λz=>z.imp (x2.sub _ _) λ⟨o,z⟩=>⟨o,x2.sub _ _ z⟩) id,hz.1.1,hz.1.2,by omega,λc=>?_,λp hp=>?_⟩
 ·refine kk _ F2 H2 (x1.trans x2) ?_
  have e:(ZzE k.toNat xs).flatten=xs:=by
   rcases c with c | c
   ·have:xs=[]:=ZAv (by rw[hl,c]; rfl)
    rw[this]; simp
   ·rw[c]; simp
  rw[e]; exact r1'
 ·have q:Zs X.K (upd F2 p (.tup (ZzE k.toNat vs).flatten)) (ZzE k.toNat xs).flatten (ZzE k.toNat vs).flatten:=(rs.rep k.toNat).mono (Zq.upd' ((x1.trans x2).sub.free hp))
  exact kk _ _ _ ((x1.trans x2).lay (o:=.tup (ZzE k.toNat vs).flatten) hp) (.tup Zy q.1 q.2)
end
end HP
namespace HP
open PySem PySem.Spec PyProof.Rows L2
variable{h:Heap}{np:Pos}{K:Zzx}{cx x:Str}{mg:Str->Option Value}
theorem ZmP:ZAy "ValueError" = Z (.type "ValueError"):=by decide +kernel
theorem Zwk{C:Addr}{bmB:List Value}{newId:String}(X:K.In h)(hm:mg x=Z (.ref C))(q:ZDz K C bmB newId=ZEN):OwnCls x C bmB newId mg h:=by
 refine⟨hm,?_⟩;unfold ZDz at q;split at q
 case h_2=>cases q
 rename_i d0 c0 s0 h0;split at q
 case h_2=>cases q
 rename_i C1 tl v0 v1 v2 v3 nn v5 h1 h2;rw[ZzW,ZzW,ZzW,ZzW,ZzW,beq_iff_eq,beq_iff_eq,beq_iff_eq,Bool.not_eq_true']at q;obtain⟨⟨⟨⟨⟨rfl,rfl⟩,q1⟩,q2⟩,q3⟩,q4⟩:=q;cases c0 with
 | mk nm bs mro ns qn hd sn sub ab col del =>
  dsimp only at h1 q1 q3 q4;subst h1 q1;have e:s0=#[v0,v1,v2,v3,Z (.builtin nn),v5]:=by
   cases s0 with
   | mk l=>simp only at h2;rw[h2]
  subst e;exact⟨tl,ns,nm,qn,bs,hd,sn,sub,ab,col,d0,v0,v1,v2,v3,v5,_,X _ _ h0,.of_isNs (PySem.W.isNs_of_in X q3),PySem.W.nsMap_none_of_in X q3 q4,PySem.W.tail_of_in X q2⟩
structure Zq0(K:Zzx)(mg:Str->Option Value)(cx x:Str):Prop where
 ex:∃C0 C1:Addr,mg cx=Z (.ref C0)/\mg x=Z (.ref C1)/\ZDz K C1 [.type "ValueError",.type "Exception",.type "BaseException",.type "object"] "ValueError.__new__" = ZEN/\ZDn K (.ref C1) (.ref C0)=Z ZEN/\ZBZ K (.ref C1) (.type "ValueError")=Z ZEN
theorem Zxc{C0 C1:Addr}(X:K.In h)(G:h.Ns ZAb mg)(a:ZBa K ZAb cx=Z (Z (.ref C0)))(b:ZBa K ZAb x=Z (Z (.ref C1)))
  (c:ZDz K C1 [.type "ValueError",.type "Exception",.type "BaseException",.type "object"] "ValueError.__new__" = ZEN) (d:ZDn K (.ref C1) (.ref C0)=Z ZEN) (e:ZBZ K (.ref C1) (.type "ValueError")=Z ZEN):Zq0 K mg cx x :=
 ⟨C0,C1,ZBQ X G a,ZBQ X G b,c,d,e⟩
variable[FX]
section
variable{X:Cx}{E:XK}{pos:Pos}{e:Expr}{es:List Expr}{f:HM.AF}{st:Stmt}{sts rest:List Stmt}{g:HM.RF}
theorem Zn3:XRs X E sts HM.rNo:=λr x h=>by cases h
theorem ZdV(h1:XR X E st g):XRs X E (st::rest) g:=λr x h=>PSs.imp (ZdS (h1 r x h) ZcF) λD σ H ⟨F0,H0,F,at_,k⟩=>⟨F0,H0,F,at_,k⟩
theorem Zmp{cpos:Pos}(fl:Zrs X E)(hc:X.calm=ZEN)(T:Zq0 X.K X.mg cx x)(ha:XA X (e::es) f)
  (hg:Gl X x:=by rfl) (hdb:(x==("__debug__":Str))=ZEO:=by decide) (he:ZzC (e::es) X.env=(ZEO,eval e X.env)::ZzC es X.env:=by rfl) (hpl:(backTo cpos (ZzC es X.env)).any (·.1)=ZEO:=by rfl)
  (hl:(e::es).length<=sizeLine:=by decide):XR X E (.Raise (Z (.Call (.Name x np) (e::es) [] cpos)) Z_ pos) (HM.Zjh x f):=by
 obtain⟨C0,C1,h0,h1,h2,h3,h4⟩:=T.ex;intro r y h pins s σ H D I t;exact Zs9 fl hc (Zwk I.mod.kin h1 h2) PySem.F.excBase_ValueError ha hg hdb he hpl hl r y h pins s σ H D I t
theorem ZuK{m:HM.SF}{body:List Stmt}{n:Str}{j:Nat}{hp rp lp p1 p2 q1 q2 r1 r2 z1 z2:Pos}(T:Zq0 X.K X.mg cx x)(hmv:X.mg "ValueError" = Z_)(hmi:X.mg "isinstance" = Z_)(hst:X.stack=X.env::X.outer)(hfr:X.env.frame=Z X.env.locals)(hxe:X.xe=λ_ _=>False)(hN:X.N.Nodup)(hm:XSs X body m)
  (hR:∀(pn:List (Addr × Obj)) (Eh:Value->Shared->Prop) (E0:XK),Passes (CXE X.prog X.w) (ZeS X pn Eh) E0->XRs (ZeS X pn Eh) E0 body g)
  (hj:X.N[j]?=Z n:=by rfl) (hloc:X.env.scope.names.lookup n=Z .local:=by rfl) (hg0:Gl X cx:=by rfl) (hg1:Gl X x:=by rfl) (hg2:Gl X "ValueError":=by rfl) (hdb:(cx==("__debug__":Str))=ZEO:=by decide) (hdx:(x==("__debug__":Str))=ZEO:=by decide) (hgi:Gl X "isinstance":=by rfl) (hdn:(n==("__debug__":Str))=ZEO:=by decide) (hcd:(n==("__classdict__":Str))=ZEO:=by decide)
  (e1:ZzC [.Name n q1,.Name x r1] X.env=(ZEO,eval (.Name n q1) X.env)::ZzC [.Name x r1] X.env:=by rfl) (e2:ZzC [.Name x r1] X.env=[(ZEO,eval (.Name x r1) X.env)]:=by rfl)
  (e3:ZzC [.Name n q2,.Name "ValueError" r2] X.env=(ZEO,eval (.Name n q2) X.env)::ZzC [.Name "ValueError" r2] X.env:=by rfl) (e4:ZzC [.Name "ValueError" r2] X.env=[(ZEO,eval (.Name "ValueError" r2) X.env)]:=by rfl)
  (e5:∀a b:Expr,ZzC [.Call (.Name "isinstance" p1) [a,b] [] z1,.Call (.Name "isinstance" p2) [.Name n q2,.Name "ValueError" r2] [] z2] X.env=(ZEO,eval (.Call (.Name "isinstance" p1) [a,b] [] z1) X.env)::ZzC [.Call (.Name "isinstance" p2) [.Name n q2,.Name "ValueError" r2] [] z2] X.env:=by intros; rfl)
  (e6:ZzC [.Call (.Name "isinstance" p2) [.Name n q2,.Name "ValueError" r2] [] z2] X.env=[(ZEO,eval (.Call (.Name "isinstance" p2) [.Name n q2,.Name "ValueError" r2] [] z2) X.env)]:=by rfl) :
  XS X (.Try body [.ExceptHandler (Z (.Name cx np)) (Z n) [.Return (Z (.List [.Call (.Name "isinstance" p1) [.Name n q1,.Name x r1] [] z1,.Call (.Name "isinstance" p2) [.Name n q2,.Name "ValueError" r2] [] z2] lp)) rp] hp] [] [] pos) (HM.ZoG g (HM.hdT x) m):=by
 obtain⟨C0,C1,h0,h1,h2,h3,h4⟩:=T.ex;refine Zv3 (j:=j) (c0:=.ref C0) (w1:=.ref C1) (w2:=.ty "ValueError") hst hfr hxe hN hm hR hmi h0 (λe pn=>Zju hg1 h1 rfl hdx) (λe pn=>Zqu hg2 hmv ZmP rfl (by decide) (by decide)) (λy d hd=>?_) hj hloc hg0 hdb hgi hdn hcd e1 e2 e3 e4 e5 e6;unfold HM.hdT at hd;split at hd
 ·rename_i hy
  cases hd;rw[beq_iff_eq.mp hy];refine⟨rfl,.ref C1,h1,h3,λc rc=>?_,λc rc=>?_⟩
  ·obtain rfl:c=.ref C1:=rc
   unfold ZBZ;rw[if_pos (by simp)]
  ·obtain rfl:c=.type "ValueError":=rc
   exact h4
 ·cases hd
end
end HP
namespace HM
open PySem
variable{i:Int}{ds:List D}{n:Nat}
theorem Zcl{α:Type}{c:TF}{e:EF}{r:Env}(g:α->D)(p:α->Bool)(f:α->D):∀(xs:List α),(∀x∈xs,c (Z (.pl (g x))::r)=Z (p x))->(∀x∈xs,p x=ZEN->e (Z (.pl (g x))::r)=Z (f x))->Zan c e r (xs.map g)=Z ((xs.filter p).map f)
 | [],_,_=>rfl
 | x::xs,h1,h2=>by
  have ih:=Zcl g p f xs (λy hy=>h1 y (ZzD _ hy)) (λy hy=>h2 y (ZzD _ hy));have hc:=h1 x (ZzB ..);rw[ZzG];unfold Zan;rw[hc];cases hp:p x with
  | true=>have he:=h2 x (ZzB ..) hp;dsimp only;rw[he];dsimp only;rw[ih,ZD6 hp];rfl
  | false=>dsimp only;rw[ih,ZD7 (by simp[hp])]
theorem Zbg{α:Type}{e:EF}{r:Env}(g:α->D)(f:α->D)(xs:List α)(h:∀x∈xs,e (Z (.pl (g x))::r)=Z (f x)):Zan ZS e r (xs.map g)=Z (xs.map f):=by rw[Zcl g (λ_=>ZEN) f xs (λ_ _=>rfl) λx hx _=>h x hx,ZBh.mpr λ_ _=>rfl]
theorem ZjH{α:Type}{i:Nat}{body:SF}(g:α->D)(P:List α->Env->Prop)(xs:List α)(r:Env)(h0:P [] r)
  (hs:∀pre x post r,xs=pre++x::post->P pre r->∃r',body (r.set i (Z (.pl (g x))))=Z (.nx r')/\P (pre++[x]) r'):∃r',ZaG i body (xs.map g) r=Z (.nx r')/\P xs r':=by
 have key:∀(post pre:List α) (r:Env),xs=pre++post->P pre r->∃r',ZaG i body (post.map g) r=Z (.nx r')/\P xs r':=by
  intro post
  induction post with
  | nil=>intro pre r e h; rw[ZAe]at e; subst e; exact⟨r,rfl,h⟩
  | cons x post ih=>intro pre r e h;obtain⟨r1,h1,h2⟩:=hs pre x post r e h;obtain⟨r2,h3,h4⟩:=ih (pre++[x]) r1 (by rw[e,ZBx]; rfl) h2;refine⟨r2,?_,h4⟩;rw[ZzG];unfold ZaG;rw[h1];exact h3
 exact key xs [] r rfl h0
def Zxt{α S:Type}(q:S->α->Bool)(step:S->α->S):S->List α->Bool
 | _,[]=>ZEN
 | s,x::xs=>q s x&&Zxt q step (step s x) xs
abbrev dI(i:Int):D:=ZAs i
abbrev dN(k:Nat):D:=ZAs (k:Int)
theorem Zh2(ns:List Int):ofInts ns=ns.map dI:=rfl
theorem ZaT(n:Nat):ZcS 0 n=(ZzQ n).map dN:=by unfold ZcS;refine ZA3 λk _=>?_;show ZAs (0+(k:Int))=ZAs (k:Int);rw[Int.zero_add]
theorem Zgn(ns:List Int):ZaX (ns.map dI)=Z ns:=by
 induction ns with
 | nil=>rfl
 | cons n ns ih=>show(ZaX (ns.map dI)).map (n::·)=_; rw[ih]; rfl
theorem ZeB(bs:List Bool):ZdG (bs.map λb=>ZAK b)=Z bs:=by
 induction bs with
 | nil=>rfl
 | cons b bs ih=>show(ZdG (bs.map λb=>ZAK b)).map (b::·)=_; rw[ih]; rfl
abbrev tupI(ns:List Int):D:=Zz7 (ns.map dI)
theorem Zdv{j:Nat}{d:D}(h:ds[j]?=Z d):atD ds (j:Int)=Z d:=by have hj:j<ds.length:=(ZzL.mp h).1;unfold atD ixN;rw[if_pos (by omega),if_pos (by omega)];simpa using h
theorem Zjz{d:D}(h0:0<=i)(h:ds[i.toNat]?=Z d):atD ds i=Z d:=by
 have e:i=((i.toNat:Nat):Int):=by omega
 rw[e]; exact Zdv (by simpa using h)
@[simp] theorem ZxN(d:D)(r:List D):atD (d::r) 0=Z d:=Zdv (j:=0) rfl
@[simp] theorem Zzn(a d:D)(r:List D):atD (a::d::r) 1=Z d:=Zdv (j:=1) rfl
@[simp] theorem Zzm(a b d:D)(r:List D):atD (a::b::d::r) 2=Z d:=Zdv (j:=2) rfl
@[simp] theorem Zzl(a b c d:D)(r:List D):atD (a::b::c::d::r) 3=Z d:=Zdv (j:=3) rfl
@[simp] theorem Zzp(a b c e d:D)(r:List D):atD (a::b::c::e::d::r) 4=Z d:=Zdv (j:=4) rfl
theorem ZyG(i j:Int)(h:(ZX i||ZX j)=ZEN):Zdg (.int i) (.int j)=Z (.int (i*j)):=by show(if ZX i||ZX j then Z (ZAs (i*j))else Z_)=_;rw[if_pos h]
@[simp] theorem ZyB:ZX 7=ZEN:=rfl
@[simp] theorem Zym:ZX 11=ZEN:=rfl
@[simp] theorem Zyu:ZX 13=ZEN:=rfl
@[simp] theorem Zyj:ZX 17=ZEN:=rfl
@[simp] theorem Zyh:ZX 19=ZEN:=rfl
@[simp] theorem Zyv:ZX 23=ZEN:=rfl
@[simp] theorem Zyp:ZX 29=ZEN:=rfl
@[simp] theorem Zyn:ZX 31=ZEN:=rfl
@[simp] theorem Zyq:ZX 37=ZEN:=rfl
@[simp] theorem Zyl:ZX 41=ZEN:=rfl
@[simp] theorem Zyw:ZX 43=ZEN:=rfl
@[simp] theorem Zyo:ZX 47=ZEN:=rfl
@[simp] theorem Zyk:ZX 53=ZEN:=rfl
@[simp] theorem Zyy:ZX 59=ZEN:=rfl
@[simp] theorem Zyx:ZX 61=ZEN:=rfl
@[simp] theorem Zyt:ZX 67=ZEN:=rfl
@[simp] theorem Zyr:ZX 71=ZEN:=rfl
@[simp] theorem Zyi:ZX 73=ZEN:=rfl
@[simp] theorem Zxa:ZX 48271=ZEN:=rfl
@[simp] theorem ZyU:ZX 2=ZEN:=rfl
@[simp] theorem Zy7:ZX 3=ZEN:=rfl
@[simp] theorem Zy3:ZX 5=ZEN:=rfl
theorem ZiW(h1:-1000000000<i)(h2:i<1000000000):ZX i=ZEN:=by
 unfold ZX;have:i.natAbs<18446744073709551616:=by omega
 exact ZCJ.mpr this
theorem Zf3(h:n<1000000):okR (n:Int)=ZEN:=ZCJ.mpr (by omega)
@[simp] theorem ZxR(i:Int):Za6 (.int i)=ZEN:=rfl
@[simp] theorem ZxG(i:Bool):Za6 (.bool i)=ZEN:=rfl
@[simp] theorem ZxF:Za6 .none=ZEN:=rfl
@[simp] theorem Zze(i j:Int):ZAV (.int i) (.int j)=(i==j):=rfl
structure Wk where
 many:Nat
 deeds:List (List (List Int))
 looks:List (List Int)
 beg:List Int
 goal:List Int
noncomputable def Z3 (dd:List (List Int)):D:=.tuple (dd.map tupI)
def Wk.d(w:Wk):D:=.tuple [.int w.many,.tuple (w.deeds.map Z3),.tuple (w.looks.map tupI),tupI w.beg,tupI w.goal]
def Cr(n:Nat)(c:List Int):Prop:=c.Pairwise (· < ·)/\∀x∈c,0<=x/\x<(n:Int)
structure Wk.Ok(w:Wk):Prop where
 m1:2<=w.many
 m2:w.many<=5
 d1:1<=w.deeds.length
 d2:w.deeds.length<=3
 dl:∀dd∈w.deeds,dd.length=w.many
 dc:∀dd∈w.deeds,∀c∈dd,Cr w.many c
 l2:w.looks.length<=3
 ll:∀l∈w.looks,l.length=w.many
 lc:∀l∈w.looks,∀x∈l,0<=x/\x<=9
 b1:w.beg≠[]
 bc:Cr w.many w.beg
 g1:w.goal≠[]
 gc:Cr w.many w.goal
theorem Cr.len:∀{c:List Int},Cr n c->c.length<=n:=by
 have key:∀(c:List Int) (l:Int),c.Pairwise (· < ·)->(∀x∈c,l<=x/\x<(n:Int))->(c.length:Int)<=max 0 ((n:Int)-l):=by
  intro c
  induction c with
  | nil=>intro l _ _; simp; omega
  | cons x c ih=>intro l hp hb;have h1:=hb x (ZzB ..);have h2:=ih (x+1) (ZAo.mp hp).2 λy hy=>⟨by have:=(ZAo.mp hp).1 y hy; omega,(hb y (ZzD _ hy)).2⟩;rw[ZzS];omega
 intro c h;have:=key c 0 h.1 h.2;omega
theorem sortI_perm(ns:List Int):(sortI ns).Perm ns:=ZCw ns _
theorem Zt2(ns:List Int):(sortI ns).Pairwise (·<=·):=by have h:=ZCP (le:=λa b:Int=>decide (a<=b)) (λa b c h1 h2=>by simp at *; omega) (λa b=>by simp; omega) ns;exact h.imp λh=>by simpa using h
theorem Zj5:∀{ns:List Int},ns.Pairwise (·<=·)->ns.Nodup->ns.Pairwise (· < ·)
 | [],_,_=>.nil
 | n::ns,h,hn=>by obtain⟨h1,h2⟩:=ZAo.mp h;obtain⟨n1,n2⟩:=ZAm.mp hn;refine ZAo.mpr ⟨λx hx=>?_,Zj5 h2 n2⟩;have:=h1 x hx;have:n≠x:=λe=>n1 (e▸hx);omega
theorem Zh7{ns:List Int}(hn:ns.Nodup)(hb:∀x∈ns,0<=x/\x<(n:Int)):Cr n (sortI ns) :=
 ⟨Zj5 (Zt2 ns) ((sortI_perm ns).nodup_iff.mpr hn),λx hx=>hb x ((sortI_perm ns).mem_iff.mp hx)⟩
theorem Zh4(ns:List Int)(h:ns.length<64):Ze8 (ns.map dI)=Z ((sortI ns).map dI):=by unfold Ze8;rw[if_pos (by rw[Zzw]; exact h),Zgn];rfl
theorem Zfl:∀(ns acc:List Int) (x:Int),x∈dedup acc ns↔x∈acc\/x∈ns
 | [],acc,x=>by simp[dedup]
 | n::ns,acc,x=>by
  unfold dedup;split
  ·rename_i h
   have h':n∈acc:=by simpa using h
   rw[Zfl ns acc x]
   constructor
   ·rintro (h | h)
    ·exact .inl h
    ·exact .inr (ZzD _ h)
   ·rintro (h | h)
    ·exact .inl h
    ·rcases ZzK.mp h with e | e
     ·exact .inl (e▸h')
     ·exact .inr e
  ·rw[Zfl ns _ x,Zz3,ZzF,ZzK]
   constructor
   ·rintro ((h | h) | h)
    ·exact .inl h
    ·exact .inr (.inl h)
    ·exact .inr (.inr h)
   ·rintro (h | h | h)
    ·exact .inl (.inl h)
    ·exact .inl (.inr h)
    ·exact .inr h
theorem Ze9:∀(ns acc:List Int),acc.Nodup->(dedup acc ns).Nodup
 | [],acc,h=>h
 | n::ns,acc,h=>by
  unfold dedup;split
  ·exact Ze9 ns acc h
  ·rename_i hc
   have hc':n ∉ acc:=by simpa using hc
   refine Ze9 ns _ ?_;rw[ZBy];exact⟨h,by simp,λa ha b hb=>by simp at hb; subst hb; exact λe=>hc' (e▸ha)⟩
end HM
namespace HG
open PySem HM
def ZiA:SF :=
 (Zu (sIf (tOr (tV (ZhN (Zc 0) .bool)) (ZcZ (tV (ZhN (Zc 0) .int)))) (ZB (eC (.bool ZEO))) ZaY)
  (ZB (Zlh gLe gLe (Zc 1) (Zc 0) (Zc 2))))
def Zab:List D->Option D:=fnOf 3 3 ZiA
def Zl1:SF :=
 (ZB (Zha (ZhN (Zc 0) .tuple) (Zlh gLe gLe (Zc 1) (Za2 (Zn 0)) (Zc 2))))
def Z6:List D->Option D:=fnOf 3 3 Zl1
def Zat:SF :=
 (Zu (sIf (ZcZ (tV (Zk Zab (Za (Zc 3) (Za (Zc 2) (Za (op2 ZlK (Zc 1) (eC (.int 1))) Ze)))))) (ZB (eC (.bool ZEO))) ZaY)
  (Zae 2 (op2 ZbI (Zc 3) (eC (.int 1)))))
def Zeb:SF :=
 (Zu (sIf (ZcZ (tV (ZhN (Zc 0) .tuple))) (ZB (eC (.bool ZEO))) ZaY)
  (Zu (Zae 2 (eC (.int 0)))
  (Zu (Zbx 3 (Zad (bOf (Zc 0))) Zat)
  (ZB (eC (.bool ZEN))))))
def Zau:List D->Option D:=fnOf 2 4 Zeb
def ZhC:SF :=
 (ZB (Zha (Zk Z6 (Za (Zc 0) (Za (Zc 1) (Za (Zc 1) Ze)))) (Zh0 (ZF (Zad (bOf (Zc 0))) ZS (Zk Zau (Za (Zc 0) (Za (Zc 2) Ze)))))))
def ZcG:List D->Option D:=fnOf 2 2 ZhC
def ZhD:SF :=
 (ZB (Zha (Zk Z6 (Za (Zc 0) (Za (Zc 1) (Za (Zc 1) Ze)))) (Zh0 (ZF (Zad (bOf (Zc 0))) ZS (Zk Zab (Za (Zc 0) (Za (eC (.int 0)) (Za (eC (.int 9)) Ze))))))))
def ZcH:List D->Option D:=fnOf 2 2 ZhD
def ZiB:SF :=
 (ZB (Zha (Zk Z6 (Za (Zc 0) (Za (eC (.int 1)) (Za (eC (.int 5)) Ze)))) (Zh0 (ZF (Zad (bOf (Zc 0))) ZS (Zk ZcG (Za (Zc 0) (Za (Zc 2) Ze)))))))
def Zc7:List D->Option D:=fnOf 2 2 ZiB
def ZiC:SF :=
 (ZB (Zha (Zk Z6 (Za (Zc 0) (Za (eC (.int 0)) (Za (eC (.int 4)) Ze)))) (Zh0 (ZF (Zad (bOf (Zc 0))) ZS (Zk ZcH (Za (Zc 0) (Za (Zc 2) Ze)))))))
def Zc8:List D->Option D:=fnOf 2 2 ZiC
def ZjQ:SF :=
 (ZB (Zha (Zk Zau (Za (Zc 0) (Za (Zc 1) Ze))) (op2 gGt (Za2 (Zn 0)) (eC (.int 0)))))
def ZdC:List D->Option D:=fnOf 2 2 ZjQ
def ZiD:SF :=
 (Zu (sIf (tOr (ZcZ (tV (Zk Z6 (Za (Zc 0) (Za (eC (.int 5)) (Za (eC (.int 5)) Ze)))))) (ZcZ (tV (Zk Zab (Za (eIx (Zn 0) (eC (.int 0))) (Za (eC (.int 1)) (Za (eC (.int 8)) Ze))))))) (ZB (eC (.bool ZEO))) ZaY)
  (Zu (Zae 1 (eIx (Zn 0) (eC (.int 0))))
  (Zu (sIf (tOr (ZcZ (tV (Zk Zc7 (Za (eIx (Zn 0) (eC (.int 1))) (Za (Zc 1) Ze))))) (ZcZ (tV (Zk Zc8 (Za (eIx (Zn 0) (eC (.int 2))) (Za (Zc 1) Ze)))))) (ZB (eC (.bool ZEO))) ZaY)
  (ZB (Zha (Zk ZdC (Za (eIx (Zn 0) (eC (.int 3))) (Za (Zc 1) Ze))) (Zk Zau (Za (eIx (Zn 0) (eC (.int 4))) (Za (Zc 1) Ze))))))))
def Zc9:List D->Option D:=fnOf 1 2 ZiD
def ZjR:SF :=
 (ZB (eIx (Zn 0) (eC (.int 1))))
def Zaz:List D->Option D:=fnOf 1 1 ZjR
def ZjS:SF :=
 (ZB (eIx (Zn 0) (eC (.int 2))))
def Zby:List D->Option D:=fnOf 1 1 ZjS
def ZkP:SF :=
 (Zu (sIf (ZcZ (tV (Zk Zc9 (Za (Zc 0) Ze)))) Zi6 ZaY)
  (ZB (Zc 0)))
def Zbc:List D->Option D:=fnOf 1 1 ZkP
def ZkQ:SF :=
 (ZB (Zah (ZF (Zad (bOf (Zc 1))) ZS (eIx (bOf (eIx (bOf (Zk Zby (Za (Zc 1) Ze))) (Zc 0))) (Zc 3)))))
def Zec:List D->Option D:=fnOf 3 3 ZkQ
def Zhl:SF :=
 (Zu (Zae 3 (eIx (bOf (Zk Zaz (Za (Zc 0) Ze))) (Zc 2)))
  (ZB (Zh0 (ZF (Zad (bOf (Zc 1))) ZS (op2 gGt (Za2 (bOf (eIx (Zn 4) (Zc 0)))) (eC (.int 0)))))))
def Zcr:List D->Option D:=fnOf 3 4 Zhl
def Zil:SF :=
 (ZB (eOf (ZF (ZbL (Za2 (bOf (Zk Zaz (Za (Zc 0) Ze))))) (tV (Zk Zcr (Za (Zc 1) (Za (Zc 2) (Za (Zc 0) Ze))))) (Zc 0))))
def ZcN:List D->Option D:=fnOf 2 2 Zil
def Zed:SF :=
 (Zg6 4 (Zc 6) (eC (.bool ZEN)))
def Zee:SF :=
 (Zbx 6 (Zad (bOf (eIx (Zn 3) (Zc 5)))) Zed)
def Zl2:SF :=
 (Zu (Zae 3 (eIx (bOf (Zk Zaz (Za (Zc 0) Ze))) (Zc 2)))
  (Zu (ZU 4 fDk)
  (Zu (Zbx 5 (Zad (bOf (Zc 1))) Zee)
  (ZB (Zah (Zhs (Zn 4)))))))
def Zd3:List D->Option D:=fnOf 3 7 Zl2
def Zef:SF :=
 (Zoe 3 (Zk Zec (Za (Zc 0) (Za (Zc 1) (Za (Zc 4) Ze)))) (Zc 4))
def Zl3:SF :=
 (Zu (ZU 3 Zxv)
  (Zu (Zbx 4 (Zad (bOf (Zc 2))) Zef)
  (ZB (eOf (ZF (Zad (bOf (eOf (Zhs (Zn 3))))) ZS (ZC (Za (Zc 0) (Za (Zah (ZrC 4 (Zc 0))) Ze))))))))
def ZbE:List D->Option D:=fnOf 3 5 Zl3
def ZjT:SF :=
 (Zu (sIf (tV (op2 gLt (Zc 1) (Za2 (Zn 0)))) (ZB (eIx (Zn 0) (Zc 1))) ZaY)
  (ZB (eC (.int 0))))
def ZY:List D->Option D:=fnOf 2 2 ZjT
def ZkR:SF :=
 (ZB (op2 Zko (op2 Zko (op2 Zdg (Zc 0) (eC (.int 48271))) (Zc 1)) (Zc 2)))
def ZO:List D->Option D:=fnOf 3 3 ZkR
def Zf8:SF :=
 (Zu (ZU 3 (ZF (ZbL (Zc 1)) (tV (op2 gLt (Zk ZO (Za (op2 ZbI (op2 ZbI (Zc 1) (op2 Zdg (op2 Zdg (eC (.int 31)) (Zc 0)) (Zc 0))) (op2 Zdg (eC (.int 7)) (Zc 0))) (Za (eC (.int 9973)) (Za (eC (.int 5)) Ze)))) (eC (.int 2)))) (Zc 0)))
  (Zu (sIf (tV (op2 gLt (Za2 (Zn 3)) (Zc 2))) (ZU 3 (ZbV (Za (Zk ZO (Za (Zc 0) (Za (eC (.int 9967)) (Za (Zc 1) Ze)))) Ze))) ZaY)
  (ZB (Zah (Zn 3)))))
def Zb0:List D->Option D:=fnOf 3 4 Zf8
def Zb1:SF :=
 (Zu (Zae 4 (op2 ZbI (op2 ZbI (Zc 0) (op2 Zdg (op2 Zdg (eC (.int 43)) (Zc 3)) (Zc 3))) (op2 Zdg (eC (.int 11)) (Zc 3))))
  (Zu (Zae 5 (Zk ZO (Za (Zc 4) (Za (eC (.int 9949)) (Za (eC (.int 10)) Ze)))))
  (Zu (ZU 6 (ZnT (Zk ZO (Za (Zc 4) (Za (eC (.int 9941)) (Za (Zc 1) Ze)))) (eC (.bool ZEN))))
  (Zu (sIf (tV (op2 gLt (Zc 5) (eC (.int 3)))) (Zg6 6 (Zk ZO (Za (Zc 4) (Za (eC (.int 9931)) (Za (Zc 1) Ze)))) (eC (.bool ZEN))) ZaY)
  (Zu (ZeT 2 (Zah (Zhs (Zn 6))))
  (sIf (tV (op2 gEq (Zc 5) (eC (.int 9)))) (ZrE 2 (eC (.int (-1))) (ZC Ze)) ZaY))))))
def ZjU:SF :=
 (Zu (ZU 2 (ZbV Ze))
  (Zu (Zbx 3 (ZbL (Zc 1)) Zb1)
  (ZB (Zah (Zn 2)))))
def ZdD:List D->Option D:=fnOf 2 7 ZjU
def Zda:SF :=
 (Zu (Zae 5 (op2 Zxz (op2 ZlK (Zc 4) (eC (.int 1))) (eC (.int 0))))
  (Zu (Zae 6 (op2 ZwP (op2 ZbI (Zc 4) (eC (.int 1))) (op2 ZlK (Zc 1) (eC (.int 1)))))
  (Zu (Zae 7 (op2 gEq (Zk ZO (Za (op2 ZbI (Zc 0) (op2 Zdg (eC (.int 17)) (Zc 4))) (Za (eC (.int 9929)) (Za (eC (.int 6)) Ze)))) (eC (.int 1))))
  (Zu (ZeT 2 (Zah (Zia (Zjk (ZbV (Za (Zc 5) Ze)) (ZtL (ZbV (Za (Zc 4) Ze)) (ZnI (Zc 7)))))))
  (ZeT 3 (ZC (Za (Zc 6) Ze)))))))
def ZjV:SF :=
 (Zu (ZU 2 (ZbV Ze))
  (Zu (ZU 3 (ZbV Ze))
  (Zu (Zbx 4 (ZbL (Zc 1)) Zda)
  (ZB (ZC (Za (Zah (Zn 2)) (Za (Zah (Zn 3)) Ze)))))))
def ZdE:List D->Option D:=fnOf 2 8 ZjV
def ZcO:SF :=
 (Zu (Zae 7 (op2 ZbI (Zk ZY (Za (Zc 0) (Za (op2 ZbI (op2 ZbI (Zc 1) (eC (.int 4))) (Zc 5)) Ze))) (op2 Zdg (eC (.int 71)) (Zc 5))))
  (Zu (Zae 8 (op2 ZbI (eC (.int 2)) (Zk ZO (Za (Zc 7) (Za (eC (.int 9883)) (Za (eC (.int 2)) Ze))))))
  (ZeT 6 (Zah (ZF (ZbL (Zc 3)) ZS (Zk ZO (Za (op2 ZbI (Zc 8) (op2 Zdg (op2 Zdg (eC (.int 13)) (Zc 0)) (Zc 0))) (Za (eC (.int 9871)) (Za (Zc 9) Ze)))))))))
def ZdI:SF :=
 (ZeT 4 (Zk ZdD (Za (op2 ZbI (Zk ZY (Za (Zc 0) (Za (op2 ZbI (op2 ZbI (Zc 1) (eC (.int 1))) (Zc 5)) Ze))) (op2 Zdg (eC (.int 61)) (Zc 5))) (Za (Zc 3) Ze))))
def Zdb:SF :=
 (Zu (Zae 2 (Zk ZY (Za (Zc 0) (Za (Zc 1) Ze))))
  (Zu (Zae 3 (op2 ZbI (eC (.int 2)) (Zk ZO (Za (Zc 2) (Za (eC (.int 9923)) (Za (eC (.int 4)) Ze))))))
  (Zu (sIf (tV (op2 gGt (Za2 (Zn 0)) (eC (.int 63)))) (Zae 3 (op2 ZbI (eC (.int 2)) (Zk ZO (Za (Zc 2) (Za (eC (.int 9923)) (Za (eC (.int 6)) Ze)))))) ZaY)
  (Zu (ZU 4 (ZbV Ze))
  (Zu (Zbx 5 (ZbL (op2 ZbI (eC (.int 1)) (Zk ZO (Za (Zc 2) (Za (eC (.int 9907)) (Za (eC (.int 3)) Ze)))))) ZdI)
  (Zu (sIf (tV (op2 gEq (Zk ZO (Za (Zc 2) (Za (eC (.int 9901)) (Za (eC (.int 3)) Ze)))) (eC (.int 1)))) (ZU 4 (Zjk (Zf1 (bOf (Zk ZdE (Za (Zk ZY (Za (Zc 0) (Za (op2 ZbI (Zc 1) (eC (.int 1))) Ze))) (Za (Zc 3) Ze))))) (Ztt (Zn 4) Z_ (Z (eC (.int 1)))))) ZaY)
  (Zu (ZU 6 (ZbV Ze))
  (Zu (Zbx 5 (ZbL (Zk ZO (Za (Zc 2) (Za (eC (.int 9887)) (Za (eC (.int 4)) Ze))))) ZcO)
  (Zu (Zae 9 (Zk Zb0 (Za (Zk ZY (Za (Zc 0) (Za (op2 ZbI (Zc 1) (eC (.int 7))) Ze))) (Za (Zc 3) (Za (eC (.int 1)) Ze)))))
  (Zu (sIf (tV (op2 gEq (Zk ZO (Za (Zc 2) (Za (eC (.int 9859)) (Za (eC (.int 3)) Ze)))) (eC (.int 1)))) (Zae 9 (ZkB (ZbL (Zc 3)))) ZaY)
  (Zu (Zae 10 (Zk Zb0 (Za (Zk ZY (Za (Zc 0) (Za (op2 ZbI (Zc 1) (eC (.int 8))) Ze))) (Za (Zc 3) (Za (eC (.int 1)) Ze)))))
  (ZB (ZC (Za (Zc 3) (Za (Zah (Zn 4)) (Za (Zah (Zn 6)) (Za (Zc 9) (Za (Zc 10) Ze))))))))))))))))))
def Zbd:List D->Option D:=fnOf 2 11 Zdb
end HG
namespace HG
open PySem HM
def Zw(ns:List Int)(k:Nat):Int:=if k<ns.length then ns.getD k 0 else 0
theorem Zd7(ns:List Int)(k:Nat):ZY [.list (ns.map dI),.int k]=Z (.int (Zw ns k)):=by
 simp[ZY,ZjT,Zw]
 by_cases h:k<ns.length
 ·have h':(k:Int)<(ns.length:Int):=by omega
  have e:atD (ns.map dI) (k:Int)=Z (.int ns[k]):=Zdv (by simp[h]);simp[h,h',e]
 ·have h':¬(k:Int)<(ns.length:Int):=by omega
  simp[h,h']
def ZT(c p m:Int):Int:=c*48271 % p % m
theorem Zcx(c p m:Int)(hp:0<p)(hm:0<m):ZO [.int c,.int p,.int m]=Z (.int (ZT c p m)):=by simp[ZO,ZkR,hp,hm,ZT]
theorem ZaJ(c p m:Int)(hm:0<m):0<=ZT c p m/\ZT c p m<m:=⟨Int.emod_nonneg _ (by omega),Int.emod_lt_of_pos _ hm⟩
def crP(c:Int)(k:Nat):Bool:=decide (ZT (c+31*(k:Int)*(k:Int)+7*(k:Int)) 9973 5<2)
def crF(c:Int)(n:Nat):List Int:=((ZzQ n).filter (crP c)).map λ(k:Nat)=>(k:Int)
def crV(c:Int)(n:Nat):List Int:=if(crF c n).length<1 then[ZT c 9967 n]else crF c n
theorem Zh9(n:Nat)(p:Nat->Bool):Cr n (((ZzQ n).filter p).map λ(k:Nat)=>(k:Int)):=by
 refine⟨?_,λx hx=>?_⟩
 ·rw[ZDF]
  refine List.Pairwise.imp (λ{a b} h=>?_) (List.Pairwise.filter p List.pairwise_lt_range);omega
 ·obtain⟨k,hk,rfl⟩:=ZzI.mp hx
  have:=ZAj.mp (ZAA.mp hk).1;omega
theorem ZrO(c:Int)(n:Nat)(hn:0<n):Cr n (crV c n)/\crV c n≠[]:=by
 unfold crV;split
 ·refine⟨⟨by simp,λx hx=>?_⟩,by simp⟩
  have e:x=ZT c 9967 n:=by simpa using hx
  rw[e];have:=ZaJ c 9967 n (by omega);omega
 ·rename_i h
  exact⟨Zh9 n _,λe=>h (by rw[e]; simp)⟩
theorem Zou(c:Int)(n:Nat)(hn:0<n)(hb:n<1000):Zb0 [.int c,.int n,.int 1]=Z (tupI (crV c n)):=by
 have hn':(0:Int)<(n:Int):=by omega
 have key:Zan (tV (op2 gLt (Zk ZO (Za (op2 ZbI (op2 ZbI (Zc 1) (op2 Zdg (op2 Zdg (eC (.int 31)) (Zc 0)) (Zc 0))) (op2 Zdg (eC (.int 7)) (Zc 0))) (Za (eC (.int 9973)) (Za (eC (.int 5)) Ze)))) (eC (.int 2)))) (Zc 0)
   [Z (.pl (.int c)),Z (.pl (.int n)),Z (.pl (.int 1)),Z_] (ZcS 0 n)=Z ((crF c n).map dI):=by
  rw[ZaT];rw[Zcl dN (crP c) dN]
  ·unfold crF
   rw[ZzV];rfl
  ·intro k hk
   have hk':=ZAj.mp hk;have s2:ZX (31*(k:Int))=ZEN:=ZiW (by omega) (by omega);simp[Zcx,crP,s2]
  ·intro k hk _
   simp
 have h1:okR (n:Int)=ZEN:=Zf3 (by omega);have h2:(ZcS 0 n).length<1000000:=by rw[ZaT]; simp; omega
 by_cases hl:(crF c n).length<1
 ·have hl':((crF c n).length:Int)<1:=by omega
  have hm:=Zcx c 9967 n (by decide) hn';simp[Zb0,Zf8,h1,h2,key];simp[hl',crV,hl,hm]
 ·have hl':¬((crF c n).length:Int)<1:=by omega
  simp[Zb0,Zf8,h1,h2,key];simp[hl',crV,hl]
def ZtT(c:Int)(n k:Nat):List Int :=
 let s:=c+43*(k:Int)*(k:Int)+11*(k:Int)
 if ZT s 9949 10<3/\ZT s 9941 n≠ZT s 9931 n then[ZT s 9941 n,ZT s 9931 n]else[ZT s 9941 n]
def ZfB(c:Int)(n k:Nat):List Int:=if ZT (c+43*(k:Int)*(k:Int)+11*(k:Int)) 9949 10=9 then[]else sortI (ZtT c n k)
theorem Zvf(c:Int)(n k:Nat)(hn:0<n):Cr n (ZfB c n k):=by
 unfold ZfB;split
 ·exact⟨.nil,λx hx=>by simp at hx⟩
 ·unfold ZtT
  dsimp only;have b1:=ZaJ (c+43*(k:Int)*(k:Int)+11*(k:Int)) 9941 n (by omega);have b2:=ZaJ (c+43*(k:Int)*(k:Int)+11*(k:Int)) 9931 n (by omega);split
  ·rename_i h
   refine Zh7 (by simp[h.2]) λx hx=>?_;simp at hx;rcases hx with e | e<;>(subst e; assumption)
  ·refine Zh7 (by simp) λx hx=>?_
   simp at hx;subst hx; assumption
theorem ZtA(n:Nat):ixN (n+1) (-1)=Z n:=by unfold ixN;rw[if_neg (by decide),if_pos (by omega)];congr 1;omega
theorem ZsW(c:Int)(n k:Nat)(rows:List D)(o4 o5 o6:Option B)(hn:0<n)(hk:k<1000)(hl:rows.length<1000) :
  ∃r5 r6 r7,Zb1 [Z (.pl (.int c)),Z (.pl (.int n)),Z (.ol rows),Z (.pl (dN k)),o4,o5,o6]=Z (.nx [Z (.pl (.int c)),Z (.pl (.int n)),Z (.ol (rows++[tupI (ZfB c n k)])),Z (.pl (dN k)),r5,r6,r7]):=by
 have hn':(0:Int)<(n:Int):=by omega
 have s2:ZX (43*(k:Int))=ZEN:=ZiW (by omega) (by omega);have hl':rows.length<1000000:=by omega
 have m1:=Zcx (c+43*(k:Int)*(k:Int)+11*(k:Int)) 9949 10 (by decide) (by decide);have m2:=Zcx (c+43*(k:Int)*(k:Int)+11*(k:Int)) 9941 n (by decide) hn';have m3:=Zcx (c+43*(k:Int)*(k:Int)+11*(k:Int)) 9931 n (by decide) hn';unfold ZfB ZtT;dsimp only;generalize ZT (c+43*(k:Int)*(k:Int)+11*(k:Int)) 9949 10=wy at *;generalize ZT (c+43*(k:Int)*(k:Int)+11*(k:Int)) 9941 n=a at *;generalize ZT (c+43*(k:Int)*(k:Int)+11*(k:Int)) 9931 n=b at *;have t1:Ze8 [ZAs a]=Z ((sortI [a]).map dI):=Zh4 [a] (by simp);have t2:Ze8 [ZAs a,ZAs b]=Z ((sortI [a,b]).map dI):=Zh4 [a,b] (by simp)
 by_cases w3:wy<3
 ·have w9:(wy==9)=ZEO:=by simp; omega
  have w9':¬wy=9:=by omega
  by_cases ab:a=b
  ·subst ab
   simp[Zb1,s2,m1,m2,m3,w3,w9,w9',putD,ZaE,hl',t1]
  ·simp[Zb1,s2,m1,m2,m3,w3,w9,w9',putD,ab,ZaE,hl',t2]
 ·by_cases w9:wy=9
  ·subst w9
   simp[Zb1,s2,m1,m2,putD,ZaE,hl',t1,ZtA]
  ·have w9':(wy==9)=ZEO:=by simp[w9]
   simp[Zb1,s2,m1,m2,w3,w9',w9,putD,ZaE,hl',t1]
theorem ZvQ(c:Int)(n:Nat)(hn:0<n)(hb:n<1000):ZdD [.int c,.int n]=Z (Z3 ((ZzQ n).map λk=>ZfB c n k)):=by
 have h1:okR (n:Int)=ZEN:=Zf3 (by omega);have h2:(ZcS 0 n).length<1000000:=by rw[ZaT]; simp; omega
 obtain⟨r',e1,o3,o4,o5,o6,p1⟩:=ZjH (i:=3) (body:=Zb1) dN (λ(s:List Nat) r=>∃o3 o4 o5 o6,r=[Z (.pl (.int c)),Z (.pl (.int n)),Z (.ol (s.map λk=>tupI (ZfB c n k))),o3,o4,o5,o6]) (ZzQ n)
  [Z (.pl (.int c)),Z (.pl (.int n)),Z (.ol []),Z_,Z_,Z_,Z_] ⟨Z_,Z_,Z_,Z_,rfl⟩ (by
   rintro s k post r hxs ⟨o3,o4,o5,o6,rfl⟩
   have hk':k<n:=ZAj.mp (by rw[hxs]; simp);have hs:s.length<n:=by have:=congrArg ZAg hxs; simp at this; omega
   obtain⟨r5,r6,r7,e⟩:=ZsW c n k (s.map λk=>tupI (ZfB c n k)) o4 o5 o6 hn (by omega) (by simp; omega);exact⟨_,e,Z (.pl (dN k)),r5,r6,r7,by simp⟩)
 subst p1;have hl:n<1000000:=by omega
 simp[ZdD,ZjU,h1,ZaT,hl,e1,Z3]
end HG
namespace HG
open PySem HM
def ahV(k:Nat):Int:=if(0:Int) > (k:Int)-1 then 0 else(k:Int)-1
def beV(n k:Nat):Int:=if(n:Int)-1<(k:Int)+1 then(n:Int)-1 else(k:Int)+1
def wlV(c:Int)(k:Nat):List Int:=sortI (dedup [] (ahV k::(if ZT (c+17*(k:Int)) 9929 6=1 then[(k:Int)]else[])))
theorem Zxp(c:Int)(n k:Nat)(hk:k<n):Cr n (wlV c k):=by
 unfold wlV;have ha:0<=ahV k/\ahV k<n:=by unfold ahV; split<;>omega
 refine Zh7 (Ze9 _ _ (by simp)) λx hx=>?_;rw[Zfl]at hx;rcases hx with h | h
 ·simp at h
 ·rcases ZzK.mp h with e | e
  ·subst e; exact ha
  ·split at e
   ·simp at e; subst e; omega
   ·simp at e
theorem Zxu(n k:Nat)(hk:k<n):Cr n [beV n k]:=by
 have ha:0<=beV n k/\beV n k<n:=by unfold beV; split<;>omega
 exact⟨by simp,λx hx=>by simp at hx; subst hx; exact ha⟩
theorem ZsS(c:Int)(n k:Nat)(ls rs:List D)(o4 o5 o6 o7:Option B)(hk:k<8)(h1:ls.length<1000)(h2:rs.length<1000) :
  ∃r4 r5 r6,Zda [Z (.pl (.int c)),Z (.pl (.int n)),Z (.ol ls),Z (.ol rs),Z (.pl (dN k)),o5,o6,o7]=Z (.nx [Z (.pl (.int c)),Z (.pl (.int n)),Z (.ol (ls++[tupI (wlV c k)])),Z (.ol (rs++[tupI [beV n k]])),Z (.pl (dN k)),r4,r5,r6]):=by
 have h1':ls.length<1000000:=by omega
 have h2':rs.length<1000000:=by omega
 have m1:=Zcx (c+17*(k:Int)) 9929 6 (by decide) (by decide);have hk8:k=0\/k=1\/k=2\/k=3\/k=4\/k=5\/k=6\/k=7:=by omega
 have l1:ZtU [if(k:Int)-1<0 then 0 else(k:Int)-1,(k:Int)]=ZEN:=by rcases hk8 with rfl | rfl | rfl | rfl | rfl | rfl | rfl | rfl<;>rfl
 have l2:ZtU [if(k:Int)-1<0 then 0 else(k:Int)-1]=ZEN:=by rcases hk8 with rfl | rfl | rfl | rfl | rfl | rfl | rfl | rfl<;>rfl
 unfold wlV;generalize ZT (c+17*(k:Int)) 9929 6=a at *
 by_cases e:a=1
 ·subst e
  simp[Zda,m1,h1',h2',ahV,beV,ZaX,Zh2,l1]
 ·have e':(a==1)=ZEO:=by simp[e]
  simp[Zda,m1,h1',h2',ahV,beV,e,e',ZaX,Zh2,l2]
theorem ZvI(c:Int)(n:Nat)(hb:n<=8):ZdE [.int c,.int n]=Z (.tuple [Z3 ((ZzQ n).map λk=>wlV c k),Z3 ((ZzQ n).map λk=>[beV n k])]):=by
 have h1:okR (n:Int)=ZEN:=Zf3 (by omega);obtain⟨r',e1,o4,o5,o6,o7,p1⟩:=ZjH (i:=4) (body:=Zda) dN (λ(s:List Nat) r=>∃o4 o5 o6 o7,r=[Z (.pl (.int c)),Z (.pl (.int n)),Z (.ol (s.map λk=>tupI (wlV c k))),Z (.ol (s.map λk=>tupI [beV n k])),o4,o5,o6,o7]) (ZzQ n)
  [Z (.pl (.int c)),Z (.pl (.int n)),Z (.ol []),Z (.ol []),Z_,Z_,Z_,Z_] ⟨Z_,Z_,Z_,Z_,rfl⟩ (by
   rintro s k post r hxs ⟨o4,o5,o6,o7,rfl⟩
   have hk':k<n:=ZAj.mp (by rw[hxs]; simp);have hs:s.length<n:=by have:=congrArg ZAg hxs; simp at this; omega
   obtain⟨r5,r6,r7,e⟩:=ZsS c n k (s.map λk=>tupI (wlV c k)) (s.map λk=>tupI [beV n k]) o4 o5 o6 o7 (by omega) (by simp; omega) (by simp; omega);exact⟨_,e,Z (.pl (dN k)),r5,r6,r7,by simp⟩)
 subst p1;have hl:n<1000000:=by omega
 simp[ZdE,ZjV,h1,ZaT,hl,e1,Z3]
section
variable(ns:List Int)(at_:Nat)
def ZK:Nat:=(2+ZT (Zw ns at_) 9923 4).toNat
def ZbR:List (List (List Int)):=(ZzQ (1+ZT (Zw ns at_) 9907 3).toNat).map λk=>(ZzQ (ZK ns at_)).map λs=>ZfB (Zw ns (at_+1+k)+61*(k:Int)) (ZK ns at_) s
def Zgo:List (List (List Int)) :=
 if ZT (Zw ns at_) 9901 3=1 then[(ZzQ (ZK ns at_)).map λk=>wlV (Zw ns (at_+1)) k,(ZzQ (ZK ns at_)).map λk=>[beV (ZK ns at_) k]]++(ZbR ns at_).take 1 else ZbR ns at_
def ZgI(k:Nat):List Int:=(ZzQ (ZK ns at_)).map λ(s:Nat)=>ZT (Zw ns (at_+4+k)+71*(k:Int)+13*(s:Int)*(s:Int)) 9871 (2+ZT (Zw ns (at_+4+k)+71*(k:Int)) 9883 2)
def Zgq:List (List Int):=(ZzQ (ZT (Zw ns at_) 9887 4).toNat).map (ZgI ns at_)
def Zo0:List Int:=if ZT (Zw ns at_) 9859 3=1 then(ZzQ (ZK ns at_)).map λ(k:Nat)=>(k:Int)else crV (Zw ns (at_+7)) (ZK ns at_)
def Zus:List Int:=crV (Zw ns (at_+8)) (ZK ns at_)
def wkV:Wk:=⟨ZK ns at_,Zgo ns at_,Zgq ns at_,Zo0 ns at_,Zus ns at_⟩
theorem Zjr:2<=ZK ns at_/\ZK ns at_<=5:=by have:=ZaJ (Zw ns at_) 9923 4 (by decide);unfold ZK; omega
theorem ZvJ:((ZK ns at_:Nat):Int)=2+ZT (Zw ns at_) 9923 4:=by have:=ZaJ (Zw ns at_) 9923 4 (by decide);unfold ZK; omega
theorem Zv4:(wkV ns at_).Ok:=by
 have hm:=Zjr ns at_;have hd3:=ZaJ (Zw ns at_) 9907 3 (by decide);have dk:∀dd∈ZbR ns at_,dd.length=ZK ns at_/\∀c∈dd,Cr (ZK ns at_) c:=by intro dd h;unfold ZbR at h;obtain⟨k,_,rfl⟩:=ZzI.mp h;refine⟨by simp,λc hc=>?_⟩;obtain⟨s,_,rfl⟩:=ZzI.mp hc;exact Zvf _ _ _ (by omega)
 have dv:∀dd∈Zgo ns at_,dd.length=ZK ns at_/\∀c∈dd,Cr (ZK ns at_) c:=by
  intro dd h;unfold Zgo at h;split at h
  ·rcases Zz3.mp h with h | h
   ·simp at h
    rcases h with rfl | rfl
    ·refine⟨by simp,λc hc=>?_⟩
     obtain⟨s,hs,rfl⟩:=ZzI.mp hc;exact Zxp _ _ _ (ZAj.mp hs)
    ·refine⟨by simp,λc hc=>?_⟩
     obtain⟨s,hs,rfl⟩:=ZzI.mp hc;exact Zxu _ _ (ZAj.mp hs)
   ·exact dk dd (List.mem_of_mem_take h)
  ·exact dk dd h
 have lk:(ZbR ns at_).length=(1+ZT (Zw ns at_) 9907 3).toNat:=by unfold ZbR; simp
 have lv:1<=(Zgo ns at_).length/\(Zgo ns at_).length<=3:=by
  unfold Zgo;split
  ·simp; omega
  ·omega
 have hl4:=ZaJ (Zw ns at_) 9887 4 (by decide);have lo:∀l∈Zgq ns at_,l.length=ZK ns at_/\∀x∈l,0<=x/\x<=9:=by intro l h;unfold Zgq at h;obtain⟨k,_,rfl⟩:=ZzI.mp h;unfold ZgI;refine⟨by simp,λx hx=>?_⟩;obtain⟨s,_,rfl⟩:=ZzI.mp hx;have h2:=ZaJ (Zw ns (at_+4+k)+71*(k:Int)) 9883 2 (by decide);have h3:=ZaJ (Zw ns (at_+4+k)+71*(k:Int)+13*(s:Int)*(s:Int)) 9871 (2+ZT (Zw ns (at_+4+k)+71*(k:Int)) 9883 2) (by omega);omega
 have ll:(Zgq ns at_).length<=3:=by unfold Zgq; simp; omega
 have cb:=ZrO (Zw ns (at_+7)) (ZK ns at_) (by omega);have cg:=ZrO (Zw ns (at_+8)) (ZK ns at_) (by omega);have hb:Zo0 ns at_≠[]/\Cr (ZK ns at_) (Zo0 ns at_):=by
  unfold Zo0;split
  ·refine⟨λe=>?_,?_⟩
   ·have:=congrArg ZAg e
    simp at this;omega
   ·have:=Zh9 (ZK ns at_) λ_=>ZEN
    rwa [ZBh.mpr λ_ _=>rfl]at this
  ·exact⟨cb.2,cb.1⟩
 exact⟨hm.1,hm.2,lv.1,lv.2,λdd h=>(dv dd h).1,λdd h=>(dv dd h).2,ll,λl h=>(lo l h).1,λl h=>(lo l h).2,hb.1,hb.2,cg.2,cg.1⟩
theorem Zzb(k:Int)(h:0<=k):ZY [.list (ns.map dI),.int k]=Z (.int (Zw ns k.toNat)):=by
 have:=Zd7 ns k.toNat
 rwa [Int.toNat_of_nonneg h]at this
theorem ZrB(k n:Nat)(c:Option B)(ds:List D)(o6 o7 o8 o9 o10:Option B)(hk:k<1000)(h1:ds.length<1000)(hn:0<n)(hb:n<1000) :
  ZdI [Z (.pl (.list (ns.map dI))),Z (.pl (.int at_)),c,Z (.pl (.int n)),Z (.ol ds),Z (.pl (dN k)),o6,o7,o8,o9,o10] =
   Z (.nx [Z (.pl (.list (ns.map dI))),Z (.pl (.int at_)),c,Z (.pl (.int n)),Z (.ol (ds++[Z3 ((ZzQ n).map λs=>ZfB (Zw ns (at_+1+k)+61*(k:Int)) n s)])),Z (.pl (dN k)),o6,o7,o8,o9,o10]):=by
 have h1':ds.length<1000000:=by omega
 have hc:=Zd7 ns (at_+1+k);have e:((at_+1+k:Nat):Int)=(at_:Int)+1+(k:Int):=by omega
 rw[e]at hc;have hd:=ZvQ (Zw ns (at_+1+k)+61*(k:Int)) n hn hb;simp[ZdI,hc,hd,h1']
theorem Zq7(k n:Nat)(c o4:Option B)(ls:List D)(o7 o8 o9 o10:Option B)(hk:k<1000)(h1:ls.length<1000)(hn:n=ZK ns at_) :
  ∃r7 r8,ZcO [Z (.pl (.list (ns.map dI))),Z (.pl (.int at_)),c,Z (.pl (.int n)),o4,Z (.pl (dN k)),Z (.ol ls),o7,o8,o9,o10] =
   Z (.nx [Z (.pl (.list (ns.map dI))),Z (.pl (.int at_)),c,Z (.pl (.int n)),o4,Z (.pl (dN k)),Z (.ol (ls++[tupI (ZgI ns at_ k)])),r7,r8,o9,o10]):=by
 have hb:=Zjr ns at_;have h1':ls.length<1000000:=by omega
 have hc:=Zd7 ns (at_+4+k);have e:((at_+4+k:Nat):Int)=(at_:Int)+4+(k:Int):=by omega
 rw[e]at hc;have m1:=Zcx (Zw ns (at_+4+k)+71*(k:Int)) 9883 2 (by decide) (by decide);have b1:=ZaJ (Zw ns (at_+4+k)+71*(k:Int)) 9883 2 (by decide);have hok:okR (n:Int)=ZEN:=Zf3 (by omega);have hl:n<1000000:=by omega
 unfold ZgI;rw[<-hn];generalize ZT (Zw ns (at_+4+k)+71*(k:Int)) 9883 2=mo at *;generalize Zw ns (at_+4+k)=cc at *;simp[ZcO,hc,m1,hok,h1',ZaT,hl];rw[Zbg dN λ(s:Nat)=>dI (ZT (cc+71*(k:Int)+13*(s:Int)*(s:Int)) 9871 (2+mo))]
 ·refine⟨Z (.pl (.int (cc+71*(k:Int)))),Z (.pl (.int (2+mo))),?_⟩
  simp
 ·intro s hs
  have hs':=ZAj.mp hs;have s2:ZX (13*(s:Int))=ZEN:=ZiW (by omega) (by omega);have m2:=Zcx (cc+71*(k:Int)+13*(s:Int)*(s:Int)) 9871 (2+mo) (by decide) (by omega);simp[s2,m2]
theorem ZtE(h:ns.length<=63):Zbd [.list (ns.map dI),.int at_]=Z (wkV ns at_).d:=by
 have hb:=Zjr ns at_;have hmc:=ZvJ ns at_;have c0:=Zd7 ns at_;have c1:=Zd7 ns (at_+1);have c7:=Zd7 ns (at_+7);have c8:=Zd7 ns (at_+8);have e1:((at_+1:Nat):Int)=(at_:Int)+1:=by omega
 have e7:((at_+7:Nat):Int)=(at_:Int)+7:=by omega
 have e8:((at_+8:Nat):Int)=(at_:Int)+8:=by omega
 rw[e1]at c1;rw[e7]at c7;rw[e8]at c8;have m4:=Zcx (Zw ns at_) 9923 4 (by decide) (by decide);have m3:=Zcx (Zw ns at_) 9907 3 (by decide) (by decide);have b3:=ZaJ (Zw ns at_) 9907 3 (by decide);have mw:=Zcx (Zw ns at_) 9901 3 (by decide) (by decide);have ml:=Zcx (Zw ns at_) 9887 4 (by decide) (by decide);have bl:=ZaJ (Zw ns at_) 9887 4 (by decide);have mb:=Zcx (Zw ns at_) 9859 3 (by decide) (by decide);have wk:=ZvI (Zw ns (at_+1)) (ZK ns at_) (by omega);have k7:=Zou (Zw ns (at_+7)) (ZK ns at_) (by omega) (by omega);have k8:=Zou (Zw ns (at_+8)) (ZK ns at_) (by omega) (by omega);have hlen:¬(63:Int)<(ns.length:Int):=by omega
 have ok3:okR (1+ZT (Zw ns at_) 9907 3)=ZEN:=ZCJ.mpr (by omega);have okl:okR (ZT (Zw ns at_) 9887 4)=ZEN:=ZCJ.mpr (by omega);have okm:okR ((ZK ns at_:Nat):Int)=ZEN:=Zf3 (by omega);obtain⟨r1,f1,o5,q1⟩:=ZjH (i:=5) (body:=ZdI) dN (λ(s:List Nat) r=>∃o5,r=[Z (.pl (.list (ns.map dI))),Z (.pl (.int at_)),Z (.pl (.int (Zw ns at_))),Z (.pl (.int (ZK ns at_))),
   Z (.ol (s.map λk=>Z3 ((ZzQ (ZK ns at_)).map λs=>ZfB (Zw ns (at_+1+k)+61*(k:Int)) (ZK ns at_) s))),o5,Z_,Z_,Z_,Z_,Z_]) (ZzQ (1+ZT (Zw ns at_) 9907 3).toNat)
  [Z (.pl (.list (ns.map dI))),Z (.pl (.int at_)),Z (.pl (.int (Zw ns at_))),Z (.pl (.int (ZK ns at_))),Z (.ol []),Z_,Z_,Z_,Z_,Z_,Z_] ⟨Z_,rfl⟩ (by
   rintro s k post r hxs ⟨o5,rfl⟩
   have hk':=ZAj.mp (show k∈ZzQ (1+ZT (Zw ns at_) 9907 3).toNat by rw[hxs]; simp);have hs:s.length<4:=by have:=congrArg ZAg hxs; simp at this; omega
   have e:=ZrB ns at_ k (ZK ns at_) (Z (.pl (.int (Zw ns at_)))) (s.map λk=>Z3 ((ZzQ (ZK ns at_)).map λs=>ZfB (Zw ns (at_+1+k)+61*(k:Int)) (ZK ns at_) s)) Z_ Z_ Z_ Z_ Z_ (by omega) (by simp; omega) (by omega) (by omega);exact⟨_,e,Z (.pl (dN k)),by simp⟩)
 subst q1;have lks:∀(o4 o5:Option B),∃r2,ZaG 5 ZcO ((ZzQ (ZT (Zw ns at_) 9887 4).toNat).map dN) [Z (.pl (.list (ns.map dI))),Z (.pl (.int at_)),Z (.pl (.int (Zw ns at_))),Z (.pl (.int (ZK ns at_))),o4,o5,Z (.ol []),Z_,Z_,Z_,Z_]=Z (.nx r2) /\
   ∃o5 o7 o8,r2=[Z (.pl (.list (ns.map dI))),Z (.pl (.int at_)),Z (.pl (.int (Zw ns at_))),Z (.pl (.int (ZK ns at_))),o4,o5,Z (.ol ((ZzQ (ZT (Zw ns at_) 9887 4).toNat).map λk=>tupI (ZgI ns at_ k))),o7,o8,Z_,Z_]:=by
  intro o4 o5;refine ZjH (i:=5) (body:=ZcO) dN (λ(s:List Nat) r=>∃o5 o7 o8,r=[Z (.pl (.list (ns.map dI))),Z (.pl (.int at_)),Z (.pl (.int (Zw ns at_))),Z (.pl (.int (ZK ns at_))),
   o4,o5,Z (.ol (s.map λk=>tupI (ZgI ns at_ k))),o7,o8,Z_,Z_]) (ZzQ (ZT (Zw ns at_) 9887 4).toNat) _ ⟨o5,Z_,Z_,rfl⟩ ?_
  rintro s k post r hxs ⟨o5,o7,o8,rfl⟩
  have hk':=ZAj.mp (show k∈ZzQ (ZT (Zw ns at_) 9887 4).toNat by rw[hxs]; simp);have hs:s.length<4:=by have:=congrArg ZAg hxs; simp at this; omega
  obtain⟨r7,r8,e⟩:=Zq7 ns at_ k (ZK ns at_) (Z (.pl (.int (Zw ns at_)))) o4 (s.map λk=>tupI (ZgI ns at_ k)) o7 o8 Z_ Z_ (by omega) (by simp; omega) rfl;exact⟨_,e,Z (.pl (dN k)),r7,r8,by simp⟩
 have n3:(1+ZT (Zw ns at_) 9907 3).toNat<1000000:=by omega
 have nl:(ZT (Zw ns at_) 9887 4).toNat<1000000:=by omega
 have nm:ZK ns at_<1000000:=by omega
 have hdk:((ZzQ (1+ZT (Zw ns at_) 9907 3).toNat).map λk=>Z3 ((ZzQ (ZK ns at_)).map λs=>ZfB (Zw ns (at_+1+k)+61*(k:Int)) (ZK ns at_) s))=(ZbR ns at_).map Z3:=by unfold ZbR; simp
 have hlk:((ZzQ (ZT (Zw ns at_) 9887 4).toNat).map λk=>tupI (ZgI ns at_ k))=(Zgq ns at_).map tupI:=by unfold Zgq; simp
 rw[hdk]at f1;simp only[hlk]at lks;have dkl:(ZbR ns at_).length<10:=by unfold ZbR; simp; omega
 unfold wkV Wk.d Zgo Zo0 Zus;simp only
 by_cases w1:ZT (Zw ns at_) 9901 3=1
 ·have w1':(ZT (Zw ns at_) 9901 3==1)=ZEN:=by simp[w1]
  have cut:cutD ((ZbR ns at_).map Z3) Z_ (Z 1)=((ZbR ns at_).take 1).map Z3:=by unfold cutD sIx;simp
  obtain⟨r2,f2,p5,p7,p8,q2⟩:=lks (Z (.ol (Z3 ((ZzQ (ZK ns at_)).map λk=>wlV (Zw ns (at_+1)) k)::Z3 ((ZzQ (ZK ns at_)).map λk=>[beV (ZK ns at_) k])::List.take 1 ((ZbR ns at_).map Z3)))) o5;subst q2;have c2:min 1 (ZbR ns at_).length+1+1<1000000:=by omega
  have c3:(2:Nat)+min 1 (ZbR ns at_).length<1000000:=by omega
  by_cases w2:ZT (Zw ns at_) 9859 3=1
  ·have w2':(ZT (Zw ns at_) 9859 3==1)=ZEN:=by simp[w2]
   simp[Zbd,Zdb,c0,m4,<-hmc,hlen,m3,ok3,ZaT,n3,f1,mw,w1',c1,wk,cut,w1,ml,okl,nl,f2,c7,k7,mb,w2',okm,nm,c8,k8,w2,c2,c3]
  ·have w2':(ZT (Zw ns at_) 9859 3==1)=ZEO:=by simp[w2]
   simp[Zbd,Zdb,c0,m4,<-hmc,hlen,m3,ok3,ZaT,n3,f1,mw,w1',c1,wk,cut,w1,ml,okl,nl,f2,c7,k7,mb,w2',okm,nm,c8,k8,w2,c2,c3]
 ·have w1':(ZT (Zw ns at_) 9901 3==1)=ZEO:=by simp[w1]
  obtain⟨r2,f2,p5,p7,p8,q2⟩:=lks (Z (.ol ((ZbR ns at_).map Z3))) o5;subst q2
  by_cases w2:ZT (Zw ns at_) 9859 3=1
  ·have w2':(ZT (Zw ns at_) 9859 3==1)=ZEN:=by simp[w2]
   simp[Zbd,Zdb,c0,m4,<-hmc,hlen,m3,ok3,ZaT,n3,f1,mw,w1',w1,ml,okl,nl,f2,c7,k7,mb,w2',okm,nm,c8,k8,w2]
  ·have w2':(ZT (Zw ns at_) 9859 3==1)=ZEO:=by simp[w2]
   simp[Zbd,Zdb,c0,m4,<-hmc,hlen,m3,ok3,ZaT,n3,f1,mw,w1',w1,ml,okl,nl,f2,c7,k7,mb,w2',okm,nm,c8,k8,w2]
end
end HG
namespace HG
open PySem HM
variable{c:List Int}{n:Nat}{w:Wk}
theorem ZoY{e:EF}{r:HM.Env}{f:D->D}(xs:List D)(h:∀x∈xs,e (Z (.pl x)::r)=Z (f x)):Zan ZS e r xs=Z (xs.map f):=by
 have:=Zbg (e:=e) (r:=r) id f xs h
 rwa [List.map_id]at this
theorem Zox(xs:List D)(p:D->Bool):ZdG (xs.map λx=>ZAK (p x))=Z (xs.map p):=by
 have:=ZeB (xs.map p)
 rwa [ZzV]at this
def Zcj(d:D)(lo hi:Int):Bool:=match d with
 | .int i=>decide (lo<=i)&&decide (i<=hi)
 | _=>ZEO
def ndD:D->Prop
 | .dict _=>False
 | _=>True
theorem Zdi(d:D)(lo hi:Int)(nd:ndD d:=by trivial):Zab [d,.int lo,.int hi]=Z (.bool (Zcj d lo hi)):=by
 cases d<;>first | exact nd.elim | simp[Zab,ZiA,Zcj]
 rename_i i
 by_cases h:lo<=i<;>simp[h]
def ZbT(d:D)(lo hi:Int):Bool:=match d with
 | .tuple ds=>decide (lo<=(ds.length:Int))&&decide ((ds.length:Int)<=hi)
 | _=>ZEO
theorem Zbn(d:D)(lo hi:Int)(nd:ndD d:=by trivial):Z6 [d,.int lo,.int hi]=Z (.bool (ZbT d lo hi)):=by
 cases d<;>first | exact nd.elim | simp[Z6,Zl1,ZbT]
 rename_i ds
 by_cases h:lo<=(ds.length:Int)<;>simp[h]
def Zcg(many:Int):Int->List D->Bool
 | _,[]=>ZEN
 | l,.int i::r=>(decide (l<=i)&&decide (i<=many-1))&&Zcg many (i+1) r
 | _,_::_=>ZEO
def Zjp(d:D)(many:Int):Bool:=match d with
 | .tuple ds=>Zcg many 0 ds
 | _=>ZEO
theorem Zql(d:D)(many:Int):∀(ds:List D) (l:Int) (o:Option B),(∀x∈ds,ndD x) ->
  (Zcg many l ds=ZEN->∃l' o',ZaG 3 Zat ds [Z (.pl d),Z (.pl (.int many)),Z (.pl (.int l)),o]=Z (.nx [Z (.pl d),Z (.pl (.int many)),Z (.pl (.int l')),o'])) /\
  (Zcg many l ds=ZEO->ZaG 3 Zat ds [Z (.pl d),Z (.pl (.int many)),Z (.pl (.int l)),o]=Z (.rt (.bool ZEO)))
 | [],l,o,_=>⟨λ_=>⟨l,o,rfl⟩,λh=>by simp[Zcg]at h⟩
 | x::ds,l,o,nd=>by
  have key:=Zdi x l (many-1) (nd x (ZzB ..));cases hx:Zcj x l (many-1)with
  | false =>
   have e:Zat [Z (.pl d),Z (.pl (.int many)),Z (.pl (.int l)),Z (.pl x)]=Z (.rt (.bool ZEO)):=by rw[hx]at key;simp[Zat,key]
   have e2:Zcg many l (x::ds)=ZEO:=by cases x<;>simp[Zcg];rename_i i;simp[Zcj]at hx;intro h1 h2;exact absurd (hx h1) (by omega)
   refine⟨λh=>?_,λ_=>?_⟩
   ·rw[e2]at h; cases h
   ·unfold ZaG
    show(match Zat [Z (.pl d),Z (.pl (.int many)),Z (.pl (.int l)),Z (.pl x)]with | some (.nx r')=>_ | some (.ct r')=>_ | some (.bk r')=>_ | some (.rt d)=>_ | none=>_)=_;rw[e]
  | true =>
   cases x with
   | int i =>
    have e:Zat [Z (.pl d),Z (.pl (.int many)),Z (.pl (.int l)),Z (.pl (.int i))]=Z (.nx [Z (.pl d),Z (.pl (.int many)),Z (.pl (.int (i+1))),Z (.pl (.int i))]):=by rw[hx]at key;simp[Zat,key]
    have e2:Zcg many l (.int i::ds)=Zcg many (i+1) ds:=by have:(decide (l<=i)&&decide (i<=many-1))=ZEN:=hx;simp only[Zcg,this,Bool.true_and]
    obtain⟨a1,a2⟩:=Zql d many ds (i+1) (Z (.pl (.int i))) λx hx=>nd x (ZzD _ hx);rw[e2];have e3:ZaG 3 Zat (.int i::ds) [Z (.pl d),Z (.pl (.int many)),Z (.pl (.int l)),o]=ZaG 3 Zat ds [Z (.pl d),Z (.pl (.int many)),Z (.pl (.int (i+1))),Z (.pl (.int i))]:=by show(match Zat [Z (.pl d),Z (.pl (.int many)),Z (.pl (.int l)),Z (.pl (.int i))]with | some (.nx r')=>_ | some (.ct r')=>_ | some (.bk r')=>_ | some (.rt d)=>_ | none=>_)=_;rw[e]
    rw[e3];exact⟨a1,a2⟩
   | _=>simp[Zcj]at hx
theorem ZiY(d:D)(many:Int)(hl:∀ds,d=.tuple ds->ds.length<1000000/\∀x∈ds,ndD x)(nd:ndD d:=by trivial):Zau [d,.int many]=Z (.bool (Zjp d many)):=by
 cases d with
 | tuple ds =>
  obtain⟨hl,hn⟩:=hl ds rfl;obtain⟨a1,a2⟩:=Zql (.tuple ds) many ds 0 Z_ hn;cases h:Zcg many 0 ds with
  | true=>obtain⟨l',o',e⟩:=a1 h;simp[Zau,Zeb,Zjp,h,hl,e]
  | false=>have e:=a2 h;simp[Zau,Zeb,Zjp,h,hl,e]
 | dict _=>exact nd.elim
 | _=>simp[Zau,Zeb,Zjp]
def small:D->Prop
 | .tuple ds=>ds.length<1000000/\∀x∈ds,ndD x
 | .dict _=>False
 | _=>True
theorem Zlo(h:(c.map dI).length<1000000):small (tupI c):=⟨h,λx hx=>by obtain⟨i,_,rfl⟩:=ZzI.mp hx; trivial⟩
theorem Zoi{d:D}(h:small d):ndD d:=by cases d<;>first | exact h.elim | trivial
theorem ZsF{d:D}(h:small d):∀ds,d=.tuple ds->ds.length<1000000/\∀x∈ds,ndD x:=by rintro ds rfl; exact h
def Zi3(d:D)(many:Int):Bool:=ZbT d many many&&(match d with | .tuple ds=>ds.all λc=>Zjp c many | _=>ZEO)
def Zk2(d:D):Prop:=match d with | .tuple ds=>ds.length<1000000/\∀x∈ds,small x | .dict _=>False | _=>True
theorem Ztp{d:D}(h:Zk2 d):ndD d:=by cases d<;>first | exact h.elim | trivial
theorem Zq9(d:D)(many:Int)(hs:Zk2 d):ZcG [d,.int many]=Z (.bool (Zi3 d many)):=by
 have h1:=Zbn d many many (Ztp hs);cases hr:ZbT d many many with
 | false=>rw[hr]at h1; simp[ZcG,ZhC,h1,Zi3,hr]
 | true =>
  rw[hr]at h1;cases d with
  | tuple ds =>
   have hs':ds.length<1000000/\∀x∈ds,small x:=hs;simp[ZcG,ZhC,h1,Zi3,hr,hs'.1];rw[ZoY (f:=λc=>.bool (Zjp c many))]
   ·simp[Zox]
   ·intro x hx
    simp[ZiY x many (ZsF (hs'.2 x hx)) (Zoi (hs'.2 x hx))]
  | _=>simp[ZbT]at hr
def ZiZ(d:D)(many:Int):Bool:=ZbT d many many&&(match d with | .tuple ds=>ds.all λc=>Zcj c 0 9 | _=>ZEO)
theorem Zq1(d:D)(many:Int)(hs:small d):ZcH [d,.int many]=Z (.bool (ZiZ d many)):=by
 have h1:=Zbn d many many (Zoi hs);cases hr:ZbT d many many with
 | false=>rw[hr]at h1; simp[ZcH,ZhD,h1,ZiZ,hr]
 | true =>
  rw[hr]at h1;cases d with
  | tuple ds =>
   have hs':ds.length<1000000:=hs.1;simp[ZcH,ZhD,h1,ZiZ,hr,hs'];rw[ZoY (f:=λc=>.bool (Zcj c 0 9))]
   ·simp[Zox]
   ·intro x hx
    simp[Zdi x 0 9 (hs.2 x hx)]
  | _=>simp[ZbT]at hr
structure Wk.V(w:Wk):Prop where
 m1:1<=w.many
 m2:w.many<=8
 d1:1<=w.deeds.length
 d2:w.deeds.length<=5
 dl:∀dd∈w.deeds,dd.length=w.many
 dc:∀dd∈w.deeds,∀c∈dd,Cr w.many c
 l2:w.looks.length<=4
 ll:∀l∈w.looks,l.length=w.many
 lc:∀l∈w.looks,∀x∈l,0<=x/\x<=9
 b1:w.beg≠[]
 bc:Cr w.many w.beg
 gc:Cr w.many w.goal
theorem Wk.Ok.v(h:w.Ok):Wk.V w:=by obtain⟨m1,m2,d1,d2,dl,dc,l2,ll,lc,b1,bc,g1,gc⟩:=h;exact⟨by omega,by omega,d1,by omega,dl,dc,by omega,ll,lc,b1,bc,gc⟩
theorem ZlU(n:Nat):∀(c:List Int) (l:Int),c.Pairwise (· < ·)->(∀x∈c,l<=x/\x<(n:Int))->Zcg n l (c.map dI)=ZEN
 | [],_,_,_=>rfl
 | x::c,l,hp,hb=>by have h1:=hb x (ZzB ..);have ih:=ZlU n c (x+1) (ZAo.mp hp).2 λy hy=>⟨by have:=(ZAo.mp hp).1 y hy; omega,(hb y (ZzD _ hy)).2⟩;show((decide (l<=x)&&decide (x<=(n:Int)-1))&&Zcg n (x+1) (c.map dI))=ZEN;rw[ih,decide_eq_true h1.1,decide_eq_true (show x<=(n:Int)-1 by omega)];rfl
theorem Zmu(h:Cr n c)(hn:n<1000):Zau [tupI c,.int n]=Z (.bool ZEN):=by have hl:=h.len;rw[ZiY (tupI c) n (by intro ds e; cases e; exact⟨by simp; omega,λx hx=>by obtain⟨i,_,rfl⟩:=ZzI.mp hx; trivial⟩)];show Z (ZAK (Zcg n 0 (c.map dI)))=_;rw[ZlU n c 0 h.1 h.2]
theorem ZpI(h:Cr n c)(h0:c≠[])(hn:n<1000):ZdC [tupI c,.int n]=Z (.bool ZEN):=by
 have h1:=Zmu h hn;have h2:(0:Int)<(c.length:Int):=by have:=ZDj.mpr h0;omega
 simp[ZdC,ZjQ,h1];exact ZDj.mpr h0
theorem Zu7(h:Wk.V w){dd:List (List Int)}(hd:dd∈w.deeds):ZcG [Z3 dd,.int w.many]=Z (.bool ZEN):=by
 have hl:=h.dl dd hd;have m2:=h.m2;rw[Zq9 (Z3 dd) _ (show(dd.map tupI).length<1000000/\∀x∈dd.map tupI,small x by refine⟨by simp; omega,λx hx=>?_⟩;obtain⟨c,hc,rfl⟩:=ZzI.mp hx;have:=(h.dc dd hd c hc).len;refine Zlo ?_;simp; omega)];have e:Zi3 (Z3 dd) w.many=ZEN:=by unfold Zi3 Z3 ZbT;simp[hl];intro c hc;exact ZlU w.many c 0 (h.dc dd hd c hc).1 (h.dc dd hd c hc).2
 rw[e]
theorem Zvs(h:Wk.V w){l:List Int}(hd:l∈w.looks):ZcH [tupI l,.int w.many]=Z (.bool ZEN):=by
 have hl:=h.ll l hd;have m2:=h.m2;rw[Zq1 (tupI l) _ (Zlo (show(l.map dI).length<1000000 by simp; omega))];have e:ZiZ (tupI l) w.many=ZEN:=by unfold ZiZ ZbT;simp[hl];intro x hx;have:=h.lc l hd x hx;simp[Zcj];omega
 rw[e]
theorem allTrue(α:Type)(xs:List α):ZdG (xs.map λ_=>ZAK ZEN)=Z (xs.map λ_=>ZEN):=by
 have:=ZeB (xs.map λ_=>ZEN)
 rwa [ZzV]at this
theorem ZoE(h:Wk.V w):Zc7 [.tuple (w.deeds.map Z3),.int w.many]=Z (.bool ZEN):=by
 have h1:=Zbn (.tuple (w.deeds.map Z3)) 1 5;have d1:=h.d1;have d2:=h.d2;have e:ZbT (.tuple (w.deeds.map Z3)) 1 5=ZEN:=by simp[ZbT]; omega
 rw[e]at h1;have hl:w.deeds.length<1000000:=by omega
 simp[Zc7,ZiB,h1,hl];rw[Zbg Z3 (λ_=>.bool ZEN)]
 ·simp[allTrue]
 ·intro x hx
  simp[Zu7 h hx]
theorem ZoT(h:Wk.V w):Zc8 [.tuple (w.looks.map tupI),.int w.many]=Z (.bool ZEN):=by
 have h1:=Zbn (.tuple (w.looks.map tupI)) 0 4;have d2:=h.l2;have e:ZbT (.tuple (w.looks.map tupI)) 0 4=ZEN:=by simp[ZbT]; omega
 rw[e]at h1;have hl:w.looks.length<1000000:=by omega
 simp[Zc8,ZiC,h1,hl];rw[Zbg tupI (λ_=>.bool ZEN)]
 ·simp[allTrue]
 ·intro x hx
  simp[Zvs h hx]
theorem Zo4(h:Wk.V w):Zc9 [w.d]=Z (.bool ZEN):=by
 have h1:=Zbn w.d 5 5;have e:ZbT w.d 5 5=ZEN:=by simp[ZbT,Wk.d]
 rw[e]at h1;have h2:=Zdi (.int w.many) 1 8;have m1:=h.m1;have m2:=h.m2;have e2:Zcj (.int w.many) 1 8=ZEN:=by simp[Zcj]; omega
 rw[e2]at h2;have h3:=ZoE h;have h4:=ZoT h;have h5:=ZpI h.bc h.b1 (by omega);have h6:=Zmu h.gc (by omega);unfold Wk.d at h1 ⊢;simp[Zc9,ZiD,h1,h2,h3,h4,h5,h6]
theorem ZfN(h:Wk.V w):Zbc [w.d]=Z w.d:=by simp[Zbc,ZkP,Zo4 h]
theorem Zci(w:Wk):Zaz [w.d]=Z (.tuple (w.deeds.map Z3)):=by simp[Zaz,ZjR,Wk.d]
theorem ZdH(w:Wk):Zby [w.d]=Z (.tuple (w.looks.map tupI)):=by simp[Zby,ZjS,Wk.d]
end HG
namespace HG
open PySem HM
variable{l s:Int}{c:List Int}{w:Wk}
def ZcM(w:Wk)(d s:Int):List Int:=(w.deeds[d.toNat]?.getD [])[s.toNat]?.getD []
def Zlr(w:Wk)(l s:Int):Int:=(w.looks[l.toNat]?.getD [])[s.toNat]?.getD 0
def ZeD(w:Wk)(c:List Int)(d:Int):Bool:=c.all λs=>decide (0<(ZcM w d s).length)
def ZbM(w:Wk)(c:List Int)(d:Int):List Int:=c.flatMap λs=>ZcM w d s
def ZbK(w:Wk)(c:List Int)(d:Int):List Int:=sortI (dedup [] (ZbM w c d))
def ZL(w:Wk)(ls:List Int)(s:Int):List Int:=ls.map λl=>Zlr w l s
theorem Zp8{d:Int}(h0:0<=d)(h1:d<w.deeds.length):atD (w.deeds.map Z3) d=Z (Z3 (w.deeds[d.toNat]?.getD [])):=by
 refine Zjz h0 ?_;have h:d.toNat<w.deeds.length:=by omega
 simp[h,ZA0]
theorem ZsA(hv:Wk.V w){d:Int}(h0:0<=d)(h1:d<w.deeds.length)(h2:0<=s)(h3:s<w.many):atD ((w.deeds[d.toNat]?.getD []).map tupI) s=Z (tupI (ZcM w d s)):=by
 refine Zjz h2 ?_;have h:d.toNat<w.deeds.length:=by omega
 have hl:(w.deeds[d.toNat]?.getD []).length=w.many:=by
  have:w.deeds[d.toNat]?.getD []=w.deeds[d.toNat]:=by simp[h,ZA0]
  rw[this];exact hv.dl _ (ZAW h)
 have h':s.toNat<(w.deeds[d.toNat]?.getD []).length:=by omega
 unfold ZcM;rw[Zz2,ZzT h'];simp[ZA0,h']
theorem Zr2(hv:Wk.V w){d:Int}(h0:0<=d)(h1:d<w.deeds.length)(h2:0<=s)(h3:s<w.many):Cr w.many (ZcM w d s):=by
 have h:d.toNat<w.deeds.length:=by omega
 have e:w.deeds[d.toNat]?.getD []=w.deeds[d.toNat]:=by simp[h,ZA0]
 have hl:=hv.dl _ (ZAW h);unfold ZcM;rw[e];have h':s.toNat<(w.deeds[d.toNat]).length:=by omega
 have e2:(w.deeds[d.toNat])[s.toNat]?.getD []=(w.deeds[d.toNat])[s.toNat]:=by simp[h',ZA0]
 rw[e2];exact hv.dc _ (ZAW h) _ (ZAW h')
theorem Zvu(h0:0<=l)(h1:l<w.looks.length):atD (w.looks.map tupI) l=Z (tupI (w.looks[l.toNat]?.getD [])):=by
 refine Zjz h0 ?_;have h:l.toNat<w.looks.length:=by omega
 simp[h,ZA0]
theorem ZuP(hv:Wk.V w)(h0:0<=l)(h1:l<w.looks.length)(h2:0<=s)(h3:s<w.many):atD ((w.looks[l.toNat]?.getD []).map dI) s=Z (.int (Zlr w l s)):=by
 refine Zjz h2 ?_;have h:l.toNat<w.looks.length:=by omega
 have hl:(w.looks[l.toNat]?.getD []).length=w.many:=by
  have:w.looks[l.toNat]?.getD []=w.looks[l.toNat]:=by simp[h,ZA0]
  rw[this];exact hv.ll _ (ZAW h)
 have h':s.toNat<(w.looks[l.toNat]?.getD []).length:=by omega
 unfold Zlr;rw[Zz2,ZzT h'];simp[ZA0,h']
theorem Zrl(hv:Wk.V w){ls:List Int}(hl:Cr w.looks.length ls)(h2:0<=s)(h3:s<w.many):Zec [w.d,tupI ls,.int s]=Z (tupI (ZL w ls s)):=by
 have l2:=hv.l2;have hlen:=hl.len;have hb:ls.length<1000000:=by omega
 simp[Zec,ZkQ,hb];rw[Zbg dI (λl=>dI (Zlr w l s))]
 ·simp[ZL]
 ·intro l hl'
  have hb:=hl.2 l hl';simp[ZdH,Zvu hb.1 hb.2,ZuP hv hb.1 hb.2 h2 h3]
theorem ZlI(hv:Wk.V w)(hc:Cr w.many c){d:Int}(h0:0<=d)(h1:d<w.deeds.length):Zcr [w.d,tupI c,.int d]=Z (.bool (ZeD w c d)):=by
 have m2:=hv.m2;have hlen:=hc.len;have hb:c.length<1000000:=by omega
 simp[Zcr,Zhl,Zci,Zp8 h0 h1,hb];rw[Zbg dI (λs=>.bool (decide (0<(ZcM w d s).length)))]
 ·have e:=ZeB (c.map λs=>decide (0<(ZcM w d s).length))
  rw[ZzV]at e;have e':((λb=>ZAK b)∘λs=>decide (0<(ZcM w d s).length))=λs=>ZAK (decide (0<(ZcM w d s).length)):=rfl;rw[e']at e;simp[e,ZeD]
 ·intro s hs
  have hb:=hc.2 s hs;simp[Z3,ZsA hv h0 h1 hb.1 hb.2]
def doV(w:Wk)(c:List Int):List Int:=((ZzQ w.deeds.length).filter λ(d:Nat)=>ZeD w c (d:Int)).map λ(k:Nat)=>(k:Int)
theorem ZmW(hv:Wk.V w)(hc:Cr w.many c):ZcN [w.d,tupI c]=Z (.list ((doV w c).map dI)):=by
 have d2:=hv.d2;have hok:okR (w.deeds.length:Int)=ZEN:=Zf3 (by omega);have hb:w.deeds.length<1000000:=by omega
 simp[ZcN,Zil,Zci,hok,ZaT,hb];rw[Zcl dN (λk:Nat=>ZeD w c k) dN]
 ·simp[doV]
 ·intro k hk
  have hk':=ZAj.mp hk;simp[ZlI hv hc (show(0:Int)<=(k:Int) by omega) (by omega)]
 ·intro k hk _
  simp
def Zcp(acc:List Int)(x:Int):List Int:=if acc.contains x then acc else acc++[x]
theorem ZfR:∀(l acc:List Int),dedup acc l=l.foldl Zcp acc
 | [],acc=>rfl
 | x::l,acc=>by
  unfold dedup;rw[ZBq];unfold Zcp;split
  ·rw[ZfR l acc]; rfl
  ·rw[ZfR l (acc++[x])]; rfl
def tru(acc:List Int):List (Ky × D):=acc.map λi=>(ZBk i,ZAK ZEN)
theorem Zvj(acc:List Int)(x:Int):putD (tru acc) (ZBk x) (ZAK ZEN)=tru (Zcp acc x):=by
 unfold putD Zcp tru
 by_cases h:x∈acc
 ·have e1:((acc.map λi=>((ZBk i:Ky),ZAK ZEN)).any λp=>decide (p.1=ZBk x))=ZEN:=by
   simp; exact h
  have e2:acc.contains x=ZEN:=by simpa using h
  rw[if_pos e1,if_pos e2,ZzV];refine ZA3 λi _=>?_;simp
 ·have e1:¬((acc.map λi=>((ZBk i:Ky),ZAK ZEN)).any λp=>decide (p.1=ZBk x))=ZEN:=by
   simp; exact h
  have e2:¬acc.contains x=ZEN:=by simpa using h
  rw[if_neg e1,if_neg e2];simp
theorem Zmq(acc:List Int)(x:Int):(Zcp acc x).length<=acc.length+1:=by unfold Zcp; split<;>simp
theorem ZoF:∀(l acc:List Int),(l.foldl Zcp acc).length<=acc.length+l.length
 | [],acc=>by simp
 | x::l,acc=>by rw[ZBq];have:=ZoF l (Zcp acc x);have:=Zmq acc x;simp; omega
theorem ZrN(e0 e1 e2 e3 e5:Option B):∀(l acc:List Int) (o:Option B),acc.length+l.length<1000000 ->
  ∃o',ZaG 6 Zed (l.map dI) [e0,e1,e2,e3,Z (.ok (tru acc)),e5,o]=Z (.nx [e0,e1,e2,e3,Z (.ok (tru (l.foldl Zcp acc))),e5,o'])
 | [],acc,o,_=>⟨o,rfl⟩
 | x::l,acc,o,h=>by
  rw[ZzS]at h;have hb:acc.length<1000000:=by omega
  have e:Zed [e0,e1,e2,e3,Z (.ok (tru acc)),e5,Z (.pl (dI x))]=Z (.nx [e0,e1,e2,e3,Z (.ok (tru (Zcp acc x))),e5,Z (.pl (dI x))]):=by
   have hl:(tru acc).length<1000000:=by unfold tru; simp; exact hb
   simp[Zed,hl,Zvj]
  have hd:=Zmq acc x;obtain⟨o',e'⟩:=ZrN e0 e1 e2 e3 e5 l (Zcp acc x) (Z (.pl (dI x))) (by omega);refine⟨o',?_⟩;rw[ZzG,ZBq,<-e'];unfold ZaG;show(match Zed [e0,e1,e2,e3,Z (.ok (tru acc)),e5,Z (.pl (dI x))]with | some (.nx r')=>_ | some (.ct r')=>_ | some (.bk r')=>_ | some (.rt d)=>_ | none=>_)=_;rw[e];cases l<;>rfl
theorem Zsy{w:Wk}(hv:Wk.V w){d:Int}(h0:0<=d)(h1:d<w.deeds.length)(e1 e2:Option B):∀(c acc:List Int) (o5 o6:Option B),(∀s∈c,0<=s/\s<(w.many:Int))->acc.length+c.length*10<100000 ->
  ∃o5' o6',ZaG 5 Zee (c.map dI) [Z (.pl w.d),e1,e2,Z (.pl (Z3 (w.deeds[d.toNat]?.getD []))),Z (.ok (tru acc)),o5,o6]=Z (.nx [Z (.pl w.d),e1,e2,Z (.pl (Z3 (w.deeds[d.toNat]?.getD []))),Z (.ok (tru ((ZbM w c d).foldl Zcp acc))),o5',o6'])
 | [],acc,o5,o6,_,_=>⟨o5,o6,rfl⟩
 | s::c,acc,o5,o6,hs,hl=>by
  rw[ZzS]at hl;have hb:=hs s (ZzB ..);have hr:=(Zr2 hv h0 h1 hb.1 hb.2).len;have m2:=hv.m2;have hrl:(ZcM w d s).length<1000000:=by omega
  obtain⟨o',e⟩:=ZrN (Z (.pl w.d)) e1 e2 (Z (.pl (Z3 (w.deeds[d.toNat]?.getD [])))) (Z (.pl (dI s))) (ZcM w d s) acc o6 (by omega);have e':Zee [Z (.pl w.d),e1,e2,Z (.pl (Z3 (w.deeds[d.toNat]?.getD []))),Z (.ok (tru acc)),Z (.pl (dI s)),o6]=Z (.nx [Z (.pl w.d),e1,e2,Z (.pl (Z3 (w.deeds[d.toNat]?.getD []))),Z (.ok (tru ((ZcM w d s).foldl Zcp acc))),Z (.pl (dI s)),o']):=by unfold Z3 at e ⊢;simp[Zee,ZsA hv h0 h1 hb.1 hb.2,hrl,e]
  have hf:=ZoF (ZcM w d s) acc;obtain⟨p5,p6,ih⟩:=Zsy hv h0 h1 e1 e2 c ((ZcM w d s).foldl Zcp acc) (Z (.pl (dI s))) o' (λx hx=>hs x (ZzD _ hx)) (by omega);refine⟨p5,p6,?_⟩;have ef:ZbM w (s::c) d=ZcM w d s++ZbM w c d:=rfl;rw[ef,List.foldl_append,<-ih,ZzG];show(match Zee [Z (.pl w.d),e1,e2,Z (.pl (Z3 (w.deeds[d.toNat]?.getD []))),Z (.ok (tru acc)),Z (.pl (dI s)),o6]with | some (.nx r')=>_ | some (.ct r')=>_ | some (.bk r')=>_ | some (.rt d)=>_ | none=>_)=_;rw[e']
theorem Zxf(hv:Wk.V w)(hc:Cr w.many c){d:Int}(h0:0<=d)(h1:d<w.deeds.length):∀x∈ZbM w c d,0<=x/\x<(w.many:Int):=by intro x hx;obtain⟨s,hs,h⟩:=ZB4.mp hx;exact(Zr2 hv h0 h1 (hc.2 s hs).1 (hc.2 s hs).2).2 x h
theorem ZjD(hv:Wk.V w)(hc:Cr w.many c){d:Int}(h0:0<=d)(h1:d<w.deeds.length):Cr w.many (ZbK w c d):=by refine Zh7 (Ze9 _ _ (by simp)) λx hx=>Zxf hv hc h0 h1 x ?_;rw[Zfl]at hx;simpa using hx
theorem ZsQ(hv:Wk.V w)(hc:Cr w.many c){d:Int}(h0:0<=d)(h1:d<w.deeds.length):Zd3 [w.d,tupI c,.int d]=Z (tupI (ZbK w c d)):=by
 have m2:=hv.m2;have hlen:=hc.len;have hb:c.length<1000000:=by omega
 obtain⟨o5,o6,e⟩:=Zsy hv h0 h1 (Z (.pl (tupI c))) (Z (.pl (.int d))) c [] Z_ Z_ hc.2 (by simp; omega);have hl:(dedup [] (ZbM w c d)).length<64:=by have h:=(ZjD hv hc h0 h1).len;have:=(sortI_perm (dedup [] (ZbM w c d))).length_eq;unfold ZbK at h;omega
 have hs:=Zh4 _ hl;rw[ZfR]at hs;have ek:(tru ((ZbM w c d).foldl Zcp [])).map (λp=>ZaE p.1)=((ZbM w c d).foldl Zcp []).map dI:=by unfold tru;rw[ZzV];rfl
 simp[Zd3,Zl2,Zci,Zp8 h0 h1,hb];rw[show Z (B.ok [])=Z (B.ok (tru [])) from rfl,e];simp[ek,hs,ZbK,ZfR]
end HG
namespace HG
open PySem HM
abbrev Gs:=List (List Int × List Int)
abbrev Z7(k:List Int):List Ky:=k.map ZBk
def Zb5(g:Gs):List (List Ky × List D):=g.map λp=>(Z7 p.1,p.2.map dI)
theorem ZdR{a b:List Int}(h:Z7 a=Z7 b):a=b:=by
 induction a generalizing b with
 | nil=>cases b with
  | nil=>rfl
  | cons _ _=>simp at h
 | cons x a ih=>cases b with
  | nil=>simp at h
  | cons y b=>simp at h;rw[h.1,ih (by simpa using h.2)]
theorem ZlB(a b:List Int):(Z7 a=Z7 b)↔a=b:=⟨ZdR,λh=>by rw[h]⟩
theorem ZrA(k:List Int):ZlA (k.map dI)=Z (Z7 k):=by
 induction k with
 | nil=>rfl
 | cons x k ih=>show(ZlA (k.map dI)).map (ZBk x::·)=_;rw[ih];rfl
theorem Zbk(k:List Int):Zbp (tupI k)=Z (Z7 k):=ZrA k
theorem ZkH(g:Gs)(k:List Int):Zj (Zb5 g) (Z7 k)=(Zj g k).map λp=>p.map dI:=by
 unfold Zj Zb5;rw[List.find?_map];have e:((λp:List Ky × List D=>decide (p.1=Z7 k))∘λp:List Int × List Int=>(Z7 p.1,p.2.map dI))=λp=>decide (p.1=k):=by
  funext p
  simp only[ZC1];exact decide_eq_decide.mpr (ZlB p.1 k)
 rw[e];cases g.find? λp=>decide (p.1=k)<;>rfl
theorem Zqv(g:Gs)(k:List Int):ZcC (Zb5 g) (Z7 k)=Zb5 (ZcC g k):=by
 unfold ZcC;rw[ZkH];cases Zj g k with
 | none=>simp[Zb5]
 | some p=>rfl
theorem Zqb(k:List Int)(s:Int):∀(g:Gs),ZdA (Zb5 g) (Z7 k) (dI s)=Zb5 (ZdA g k s)
 | []=>rfl
 | (x,p)::g=>by
  show ZdA ((Z7 x,p.map dI)::Zb5 g) (Z7 k) (dI s)=Zb5 (ZdA ((x,p)::g) k s);unfold ZdA
  by_cases h:x=k
  ·rw[if_pos (by rw[h]),if_pos h]
   simp[Zb5]
  ·rw[if_neg (λe=>h (ZdR e)),if_neg h,Zqb k s g]
   rfl
def Zgs(g:Gs)(k:List Int)(s:Int):Gs:=ZdA (ZcC g k) k s
theorem Zgp(k:List Int):Zj ([]:Gs) k=Z_:=rfl
theorem ZbX(x:List Int)(p:List Int)(g:Gs)(k:List Int):Zj ((x,p)::g) k=if x=k then Z p else Zj g k:=by
 unfold Zj;rw[ZAF]
 by_cases h:x=k<;>simp[h]
theorem Zo1(k:List Int)(s:Int)(k':List Int):∀(g:Gs),Zj (ZdA g k s) k'=if k=k' then(Zj g k).map (·++[s])else Zj g k'
 | []=>by simp[ZdA,Zgp]
 | (x,p)::g=>by
  unfold ZdA
  by_cases h:x=k
  ·subst h
   rw[if_pos rfl,ZbX,ZbX,ZbX,if_pos rfl];split<;>rfl
  ·rw[if_neg h,ZbX,Zo1 k s k' g,ZbX,ZbX,if_neg h]
   by_cases h2:x=k'
   ·subst h2
    rw[if_pos rfl,if_pos rfl,if_neg (ZAG h)]
   ·rw[if_neg h2,if_neg h2]
theorem Zlb(x:List Int)(p:List Int)(k:List Int):∀(g:Gs),Zj (g++[(x,p)]) k=match Zj g k with | some q=>Z q | none=>if x=k then Z p else Z_
 | []=>by simp[Zgp,ZbX]
 | (y,q)::g=>by rw[ZD1,ZbX,ZbX,Zlb x p k g];split<;>rfl
theorem ZkA(g:Gs)(k k':List Int):Zj (ZcC g k) k'=if k=k' then Z ((Zj g k).getD [])else Zj g k':=by
 unfold ZcC;cases h:Zj g k with
 | some p =>
  by_cases e:k=k'
  ·subst e; rw[if_pos rfl]; exact h
  ·rw[if_neg e]
 | none =>
  show Zj (g++[(k,[])]) k'=_;rw[Zlb]
  by_cases e:k=k'
  ·subst e; rw[if_pos rfl,if_pos rfl,h]; rfl
  ·rw[if_neg e,if_neg e]
   cases Zj g k'<;>rfl
theorem ZtB(g:Gs)(k k':List Int)(s:Int):Zj (Zgs g k s) k'=if k=k' then Z ((Zj g k).getD []++[s])else Zj g k':=by
 unfold Zgs;rw[Zo1,ZkA,ZkA,if_pos rfl]
 by_cases e:k=k'
 ·rw[if_pos e,if_pos e]; rfl
 ·rw[if_neg e,if_neg e,if_neg e]
theorem ZoM(k:List Int)(s:Int):∀(g:Gs),(ZdA g k s).map (·.1)=g.map (·.1)
 | []=>rfl
 | (x,p)::g=>by
  unfold ZdA;split
  ·rfl
  ·rw[ZzG,ZoM k s g]; rfl
theorem ZkJ(g:Gs)(k:List Int):(Zj g k).isSome=ZEN↔k∈g.map (·.1):=by
 induction g with
 | nil=>simp[Zgp]
 | cons p g ih =>
  obtain⟨x,q⟩:=p;rw[ZbX,ZzG,ZzK]
  by_cases h:x=k
  ·simp[h]
  ·rw[if_neg h,ih]
   constructor
   ·exact .inr
   ·rintro (e | e)
    ·exact absurd e.symm h
    ·exact e
theorem Ztq(g:Gs)(k:List Int):(ZcC g k).map (·.1)=if k∈g.map (·.1)then g.map (·.1)else g.map (·.1)++[k]:=by
 unfold ZcC;cases h:Zj g k with
 | some p=>rw[if_pos ((ZkJ g k).mp (by rw[h]; rfl))]
 | none=>rw[if_neg (λm=>by have:=(ZkJ g k).mpr m; rw[h]at this; cases this)];simp
theorem Ztg(g:Gs)(k:List Int)(s:Int):(Zgs g k s).map (·.1)=if k∈g.map (·.1)then g.map (·.1)else g.map (·.1)++[k]:=by unfold Zgs;rw[ZoM,Ztq]
def ZdW(f:Int->List Int)(c:List Int):Gs:=c.foldl (λg s=>Zgs g (f s) s) []
structure Grp(f:Int->List Int)(pre:List Int)(g:Gs):Prop where
 nd:(g.map (·.1)).Nodup
 look:∀k,Zj g k=if k∈pre.map f then Z (pre.filter λs=>f s==k)else Z_
theorem Grp.mem{f:Int->List Int}{pre:List Int}{g:Gs}(h:Grp f pre g)(k:List Int):k∈g.map (·.1)↔k∈pre.map f:=by
 rw[<-ZkJ,h.look];split
 ·rename_i m; exact⟨λ_=>m,λ_=>rfl⟩
 ·rename_i m; exact⟨(λe=>by cases e),λe=>absurd e m⟩
theorem Grp.step{f:Int->List Int}{pre:List Int}{g:Gs}(h:Grp f pre g)(s:Int):Grp f (pre++[s]) (Zgs g (f s) s):=by
 refine⟨?_,λk=>?_⟩
 ·rw[Ztg]
  split
  ·exact h.nd
  ·rename_i m
   rw[ZBy];exact⟨h.nd,by simp,λa ha b hb=>by simp at hb; subst hb; exact λe=>m (e▸ha)⟩
 ·rw[ZtB,h.look,h.look,Zz4,List.filter_append]
  by_cases e:f s=k
  ·subst e
   have e0:f s∈pre.map f++[s].map f:=by simp
   rw[if_pos rfl,if_pos e0];have e2:[s].filter (λx=>f x==f s)=[s]:=by simp
   rw[e2];split
   ·rfl
   ·rename_i m
    have:pre.filter (λx=>f x==f s)=[]:=by rw[ZEm];intro a ha q;exact m (ZzI.mpr ⟨a,ha,by simpa using q⟩)
    rw[this]; rfl
  ·have e2:[s].filter (λx=>f x==k)=[]:=by simp[e]
   rw[if_neg e,e2,ZAe];have e3:(k∈pre.map f++[s].map f)↔k∈pre.map f:=by
    rw[Zz3]
    constructor
    ·rintro (q | q)
     ·exact q
     ·simp at q; exact absurd q.symm e
    ·exact .inl
   by_cases q:k∈pre.map f
   ·rw[if_pos q,if_pos (e3.mpr q)]
   ·rw[if_neg q,if_neg (λz=>q (e3.mp z))]
theorem ZpZ(f:Int->List Int):∀(c pre:List Int) (g:Gs),Grp f pre g->Grp f (pre++c) (c.foldl (λg s=>Zgs g (f s) s) g)
 | [],pre,g,h=>by rw[ZAe]; exact h
 | s::c,pre,g,h=>by have:=ZpZ f c (pre++[s]) _ (h.step s);rw[ZBx]at this;exact this
theorem Zf0(f:Int->List Int)(c:List Int):Grp f c (ZdW f c):=by
 have:=ZpZ f c [] [] ⟨ZBc,λk=>by simp[Zgp]⟩
 rwa [ZBr]at this
def ZR(w:Wk)(ls c:List Int):Gs:=(Zfa ((ZdW (ZL w ls) c).map (·.1))).map λk=>(k,c.filter λs=>ZL w ls s==k)
def Zak(p:List Int × List Int):D:=.tuple [tupI p.1,tupI p.2]
theorem ZtJ(ks:List (List Int)):Zjs (ks.map tupI)=Z ks:=by
 induction ks with
 | nil=>rfl
 | cons k ks ih=>show(match ZaX (k.map dI)with | some ns=>(Zjs (ks.map tupI)).map (ns::·) | none=>Z_)=_;rw[Zgn,ih];rfl
theorem ZrF(ks:List (List Int))(h:ks.length<64)(hn:ks.length<2\/∀k∈ks,k≠[]):Ze8 (ks.map tupI)=Z ((Zfa ks).map tupI):=by
 unfold Ze8;rw[if_pos (by rw[Zzw]; exact h)];cases ks with
 | nil=>simp[ZaX,sortI,Zfa,ofInts]
 | cons k ks =>
  have e:ZaX (ZBN tupI (k::ks))=Z_:=rfl;rw[e,ZtJ];have e2:(decide ((ZBN tupI (k::ks)).length<2)||(k::ks).all λt=>!t.isEmpty)=ZEN:=by
   rw[ZBt,Zzw];rcases hn with q | q
   ·exact .inl (by simpa using q)
   ·refine .inr (ZzR.mpr λt ht=>?_)
    have:=q t ht;cases t with
    | nil=>exact absurd rfl this
    | cons _ _=>rfl
  dsimp only;rw[if_pos e2];unfold Zfn;simp only[Zh2]
theorem Zdy(ks:List (List Int)):(Zfa ks).Perm ks:=ZCw ks _
theorem ZvM(w:Wk)(ls c:List Int)(hc:c.length<60):Ze8 ((Zb5 (ZdW (ZL w ls) c)).map λp=>Zz7 (p.1.map ZaE))=Z ((Zfa ((ZdW (ZL w ls) c).map (·.1))).map tupI):=by
 have hg:=Zf0 (ZL w ls) c;have e:((Zb5 (ZdW (ZL w ls) c)).map λp=>Zz7 (p.1.map ZaE))=((ZdW (ZL w ls) c).map (·.1)).map tupI:=by unfold Zb5;rw[ZzV,ZzV];refine ZA3 λp _=>?_;simp only[ZC1];unfold Z7 tupI;rw[ZzV];rfl
 rw[e];have hsub:∀k∈(ZdW (ZL w ls) c).map (·.1),k∈c.map (ZL w ls):=λk hk=>(hg.mem k).mp hk;refine ZrF _ ?_ ?_
 ·have:(ZdW (ZL w ls) c).map (·.1) ⊆ c.map (ZL w ls):=hsub
  have:=(ZA5 hg.nd this);rw[Zzw,Zzw]at this;rw[Zzw];omega
 ·cases ls with
  | nil =>
   left
   have:(ZdW (ZL w []) c).map (·.1) ⊆ [[]]:=λk hk=>by obtain⟨s,_,e⟩:=ZzI.mp (hsub k hk);rw[<-e];simp[ZL]
   have:=(ZA5 hg.nd this);simp at this ⊢;omega
  | cons l ls =>
   right
   intro k hk e;obtain⟨s,_,e'⟩:=ZzI.mp (hsub k hk);rw[e]at e';simp[ZL]at e'
theorem Zrp(w:Wk)(ls c:List Int)(e:EF)(r:HM.Env)(h:∀k∈(ZdW (ZL w ls) c).map (·.1),e (Z (.pl (tupI k))::r)=Z (.tuple [tupI k,.tuple ((c.filter λs=>ZL w ls s==k).map dI)])) :
  Zan ZS e r ((Zfa ((ZdW (ZL w ls) c).map (·.1))).map tupI)=Z ((ZR w ls c).map Zak):=by
 rw[Zbg tupI (λk=>.tuple [tupI k,.tuple ((c.filter λs=>ZL w ls s==k).map dI)])]
 ·unfold ZR
  rw[ZzV];rfl
 ·intro k hk
  exact h k ((Zdy _).mem_iff.mp hk)
theorem ZtK(w:Wk)(ls c:List Int)(k:List Int)(hk:k∈(ZdW (ZL w ls) c).map (·.1)):Zj (Zb5 (ZdW (ZL w ls) c)) (Z7 k)=Z ((c.filter λs=>ZL w ls s==k).map dI):=by have hg:=Zf0 (ZL w ls) c;rw[ZkH,hg.look,if_pos ((hg.mem k).mp hk)];rfl
theorem Zvx(f:Int->List Int)(pre:List Int)(g:Gs)(h:Grp f pre g)(k:List Int)(p:List Int)(e:Zj g k=Z p):p.length<=pre.length:=by
 rw[h.look]at e;split at e
 ·cases e; exact ZAR _ _
 ·cases e
theorem Zrn(f:Int->List Int)(pre:List Int)(g:Gs)(h:Grp f pre g):g.length<=pre.length:=by have h2:g.map (·.1) ⊆ pre.map f:=λk hk=>(h.mem k).mp hk;have:=ZA5 h.nd h2;simpa using this
theorem Zmc{w:Wk}(hv:Wk.V w){ls:List Int}(hl:Cr w.looks.length ls)(e2:Option B):∀(c pre:List Int) (g:Gs) (o:Option B),Grp (ZL w ls) pre g->(∀s∈c,0<=s/\s<(w.many:Int))->pre.length+c.length<1000 ->
  ∃o',ZaG 4 Zef (c.map dI) [Z (.pl w.d),Z (.pl (tupI ls)),e2,Z (.otl (Zb5 g)),o]=Z (.nx [Z (.pl w.d),Z (.pl (tupI ls)),e2,Z (.otl (Zb5 (c.foldl (λg s=>Zgs g (ZL w ls s) s) g))),o'])
 | [],pre,g,o,_,_,_=>⟨o,rfl⟩
 | s::c,pre,g,o,hg,hb,hn=>by
  rw[ZzS]at hn;have hs:=hb s (ZzB ..);have hlen:(Zb5 g).length<1000000:=by have:=Zrn _ _ _ hg;unfold Zb5;rw[Zzw]; omega
  have h1:Zj (ZcC (Zb5 g) (Z7 (ZL w ls s))) (Z7 (ZL w ls s))=Z (((Zj g (ZL w ls s)).getD []).map dI):=by rw[Zqv,ZkH,ZkA,if_pos rfl]; rfl
  have h2:(((Zj g (ZL w ls s)).getD []).map dI).length<1000000:=by
   rw[Zzw];cases e:Zj g (ZL w ls s)with
   | none=>simp
   | some p=>have:=Zvx _ _ _ hg _ _ e;simp; omega
  have h2':((Zj g (ZL w ls s)).getD []).length<1000000:=by rwa [Zzw]at h2
  have e:Zef [Z (.pl w.d),Z (.pl (tupI ls)),e2,Z (.otl (Zb5 g)),Z (.pl (dI s))]=Z (.nx [Z (.pl w.d),Z (.pl (tupI ls)),e2,Z (.otl (Zb5 (Zgs g (ZL w ls s) s))),Z (.pl (dI s))]):=by have ek:=Zrl hv hl hs.1 hs.2;simp[Zef,ek,Zbk,hlen,h1,h2'];rw[Zqv,Zqb];rfl
  obtain⟨o',ih⟩:=Zmc hv hl e2 c (pre++[s]) (Zgs g (ZL w ls s) s) (Z (.pl (dI s))) (hg.step s) (λx hx=>hb x (ZzD _ hx)) (by simp; omega);refine⟨o',?_⟩;rw[ZzG,ZBq,<-ih];show(match Zef [Z (.pl w.d),Z (.pl (tupI ls)),e2,Z (.otl (Zb5 g)),Z (.pl (dI s))]with | some (.nx r')=>_ | some (.ct r')=>_ | some (.bk r')=>_ | some (.rt d)=>_ | none=>_)=_;rw[e]
theorem Zme{w:Wk}(hv:Wk.V w){ls:List Int}(hl:Cr w.looks.length ls){c:List Int}(hc:Cr w.many c):ZbE [w.d,tupI ls,tupI c]=Z (.list ((ZR w ls c).map Zak)):=by
 have m2:=hv.m2;have hlen:=hc.len;have hb:c.length<1000000:=by omega
 obtain⟨o',e⟩:=Zmc hv hl (Z (.pl (tupI c))) c [] [] Z_ ⟨ZBc,λk=>by simp[Zgp]⟩ hc.2 (by simp; omega);have hk:=ZvM w ls c (by omega);have hg:c.foldl (λg s=>Zgs g (ZL w ls s) s) []=ZdW (ZL w ls) c:=rfl;rw[hg]at e;have hn:(Zfa ((ZdW (ZL w ls) c).map (·.1))).length<1000000:=by rw[(Zdy _).length_eq,Zzw];have:=Zrn _ _ _ (Zf0 (ZL w ls) c);omega
 simp[ZbE,Zl3,hb];rw[show Z (B.otl [])=Z (B.otl (Zb5 [])) from rfl,e];simp[hk,hn];rw[Zrp]
 ·simp
 ·intro k hk'
  simp[Zbk,ZtK w ls c k hk']
end HG
namespace HG
open PySem HM
variable{ds:List D}{m n:Nat}
def nbD:Nat->D->Bool
 | _,.none=>ZEN
 | _,.int _=>ZEN
 | _,.str x=>PyData.canLay0 (.str x)
 | 0,_=>ZEO
 | n+1,.list ds=>ds.all (nbD n)
 | n+1,.tuple ds=>ds.all (nbD n)
 | _,_=>ZEO
theorem ZcB(h:∀d∈ds,d.canLay0=ZEN):ZCf ds=ZEN:=by
 induction ds with
 | nil=>rfl
 | cons d ds ih=>show(d.canLay0&&ZCf ds)=ZEN;rw[h d (ZzB ..),ih λx hx=>h x (ZzD _ hx)];rfl
theorem Zj7(h:∀d∈ds,d.depth<=n):ZDg ds<=n:=by
 induction ds with
 | nil=>exact ZBn _
 | cons d ds ih=>show max d.depth (ZDg ds)<=n;have h1:=h d (ZzB ..);have h2:=ih λx hx=>h x (ZzD _ hx);omega
theorem ZiQ:∀(n:Nat) (d:D),nbD n d=ZEN->d.canLay0=ZEN/\d.depth<=n
 | n,.none,_=>⟨rfl,by show 0<=n; omega⟩
 | n,.int _,_=>⟨rfl,by show 0<=n; omega⟩
 | n,.str x,h=>by refine⟨?_,by show 0<=n; omega⟩;cases n<;>exact h
 | 0,.bool _,h=>by cases h
 | 0,.list _,h=>by cases h
 | 0,.tuple _,h=>by cases h
 | 0,.dict _,h=>by cases h
 | n+1,.bool _,h=>by cases h
 | n+1,.dict _,h=>by cases h
 | n+1,.list ds,h=>by have h':ds.all (nbD n)=ZEN:=h;have hh:=ZzR.mp h';refine⟨ZcB λd hd=>(ZiQ n d (hh d hd)).1,?_⟩;show ZDg ds+1<=n+1;have:=Zj7 λd hd=>(ZiQ n d (hh d hd)).2;omega
 | n+1,.tuple ds,h=>by have h':ds.all (nbD n)=ZEN:=h;have hh:=ZzR.mp h';refine⟨ZcB λd hd=>(ZiQ n d (hh d hd)).1,?_⟩;show ZDg ds+1<=n+1;have:=Zj7 λd hd=>(ZiQ n d (hh d hd)).2;omega
theorem Zik{d:D}(h:nbD n d=ZEN)(hn:n<=60):Za6 d=ZEN:=by obtain⟨h1,h2⟩:=ZiQ n d h;unfold Za6;rw[h1,decide_eq_true (show d.depth<=60 by omega)];rfl
theorem Zk3(ih:∀d∈ds,∀e,(∃m,nbD m e=ZEN)->(ZAV d e=ZEN↔d=e)):∀(es:List D),(∀e∈es,∃m,nbD m e=ZEN)->(ZDA ds es=ZEN↔ds=es):=by
 induction ds with
 | nil =>
  intro es _;cases es with
  | nil=>exact⟨λ_=>rfl,λ_=>rfl⟩
  | cons e es=>exact⟨(λh=>by cases h),(λh=>by cases h)⟩
 | cons d ds ihl =>
  intro es he;cases es with
  | nil=>exact⟨(λh=>by cases h),(λh=>by cases h)⟩
  | cons e es=>show((ZAV d e&&ZDA ds es)=ZEN)↔_;rw[ZzW,ih d (ZzB ..) e (he e (ZzB ..)),ihl (λx hx=>ih x (ZzD _ hx)) es (λx hx=>he x (ZzD _ hx)),List.cons.injEq]
theorem ZuZ(h:nbD m (.list ds)=ZEN):∀d∈ds,∃m,nbD m d=ZEN:=by
 cases m with
 | zero=>cases h
 | succ m=>have h':ds.all (nbD m)=ZEN:=h;exact λd hd=>⟨m,ZzR.mp h' d hd⟩
theorem Ztz(h:nbD m (.tuple ds)=ZEN):∀d∈ds,∃m,nbD m d=ZEN:=by
 cases m with
 | zero=>cases h
 | succ m=>have h':ds.all (nbD m)=ZEN:=h;exact λd hd=>⟨m,ZzR.mp h' d hd⟩
theorem ZeK{b:Bool}(h:nbD m (.bool b)=ZEN):False:=by cases m<;>cases h
theorem ZeM{b:List (D × D)}(h:nbD m (.dict b)=ZEN):False:=by cases m<;>cases h
theorem Zp3:∀(n:Nat) (d e:D),nbD n d=ZEN->(∃m,nbD m e=ZEN)->(ZAV d e=ZEN↔d=e):=by
 intro n
 induction n with
 | zero =>
  intro d e hd ⟨m,he⟩;cases d<;>first | cases hd | skip
  all_goals cases e<;>first
   | exact(ZeK he).elim
   | exact(ZeM he).elim
   | exact⟨λ_=>rfl,λ_=>rfl⟩
   | exact⟨(λh=>by cases h),(λh=>by cases h)⟩
   | (rename_i a b; show((a==b)=ZEN)↔_; simp)
 | succ n ih =>
  intro d e hd ⟨m,he⟩;cases d with
  | bool _=>exact(ZeK hd).elim
  | dict _=>exact(ZeM hd).elim
  | list ds =>
   cases e with
   | list es=>show(ZDA ds es=ZEN)↔_;rw[Zk3 (λd h e he=>ih d e (ZzR.mp (show ds.all (nbD n)=ZEN from hd) d h) he) es (ZuZ he)];simp
   | bool _=>exact(ZeK he).elim
   | dict _=>exact(ZeM he).elim
   | _=>exact⟨(λh=>by cases h),(λh=>by cases h)⟩
  | tuple ds =>
   cases e with
   | tuple es=>show(ZDA ds es=ZEN)↔_;rw[Zk3 (λd h e he=>ih d e (ZzR.mp (show ds.all (nbD n)=ZEN from hd) d h) he) es (Ztz he)];simp
   | bool _=>exact(ZeK he).elim
   | dict _=>exact(ZeM he).elim
   | _=>exact⟨(λh=>by cases h),(λh=>by cases h)⟩
  | none=>cases e<;>first
   | exact(ZeK he).elim
   | exact(ZeM he).elim
   | exact⟨λ_=>rfl,λ_=>rfl⟩
   | exact⟨(λh=>by cases h),(λh=>by cases h)⟩
  | int i=>cases e<;>first
   | exact(ZeK he).elim
   | exact(ZeM he).elim
   | exact⟨(λh=>by cases h),(λh=>by cases h)⟩
   | (rename_i b; show((i==b)=ZEN)↔_; simp)
  | str i=>cases e<;>first
   | exact(ZeK he).elim
   | exact(ZeM he).elim
   | exact⟨(λh=>by cases h),(λh=>by cases h)⟩
   | (rename_i b; show((i==b)=ZEN)↔_; simp)
theorem ZvK{d e:D}(hd:nbD n d=ZEN)(he:nbD m e=ZEN)(hn:n<=60)(hm:m<=60)[Decidable (d=e)]:gEq d e=Z (.bool (decide (d=e))):=by
 unfold gEq;rw[Zik hd hn,Zik he hm,if_pos (by rfl)];congr 2;have h:=Zp3 n d e hd ⟨m,he⟩;cases q:ZAV d e with
 | true=>exact(decide_eq_true (h.mp q)).symm
 | false=>exact(decide_eq_false λz=>by rw[h.mpr z]at q; cases q).symm
theorem ZeR{d:D}(hd:nbD n d=ZEN)(hn:n<=60):gEq d d=Z (.bool ZEN):=by unfold gEq;rw[Zik hd hn,(Zp3 n d d hd ⟨n,hd⟩).mpr rfl];rfl
theorem Zgw{d e:D}(hd:nbD n d=ZEN)(he:nbD m e=ZEN)(hn:n<=60)(hm:m<=60)(h:d≠e):gEq d e=Z (.bool ZEO):=by have:Decidable (d=e):=isFalse h;rw[ZvK hd he hn hm,decide_eq_false h]
theorem Zp0(n:Nat)(ns:List Int):nbD (n+1) (tupI ns)=ZEN:=by show(ns.map dI).all (nbD n)=ZEN;rw[ZzR];intro d hd;obtain⟨i,_,rfl⟩:=ZzI.mp hd;cases n<;>rfl
theorem Ztr(n:Nat)(ns:List Int):nbD (n+1) (.list (ns.map dI))=ZEN:=Zp0 n ns
theorem Zzj(h:∀d∈ds,nbD n d=ZEN):nbD (n+1) (.tuple ds)=ZEN:=ZzR.mpr h
theorem Zzi(h:∀d∈ds,nbD n d=ZEN):nbD (n+1) (.list ds)=ZEN:=ZzR.mpr h
theorem Zbs(n:Nat)(i:Int):nbD n (.int i)=ZEN:=by cases n<;>rfl
theorem Zvg(n:Nat):nbD n .none=ZEN:=by cases n<;>rfl
end HG
namespace HG
open PySem HM
def lkV(n:Nat)(c:Int):List Int:=((ZzQ n).filter λ(k:Nat)=>decide (0<ZT (c+19*(k:Int)) 9857 4)).map λ(k:Nat)=>(k:Int)
theorem Zzh(n:Nat)(c:Int):Cr n (lkV n c):=Zh9 n _
def Zzq(w:Wk)(c:List Int)(d:Int):D:=if ZeD w c d then tupI (ZbK w c d)else .none
theorem ZdU{w:Wk}{c:List Int}{d:Int}(h:d∈doV w c):0<=d/\d<w.deeds.length/\ZeD w c d=ZEN:=by unfold doV at h;obtain⟨k,hk,rfl⟩:=ZzI.mp h;obtain⟨h1,h2⟩:=ZAA.mp hk;have:=ZAj.mp h1;exact⟨by omega,by omega,h2⟩
end HG
namespace HG4
open PySem HM HG
end HG4
namespace HM
open PySem
theorem Zfk{α:Type}{c:TF}{e:EF}{r:Env}(a b:α->D)(p:α->Bool)(f:α->D):∀(xs:List α),(∀x∈xs,c (Z (.pl (a x))::Z (.pl (b x))::r)=Z (p x))->(∀x∈xs,p x=ZEN->e (Z (.pl (a x))::Z (.pl (b x))::r)=Z (f x)) ->
  Zdw c e r (xs.map λx=>.tuple [a x,b x])=Z ((xs.filter p).map f)
 | [],_,_=>rfl
 | x::xs,h1,h2=>by
  have ih:=Zfk a b p f xs (λy hy=>h1 y (ZzD _ hy)) (λy hy=>h2 y (ZzD _ hy));have hc:=h1 x (ZzB ..);rw[ZzG];unfold Zdw;rw[hc];cases hp:p x with
  | true=>have he:=h2 x (ZzB ..) hp;dsimp only;rw[he];dsimp only;rw[ih,ZD6 hp];rfl
  | false=>dsimp only;rw[ih,ZD7 (by simp[hp])]
theorem ZV{P:Option Out->Prop}{a b:SF}{r r':Env}(h:a r=Z (.nx r'))(k:P (b r')):P (Zu a b r):=by show P (match a r with | some (.nx r')=>b r' | some (.rt d)=>Z (.rt d) | some (.bk r')=>Z (.bk r') | some (.ct r')=>Z (.ct r') | none=>Z_);rw[h];exact k
end HM
namespace HG4
open PySem HM HG
variable{x:Int}{c:List Int}{w:Wk}
def Zrj(w:Wk)(ls c:List Int)(s:Int):List Int:=c.filter λx=>ZL w ls x==ZL w ls s
theorem Zv7{n:Nat}(p:Int->Bool)(h:Cr n c):Cr n (c.filter p):=⟨h.1.filter p,λx hx=>h.2 x (ZAA.mp hx).1⟩
def alV(w:Wk):List Int:=(ZzQ w.looks.length).map λ(k:Nat)=>(k:Int)
theorem Zli(w:Wk):Cr w.looks.length (alV w):=by
 have:=Zh9 w.looks.length λ_=>ZEN
 rwa [ZBh.mpr λ_ _=>rfl]at this
theorem ZnL{ls:List Int}{s:Int}:x∈Zrj w ls c s↔x∈c/\ZL w ls x=ZL w ls s:=by unfold Zrj;rw[ZAA,beq_iff_eq]
theorem ZuS{d:Int}:x∈ZbK w c d↔∃s∈c,x∈ZcM w d s:=by
 unfold ZbK;rw[(sortI_perm _).mem_iff,Zfl];unfold ZbM;rw[ZB4]
 constructor
 ·rintro (h | h)
  ·cases h
  ·exact h
 ·exact .inr
end HG4
namespace HM
open PySem
def ZH:Option Out->Option D
 | some (.nx _)=>Z .none
 | some (.rt d)=>Z d
 | _=>Z_
end HM
namespace HG4
open PySem HM HG
end HG4
namespace HG5
open PySem HM HG HG4
variable{c ls p:List Int}{w:Wk}
def Zcz(w:Wk)(ls c:List Int):List (List Int):=(ZR w ls c).map (·.2)
theorem Zmr:p∈Zcz w ls c↔∃s∈c,p=Zrj w ls c s:=by
 unfold Zcz ZR;rw[ZzV,ZzI];have hg:=Zf0 (ZL w ls) c
 constructor
 ·rintro ⟨k,hk,rfl⟩
  obtain⟨s,hs,e⟩:=ZzI.mp ((hg.mem k).mp ((Zdy _).mem_iff.mp hk));refine⟨s,hs,?_⟩;subst e;rfl
 ·rintro ⟨s,hs,rfl⟩
  exact⟨ZL w ls s,(Zdy _).mem_iff.mpr ((hg.mem _).mpr (ZzI.mpr ⟨s,hs,rfl⟩)),rfl⟩
theorem Zqc(hc:Cr w.many c)(h:p∈Zcz w ls c):Cr w.many p/\p≠[]/\∀x∈p,x∈c:=by obtain⟨s,hs,rfl⟩:=Zmr.mp h;exact⟨Zv7 _ hc,ZDu (ZnL.mpr ⟨hs,rfl⟩),λx hx=>(ZnL.mp hx).1⟩
theorem ZnQ(h:c≠[]):Zcz w ls c≠[]:=by
 cases c with
 | nil=>exact absurd rfl h
 | cons s c=>exact ZDu (Zmr.mpr ⟨s,ZzB ..,rfl⟩)
def ZiT:Nat->List (List Int)
 | 0=>[[]]
 | n+1=>ZiT n++(ZiT n).map (·++[(n:Int)])
theorem Zn8:∀n,(ZiT n).length=2 ^ n
 | 0=>rfl
 | n+1=>by show(ZiT n++(ZiT n).map (·++[(n:Int)])).length=_;rw[ZzM,Zzw,Zn8 n,Nat.pow_succ];omega
theorem ZkK:∀(n:Nat) (c:List Int),Cr n c->c∈ZiT n
 | 0,c,h=>by
  cases c with
  | nil=>exact ZzF.mpr rfl
  | cons x c=>have:=h.2 x (ZzB ..); omega
 | n+1,c,h=>by
  show c∈ZiT n++(ZiT n).map (·++[(n:Int)])
  by_cases hm:(n:Int)∈c
  ·-- the last is n
   have key:∀(c:List Int),c.Pairwise (· < ·)->(∀x∈c,0<=x/\x<((n+1:Nat):Int))->(n:Int)∈c->∃c',c=c'++[(n:Int)]/\c'.Pairwise (· < ·)/\∀x∈c',0<=x/\x<(n:Int):=by
    intro c
    induction c with
    | nil=>intro _ _ h; simp at h
    | cons x c ih =>
     intro hp hb hm;obtain⟨p1,p2⟩:=ZAo.mp hp
     by_cases hx:x=(n:Int)
     ·cases c with
      | nil=>exact⟨[],by rw[hx]; rfl,.nil,λy hy=>by simp at hy⟩
      | cons y c=>have h1:=p1 y (ZzB ..);have h2:=hb y (ZzD _ (ZzB ..));omega
     ·have hm':(n:Int)∈c:=by
       rcases ZzK.mp hm with e | e
       ·exact absurd e.symm hx
       ·exact e
      obtain⟨c',e,q1,q2⟩:=ih p2 (λy hy=>hb y (ZzD _ hy)) hm';refine⟨x::c',by rw[e]; rfl,ZAo.mpr ⟨λy hy=>p1 y (by rw[e]; exact ZAC _ hy),q1⟩,λy hy=>?_⟩;rcases ZzK.mp hy with e' | hy
      ·have h1:=p1 (n:Int) hm'
       have h2:=hb x (ZzB ..);rw[e'];omega
      ·exact q2 y hy
   obtain⟨c',e,q1,q2⟩:=key c h.1 h.2 hm;exact ZzX _ (ZzI.mpr ⟨c',ZkK n c' ⟨q1,q2⟩,e.symm⟩)
  ·refine ZAC _ (ZkK n c ⟨h.1,λx hx=>?_⟩)
   have h1:=h.2 x hx;have:x≠(n:Int):=λe=>hm (e▸hx);omega
theorem Zk5{n:Nat}{L:List (List Int)}(hn:L.Nodup)(h:∀c∈L,Cr n c):L.length<=2 ^ n:=by rw[<-Zn8 n];exact ZA5 hn λc hc=>ZkK n c (h c hc)
def ZbP(w:Wk)(c:List Int):Bool:=c.all λs=>w.goal.contains s
def Win(w:Wk)(ls:List Int):Nat->List Int->Bool
 | 0,c=>ZbP w c
 | n+1,c=>ZbP w c||(ZzQ w.deeds.length).any λd=>ZeD w c d&&(Zcz w ls (ZbK w c d)).all λp=>Win w ls n p
def Zzk(w:Wk)(ls:List Int)(L:List (List Int)):Prop:=∀c∈L,∀d:Nat,d<w.deeds.length->ZeD w c d=ZEN->∀p∈Zcz w ls (ZbK w c d),p∈L
theorem Zis{α:Type}{p q:α->Bool}:∀{L:List α},(∀x∈L,p x=ZEN->q x=ZEN)->(∃x∈L,q x=ZEN/\p x=ZEO)->(L.filter p).length<(L.filter q).length
 | [],_,⟨x,hx,_⟩=>by simp at hx
 | y::L,h,⟨x,hx,h1,h2⟩=>by
  have le:∀{L:List α},(∀x∈L,p x=ZEN->q x=ZEN)->(L.filter p).length<=(L.filter q).length:=by
   intro L
   induction L with
   | nil=>intro _; exact ZzH _
   | cons z L ih =>
    intro h;have:=ih λx hx=>h x (ZzD _ hx);have hz:=h z (ZzB ..);rw[ZB6,ZB6];cases hp:p z with
    | true=>rw[hz hp]; simpa using this
    | false =>
     cases q z
     ·simpa using this
     ·simp; omega
  have hL:=λx hx=>h x (ZzD y hx);have hy:=h y (ZzB ..);rw[ZB6,ZB6];rcases ZzK.mp hx with e | hx
  ·subst e
   rw[h2,h1];have:=le hL;simp; omega
  ·have:=Zis hL ⟨x,hx,h1,h2⟩
   cases hp:p y with
   | true=>rw[hy hp]; simpa using this
   | false =>
    cases q y
    ·simpa using this
    ·simp; omega
end HG5
namespace HG5
open PySem HM HG
end HG5
namespace HG5
open PySem HM HG HG4
theorem Zys(p:List Int):Za6 (tupI p)=ZEN:=Zik (Zp0 0 p) (by decide)
theorem ZsO{w:Wk}{c:List Int}{d:Int}(h0:c≠[])(hc:ZeD w c d=ZEN):ZbK w c d≠[]:=by
 cases c with
 | nil=>exact absurd rfl h0
 | cons s c =>
  unfold ZeD at hc;have h1:=ZzR.mp hc s (ZzB ..);have h2:0<(ZcM w d s).length:=by simpa using h1
  cases hr:ZcM w d s with
  | nil=>rw[hr]at h2; simp at h2
  | cons x xs=>exact ZDu (ZuS.mpr ⟨s,ZzB ..,by rw[hr]; exact ZzB ..⟩)
def Zzo(w:Wk)(ls c:List Int)(L:List (List Int))(d:Nat):List (List Int):=if ZeD w c d then L++(Zcz w ls (ZbK w c d)).filter (λp=>!L.contains p)else L
end HG5
namespace HG5
open PySem HM HG HG4
abbrev Tb:=List (List Int × Int)
def encM(M:Tb):List (List Ky × D):=M.map λp=>(Z7 p.1,dI p.2)
theorem Zdk(M:Tb)(k:List Int):Zj (encM M) (Z7 k)=(Zj M k).map dI:=by
 unfold Zj encM;rw[List.find?_map];have e:((λp:List Ky × D=>decide (p.1=Z7 k))∘λp:List Int × Int=>(Z7 p.1,dI p.2))=λp=>decide (p.1=k):=by
  funext p
  simp only[ZC1];exact decide_eq_decide.mpr (ZlB p.1 k)
 rw[e];cases M.find? λp=>decide (p.1=k)<;>rfl
theorem ZoX(M:Tb)(k:List Int)(v:Int):putD (encM M) (Z7 k) (dI v)=encM (putD M k v):=by
 unfold putD;have e1:((encM M).any λp=>decide (p.1=Z7 k))=M.any λp=>decide (p.1=k):=by
  unfold encM;rw[List.any_map];congr 1
  funext p
  simp only[ZC1];exact decide_eq_decide.mpr (ZlB p.1 k)
 rw[e1];split
 ·unfold encM
  rw[ZzV,ZzV];refine ZA3 λp _=>?_;simp only[ZC1]
  by_cases h:p.1=k
  ·rw[if_pos h,if_pos (by rw[h])]
  ·rw[if_neg h,if_neg (λe=>h (ZdR e))]
 ·unfold encM
  rw[Zz4];rfl
theorem Zmk(k:List Int):Zj ([]:Tb) k=Z_:=rfl
theorem Zbj(x:List Int)(v:Int)(M:Tb)(k:List Int):Zj ((x,v)::M) k=if x=k then Z v else Zj M k:=by
 unfold Zj;rw[ZAF]
 by_cases h:x=k<;>simp[h]
theorem Zs0(x k:List Int)(v:Int)(M:Tb):Zj (putD M x v) k=if x=k then Z v else Zj M k:=by
 have rep:∀M:Tb,Zj (M.map λp=>if p.1=x then(p.1,v)else p) k=if x=k then(Zj M k).map (λ_=>v)else Zj M k:=by
  intro M
  induction M with
  | nil=>rw[ZB1,Zmk]; split<;>rfl
  | cons p M ih =>
   obtain⟨a,b⟩:=p;rw[ZzG]
   by_cases ha:a=x
   ·rw[if_pos (show(a,b).1=x from ha),Zbj,Zbj,ih]
    show(if a=k then Z v else _)=_
    by_cases hk:x=k
    ·rw[if_pos (by rw[ha,hk]),if_pos hk,if_pos (by rw[ha,hk])]; rfl
    ·rw[if_neg (by rw[ha]; exact hk),if_neg hk,if_neg hk,if_neg (by rw[ha]; exact hk)]
   ·rw[if_neg (show ¬(a,b).1=x from ha),Zbj,Zbj,ih]
    by_cases hk:a=k
    ·rw[if_pos hk,if_pos hk]
     have:x≠k:=λe=>ha (hk.trans e.symm);rw[if_neg this]
    ·rw[if_neg hk,if_neg hk]
 have app:∀M:Tb,Zj (M++[(x,v)]) k=match Zj M k with | some u=>Z u | none=>if x=k then Z v else Z_:=by
  intro M
  induction M with
  | nil=>rw[ZBr,Zbj,Zmk]
  | cons p M ih =>
   obtain⟨a,b⟩:=p;rw[ZD1,Zbj,Zbj,ih]
   by_cases hk:a=k
   ·rw[if_pos hk,if_pos hk]
   ·rw[if_neg hk,if_neg hk]
 have has:∀M:Tb,(M.any λp=>decide (p.1=x))=(Zj M x).isSome:=by
  intro M
  induction M with
  | nil=>rfl
  | cons p M ih =>
   obtain⟨a,b⟩:=p;rw[ZCc,Zbj,ih]
   by_cases ha:a=x<;>simp[ha]
 unfold putD;split
 ·rename_i h
  rw[rep]
  by_cases hk:x=k
  ·subst hk
   rw[has]at h;rw[if_pos rfl,if_pos rfl];obtain⟨u,hu⟩:=ZAd.mp h;rw[hu]; rfl
  ·rw[if_neg hk,if_neg hk]
 ·rename_i h
  rw[app]
  by_cases hk:x=k
  ·subst hk
   rw[has]at h;rw[if_pos rfl,if_pos rfl];cases hq:Zj M x with
   | none=>rfl
   | some u=>rw[hq]at h; exact absurd rfl h
  ·rw[if_neg hk,if_neg hk]
   cases Zj M k<;>rfl
theorem Zqd(x:List Int)(v:Int)(M:Tb):(putD M x v).length<=M.length+1:=by
 unfold putD;split
 ·rw[Zzw]; omega
 ·rw[ZzM]; exact ZzH _
def ZA(M:Tb)(p:List Int):Bool:=(Zj M p).isSome
def ZyN(w:Wk)(ls c:List Int)(M:Tb):Bool:=(ZzQ w.deeds.length).any λd=>ZeD w c d&&(Zcz w ls (ZbK w c d)).all λp=>ZA M p
end HG5
namespace HG5
open PySem HM HG HG4
def ZxL(w:Wk)(ls:List Int)(t:Nat)(c:List Int):Option Int:=((ZzQ (t+1)).find? λn=>Win w ls n c).map λ(n:Nat)=>(n:Int)
structure ZyC(w:Wk)(ls:List Int)(L:List (List Int))(t:Nat)(M:Tb):Prop where
 look:∀c,Zj M c=if c∈L then ZxL w ls t c else Z_
theorem ZgH(v:Int)(k:List Int):∀(ms:List (List Int)) (M:Tb),Zj (ms.foldl (λM c=>putD M c v) M) k=if k∈ms then Z v else Zj M k
 | [],M=>by simp
 | c::ms,M=>by
  rw[ZBq,ZgH v k ms,Zs0]
  by_cases h1:k∈ms
  ·rw[if_pos h1,if_pos (ZzD _ h1)]
  ·rw[if_neg h1]
   by_cases h2:c=k
   ·rw[if_pos h2,if_pos (by rw[h2]; exact ZzB ..)]
   ·rw[if_neg h2,if_neg]
    intro h;rcases ZzK.mp h with e | e
    ·exact h2 e.symm
    ·exact h1 e
theorem Zmb(v:Int):∀(ms:List (List Int)) (M:Tb),(ms.foldl (λM c=>putD M c v) M).length<=M.length+ms.length
 | [],M=>ZzH _
 | c::ms,M=>by rw[ZBq,ZzS];have:=Zmb v ms (putD M c v);have:=Zqd c v M;omega
def Zyb(w:Wk)(ls:List Int)(L:List (List Int))(M:Tb):List (List Int):=L.filter λc=>!ZA M c&&ZyN w ls c M
def M0(w:Wk)(L:List (List Int)):Tb:=(L.filter λc=>ZbP w c).foldl (λM c=>putD M c 0) []
end HG5
namespace HG5
open PySem HM HG HG4
def Ztl(w:Wk)(ls:List Int)(n:Nat):Prop:=∀p∈Zcz w ls w.beg,Win w ls n p=ZEN
def Few(w:Wk)(ls:List Int)(d:D):Prop:=(∃n:Nat,d=.int n/\Ztl w ls n/\∀m,m<n->¬Ztl w ls m)\/(d=.none/\∀n,¬Ztl w ls n)
end HG5
namespace HG5
open PySem HM HG
def Zpb:SF :=
 (ZB (eIx (Zn 0) (eC (.int 3))))
def Zbz:List D->Option D:=fnOf 1 1 Zpb
def Zqz:SF :=
 (ZB (eIx (Zn 0) (eC (.int 4))))
def Zeg:List D->Option D:=fnOf 1 1 Zqz
def ZjW:SF :=
 (ZB (Zh0 (ZF (Zad (bOf (Zc 1))) ZS (ZoB (Zc 0) (bOf (Zk Zeg (Za (Zc 1) Ze)))))))
def ZbW:List D->Option D:=fnOf 2 2 ZjW
def ZiE:SF :=
 (ZB (eOf (ZF (Zad (bOf (Zc 0))) ZS (eIx (Zn 0) (eC (.int 1))))))
def Zac:List D->Option D:=fnOf 1 1 ZiE
def Zb2(ap:AP):SF :=
 (ZjG 3 (Zjf Zac (Za (eIx (Zn 5) (eC (.int 1))) Ze)))
def Zbu(ap:AP):SF :=
 (Zu (Zto 4 3)
  (sIf (tV (Zd6 (Zc 4) (Zn 2))) (Zu (Zg6 2 (Zc 4) (ZcQ ap 1 (Za (Zc 4) Ze)))
  (Zbx 5 (Zad (bOf (Z8 (Zn 2) (Zc 4)))) (Zb2 ap))) ZaY))
def Zc0(ap:AP):SF :=
 (Zu (ZU 2 fDt)
  (Zu (ZU 3 (Zf1 (Zn 0)))
  (Zu (ZoH 100000 (tV (op2 gGt (Za2 (Zn 3)) (eC (.int 0)))) (Zbu ap))
  (Zhb 2 (ZB (Zc 2))))))
def Zcb(ap:AP):List D->Option D:=fnOf 2 6 (Zc0 ap)
def Zfr(ap:AP):SF :=
 (Zu (ZU 3 (ZF (Zad (bOf (Zc 0))) ZS (ZcQ ap 3 (Za (Zc 0) (Za (Zc 2) Ze)))))
  (Zhb 3 (ZB (ZfV (ZF (Zad (bOf (Zc 3))) (tV (op2 Zh1 (Zc 0) (eC .none))) (Zc 0))))))
def ZaV(ap:AP):List D->Option D:=fnOf 3 4 (Zfr ap)
def Z1(ap:AP):SF :=
 (sIf (tV (Zd6 (Zc 4) (Zn 1))) (Zu (Zae 5 (Zk (ZaV ap) (Za (Z8 (Zn 0) (Zc 4)) (Za (Zc 1) (Za (Zc 2) Ze)))))
  (sIf (tV (op2 Zh1 (Zc 5) (eC .none))) (Zg6 3 (Zc 4) (Zc 5)) ZaY)) ZaY)
def Zbo(ap:AP):List D->Option (List (List Ky × D)):=newOf 3 6
 (Zkn (ZU 3 fDt)
 (Zkn (Zeu 0 (Zbx 4 (ZaH 0) (Z1 ap)))
 (Zos 3)))
def Zdc(ap:AP):SF :=
 (Zg6 3 (Zc 6) (Zc 4))
def Zdd(ap:AP):SF :=
 (Zu (Zhb 5 (Zbx 6 (Zad (bOf (Zc 5))) (Zdc ap)))
  (Zu (ZU 7 (Zjj (Zbo ap) (Za (Zc 1) (Za (ZhY (Zn 3)) (Za (Zc 2) Ze)))))
  (Zu (Zhb 7 (Zeu 7 (Zae 4 (ZfV (ZF (ZaH 7) ZS (Z8 (Zn 8) (Zc 0)))))))
  (Zhb 7 (Zeu 7 (ZU 5 (ZF (ZaH 7) (tV (op2 gEq (Z8 (Zn 8) (Zc 0)) (Zc 5))) (Zc 0))))))))
def ZeX(ap:AP):SF :=
 (Zu (ZU 3 fDt)
  (Zu (Zae 4 (eC (.int 0)))
  (Zu (Zeu 1 (ZU 5 (ZF (ZaH 1) (tV (Zk ZbW (Za (Zc 1) (Za (Zc 0) Ze)))) (Zc 0))))
  (Zu (ZoH 100000 (tV (op2 gGt (Za2 (Zn 5)) (eC (.int 0)))) (Zdd ap))
  (Zhb 3 (ZB (Zc 3)))))))
def Zch(ap:AP):List D->Option D:=fnOf 3 8 (ZeX ap)
def ZdO:SF :=
 (Zu (ZU 2 (ZF (Zad (bOf (Zk Zac (Za (Zc 0) Ze)))) (tV (ZoP (Zc 0) (Zn 2))) (Z8 (Zn 2) (Zc 0))))
  (ZB (eIf (tV (op2 gEq (Za2 (Zn 2)) (Za2 (Zn 0)))) (Zk6 (Zn 2)) (eC .none))))
def ZaZ:List D->Option D:=fnOf 2 3 ZdO
def ZiF:SF :=
 (ZB (eOf (ZF (Zad (bOf (Zk ZcN (Za (Zc 0) (Za (Zc 2) Ze))))) ZS (ZC (Za (Zc 0) (Za (Zk ZbE (Za (Zc 1) (Za (Zc 2) (Za (Zk Zd3 (Za (Zc 1) (Za (Zc 3) (Za (Zc 0) Ze)))) Ze)))) Ze))))))
def Zbe:List D->Option D:=fnOf 3 3 ZiF
def Zpc:SF :=
 (Zu (Zae 2 (Zk ZaZ (Za (eIx (Zn 0) (eC (.int 1))) (Za (Zc 1) Ze))))
  (ZB (eIf (tV (op2 Zq4 (Zc 2) (eC .none))) (eC .none) (op2 ZbI (Zc 2) (eC (.int 1))))))
def ZjX:List D->Option D:=fnOf 2 3 Zpc
end HG5
namespace HG5
open PySem HM HG HG4
variable{c:List Int}{w:Wk}
theorem Zzu(w:Wk):ZfD (.pl w.d)=Z [ZAs w.many,.tuple (w.deeds.map Z3),.tuple (w.looks.map tupI),tupI w.beg,tupI w.goal]:=rfl
theorem Zhe(w:Wk):Zbz [w.d]=Z (tupI w.beg):=rfl
theorem ZqW(w:Wk):Zeg [w.d]=Z (tupI w.goal):=rfl
theorem Zo3{α:Type}(xs:List α)(p:α->Bool):ZdG (xs.map λx=>ZAK (p x))=Z (xs.map p):=by
 have:=ZeB (xs.map p)
 rwa [ZzV]at this
theorem ZpM(hc:c.length<1000):ZbW [w.d,tupI c]=Z (.bool (ZbP w c)):=by
 have hb:c.length<1000000:=by omega
 have e:∀r:HM.Env,r[0]?=Z (Z (.pl w.d))->Zan ZS (ZoB (Zc 0) (bOf (Zk Zeg (Za (Zc 1) Ze)))) r (c.map dI)=Z (c.map λs=>ZAK (w.goal.contains s)):=λr r0=>by
  rw[Zbg dI (λs=>ZAK (w.goal.contains s))]
  ·intro s _
   simp[r0,ZqW,Zxq,Zgn,-List.contains_eq_mem]
 simp[ZbW,ZjW,hb,e,Zo3,ZbP,-List.contains_eq_mem]
theorem Zi4(g:Gs)(h:g.length<1000000):Zac [.list (g.map Zak)]=Z (.list ((g.map (·.2)).map tupI)):=by
 have e:∀r:HM.Env,Zan ZS (eIx (Zn 0) (eC (.int 1))) r (g.map Zak)=Z ((g.map (·.2)).map tupI):=λr=>by
  rw[Zbg Zak (λp=>tupI p.2),ZzV]
  ·rfl
  ·intro p _
   rfl
 simp[Zac,ZiE,h,e]
def Zkm(w:Wk)(ls c:List Int)(d:Int):D:=.tuple [dI d,.list ((ZR w ls (ZbK w c d)).map Zak)]
def ZuB(w:Wk)(ls c:List Int):D:=.list ((doV w c).map (Zkm w ls c))
theorem split_len{ls:List Int}:(ZR w ls c).length<=c.length:=by unfold ZR;rw[Zzw,(Zdy _).length_eq,Zzw];exact Zrn _ _ _ (Zf0 (ZL w ls) c)
theorem ZjF(w:Wk)(c:List Int):(doV w c).length<=w.deeds.length:=by
 unfold doV;rw[Zzw];have:=ZAR (λ(d:Nat)=>ZeD w c (d:Int)) (ZzQ w.deeds.length)
 rwa [ZBS]at this
theorem Zzd{d:Nat}(hd:d<w.deeds.length)(hc:ZeD w c d=ZEN):(d:Int)∈doV w c:=by unfold doV;exact ZzI.mpr ⟨d,ZAA.mpr ⟨ZAj.mpr hd,hc⟩,rfl⟩
section
variable{w:Wk}(hv:Wk.V w){ls:List Int}(hl:Cr w.looks.length ls)
include hv hl
theorem Zn6(hc:Cr w.many c):Zbe [w.d,tupI ls,tupI c]=Z (ZuB w ls c):=by
 have hdo:=ZmW hv hc;have hb:(doV w c).length<1000000:=by have:=ZjF w c; have:=hv.d2; omega
 have e:∀r:HM.Env,r[0]?=Z (Z (.pl w.d))->r[1]?=Z (Z (.pl (tupI ls)))->r[2]?=Z (Z (.pl (tupI c))) ->
   Zan ZS (ZC (Za (Zc 0) (Za (Zk ZbE (Za (Zc 1) (Za (Zc 2) (Za (Zk Zd3 (Za (Zc 1) (Za (Zc 3) (Za (Zc 0) Ze)))) Ze)))) Ze))) r ((doV w c).map dI)=Z ((doV w c).map (Zkm w ls c)):=λr r0 r1 r2=>by
  rw[Zbg dI (Zkm w ls c)];intro d hd;obtain⟨d0,d1,_⟩:=ZdU hd;have h1:=ZsQ hv hc d0 d1;have h2:=Zme hv hl (ZjD hv hc d0 d1);simp[r0,r1,r2,h1,h2,Zkm]
 simp[Zbe,ZiF,hdo,hb,e,ZuB]
end
end HG5
namespace HG5
open PySem HM HG HG4
variable{C:List (List Int)}{ds:List D}{p:List Int}{n:Nat}{wf:Wf}
abbrev Wy:=D × Gs
def wyD(y:Wy):D:=.tuple [y.1,.list (y.2.map Zak)]
def wyP(y:Wy):List (List Int):=y.2.map (·.2)
abbrev Wf:=List Int->List Wy
inductive Zof(wf:Wf)(B:List (List Int)):List Int->Prop where
 | beg {p:List Int} (h:p∈B):Zof wf B p
 | step {c p:List Int} {y:Wy} (r:Zof wf B c) (hy:y∈wf c) (h:p∈wyP y):Zof wf B p
structure Zfx(wf:Wf)(Ok:List Int->Prop)(B C W:List (List Int)):Prop where
 nd:C.Nodup
 cr:∀c∈C,Ok c
 wr:∀c∈W,Ok c
 rc:∀c∈C,Zof wf B c
 rw:∀c∈W,Zof wf B c
 cl:∀c∈C,∀y∈wf c,∀p∈wyP y,p∈C\/p∈W
 bg:∀p∈B,p∈C\/p∈W
def Zp(wf:Wf)(C:List (List Int)):List (List Ky × D):=C.map λc=>(Z7 c,.list ((wf c).map wyD))
theorem ZgF(wf:Wf)(C:List (List Int))(k:List Int):Zj (Zp wf C) (Z7 k)=if k∈C then Z (.list ((wf k).map wyD))else Z_:=by
 unfold Zj Zp
 induction C with
 | nil=>rfl
 | cons c C ih =>
  rw[ZzG,ZAF]
  by_cases h:c=k
  ·subst h
   rw[if_pos (ZzB ..)];simp
  ·have h':decide ((Z7 c,(ZEM ((wf c).map wyD))).1=Z7 k)=ZEO:=decide_eq_false λe=>h (ZdR e)
   rw[h'];dsimp only;rw[ih]
   by_cases q:k∈C
   ·rw[if_pos q,if_pos (ZzD _ q)]
   ·rw[if_neg q,if_neg λz=>by
     rcases ZzK.mp z with e | e
     ·exact h e.symm
     ·exact q e]
theorem Zte{k:List Int}(h:k ∉ C):putD (Zp wf C) (Z7 k) (.list ((wf k).map wyD))=Zp wf (C++[k]):=by
 unfold putD;rw[if_neg]
 ·unfold Zp
  rw[Zz4];rfl
 ·intro z
  obtain⟨p,hp,e⟩:=ZC4.mp z;unfold Zp at hp;obtain⟨c,hc,rfl⟩:=ZzI.mp hp;have e:=ZdR (of_decide_eq_true e);subst e;exact h hc
theorem Zmg(wf:Wf)(L:List (List Int)):((Zp wf L).map λp=>Zz7 (p.1.map ZaE))=L.map tupI:=by unfold Zp;rw[ZzV];refine ZA3 λc _=>?_;show Zz7 ((c.map ZBk).map ZaE)=Zz7 (c.map dI);rw[ZzV];rfl
def ZlO(wf:Wf)(c:List Int):List (List Int):=(wf c).flatMap wyP
theorem Zfx.old{Ok:List Int->Prop}{B V:List (List Int)}(I:Zfx wf Ok B C (V++[p]))(hp:p∈C):Zfx wf Ok B C V:=by
 have key:∀q,q∈C\/q∈V++[p]->q∈C\/q∈V:=λq h=>by
  rcases h with h | h
  ·exact .inl h
  ·rcases Zz3.mp h with h | h
   ·exact .inr h
   ·rw[ZzF.mp h]; exact .inl hp
 exact⟨I.nd,I.cr,λc h=>I.wr c (ZAC _ h),I.rc,λc h=>I.rw c (ZAC _ h),λc hc y hy q hq=>key q (I.cl c hc y hy q hq),λq hq=>key q (I.bg q hq)⟩
structure Zrd(wf:Wf)(Ok:List Int->Prop):Prop where
 ok:∀c,Ok c->∀y∈wf c,∀p∈wyP y,Ok p
 ys:∀c,Ok c->(wf c).length<=10
 ps:∀c,Ok c->∀y∈wf c,y.2.length<=8
 cs:∀C:List (List Int),C.Nodup->(∀c∈C,Ok c)->C.length<=128
theorem Zfx.new{Ok:List Int->Prop}(O:Zrd wf Ok){B V:List (List Int)}(I:Zfx wf Ok B C (V++[p]))(hp:p ∉ C):Zfx wf Ok B (C++[p]) (V++ZlO wf p):=by
 have hpc:=I.wr p (ZzX _ (ZzF.mpr rfl));have hpr:=I.rw p (ZzX _ (ZzF.mpr rfl));have key:∀q,q∈C\/q∈V++[p]->q∈C++[p]\/q∈V++ZlO wf p:=λq h=>by
  rcases h with h | h
  ·exact .inl (ZAC _ h)
  ·rcases Zz3.mp h with h | h
   ·exact .inr (ZAC _ h)
   ·exact .inl (ZzX _ h)
 refine⟨?_,λc h=>?_,λc h=>?_,λc h=>?_,λc h=>?_,λc h y hy q hq=>?_,λq hq=>key q (I.bg q hq)⟩
 ·rw[ZBy]
  refine⟨I.nd,by simp,λx hx y hy e=>?_⟩;rw[ZzF.mp hy]at e;exact hp (e▸hx)
 ·rcases Zz3.mp h with h | h
  ·exact I.cr c h
  ·rw[ZzF.mp h]; exact hpc
 ·rcases Zz3.mp h with h | h
  ·exact I.wr c (ZAC _ h)
  ·obtain⟨y,hy,hq⟩:=ZB4.mp h
   exact O.ok p hpc y hy c hq
 ·rcases Zz3.mp h with h | h
  ·exact I.rc c h
  ·rw[ZzF.mp h]; exact hpr
 ·rcases Zz3.mp h with h | h
  ·exact I.rw c (ZAC _ h)
  ·obtain⟨y,hy,hq⟩:=ZB4.mp h
   exact .step hpr hy hq
 ·rcases Zz3.mp h with h | h
  ·exact key q (I.cl c h y hy q hq)
  ·rw[ZzF.mp h]at hy
   exact .inr (ZzX _ (ZB4.mpr ⟨y,hy,hq⟩))
theorem Zuj{Ok:List Int->Prop}(O:Zrd wf Ok){c:List Int}(hc:Ok c):(ZlO wf c).length<=80:=by
 have key:∀ys:List Wy,(∀y∈ys,y∈wf c)->(ys.flatMap wyP).length<=8*ys.length:=by
  intro ys
  induction ys with
  | nil=>intro _; exact ZzH 0
  | cons y ys ih =>
   intro h;rw[List.flatMap_cons,ZzM,ZzS];have h1:=ih λx hx=>h x (ZzD _ hx);have h2:=O.ps c hc y (h y (ZzB ..));have h3:(wyP y).length=y.2.length:=by unfold wyP; rw[Zzw]
   omega
 have h1:=key (wf c) λ_ h=>h;have h2:=O.ys c hc;unfold ZlO;omega
theorem ZrT(ap:AP)(e0 e1 e2 e4:Option B):∀(ys:List Wy) (W:List (List Int)) (o:Option B),(∀y∈ys,y.2.length<=8)->W.length+8*ys.length<900000 ->
  ∃o',ZaG 5 (Zb2 ap) (ys.map wyD) [e0,e1,e2,Z (.ol (W.map tupI)),e4,o]=Z (.nx [e0,e1,e2,Z (.ol ((W++ys.flatMap wyP).map tupI)),e4,o'])
 | [],W,o,_,_=>⟨o,by rw[List.flatMap_nil,ZAe]; rfl⟩
 | y::ys,W,o,hds,hlen=>by
  rw[ZzS]at hlen;have hb:=hds y (ZzB ..);have hci:=Zi4 y.2 (by omega);have hpl:(wyP y).length<=8:=by unfold wyP; rw[Zzw]; exact hb
  have body:Zb2 ap [e0,e1,e2,Z (.ol (W.map tupI)),e4,Z (.pl (wyD y))]=Z (.nx [e0,e1,e2,Z (.ol ((W++wyP y).map tupI)),e4,Z (.pl (wyD y))]):=by
   have h1:Zjf Zac (Za (eIx (Zn 5) (eC (.int 1))) Ze) [e0,e1,e2,Z (.ol (W.map tupI)),e4,Z (.pl (wyD y))]=Z (.ol ((wyP y).map tupI)):=by unfold Zjf;show(match Zac [.list (y.2.map Zak)]with | some (.list ys)=>Z (B.ol ys) | _=>Z_)=_;rw[hci];rfl
   unfold Zb2 ZjG;rw[h1];show(if _ then _ else _)=_;rw[if_pos (by rw[Zzw,Zzw]; show _<1000000; omega),Zz4];rfl
  obtain⟨o',ih⟩:=ZrT ap e0 e1 e2 e4 ys (W++wyP y) (Z (.pl (wyD y))) (λx hx=>hds x (ZzD _ hx)) (by rw[ZzM]; omega);refine⟨o',?_⟩;rw[List.flatMap_cons,<-ZBx,<-ih,ZzG];show(match Zb2 ap [e0,e1,e2,Z (.ol (W.map tupI)),e4,Z (.pl (wyD y))]with | some (.nx r')=>_ | some (.ct r')=>_ | some (.bk r')=>_ | some (.rt d)=>_ | none=>_)=_;rw[body]
theorem Zj3(wf:Wf)(C:List (List Int))(p:List Int)(r:HM.Env)(i j:Nat)(h1:r[i]?=Z (Z (.pl (tupI p))))(h2:r[j]?=Z (Z (.ot (Zp wf C)))):tV (Zd6 (Zc i) (Zn j)) r=Z (!decide (p∈C)):=by
 have hk:Zbp (tupI p)=Z (Z7 p):=Zbk p;have hlk:=ZgF wf C p
 by_cases hp:p∈C
 ·rw[if_pos hp]at hlk
  simp[h1,h2,hk,hlk,hp]
 ·rw[if_neg hp]at hlk
  simp[h1,h2,hk,hlk,hp]
theorem Zjv(t:Nat)(cs:List D):Zh5 (fnD t cs)=Z (t,cs):=rfl
section
variable{ap:AP}{wf:Wf}{Ok:List Int->Prop}(O:Zrd wf Ok){t:Nat}{cs:List D}(ha:∀c,Ok c->ap t cs [tupI c]=Z (.list ((wf c).map wyD)))
include O ha
omit ha O in
theorem ZtM{V:List (List Int)}(e0 e1 o4 o5:Option B)(hp:p∈C) :
  Zbu ap [e0,e1,Z (.ot (Zp wf C)),Z (.ol ((V++[p]).map tupI)),o4,o5]=Z (.nx [e0,e1,Z (.ot (Zp wf C)),Z (.ol (V.map tupI)),Z (.pl (tupI p)),o5]):=by
 unfold Zbu;refine ZV (P:=λq=>q=_) (r':=[e0,e1,Z (.ot (Zp wf C)),Z (.ol (V.map tupI)),Z (.pl (tupI p)),o5]) ?_ ?_
 ·rw[Zz4]
  simp
 ·have ht:=Zj3 wf C p [e0,e1,Z (.ot (Zp wf C)),Z (.ol (V.map tupI)),Z (.pl (tupI p)),o5] 4 2 rfl rfl
  rw[decide_eq_true hp]at ht;unfold sIf;rw[ht];rfl
theorem Zth{V:List (List Int)}(e0 o4 o5:Option B)(hp:p ∉ C)(hc:Ok p)(hC:C.length<1000)(hV:V.length<100000) :
  ∃o5',Zbu ap [e0,Z (.pl (fnD t cs)),Z (.ot (Zp wf C)),Z (.ol ((V++[p]).map tupI)),o4,o5]=Z (.nx [e0,Z (.pl (fnD t cs)),Z (.ot (Zp wf (C++[p]))),Z (.ol ((V++ZlO wf p).map tupI)),Z (.pl (tupI p)),o5']):=by
 have hdl:=O.ys p hc;obtain⟨o5',go⟩:=ZrT ap e0 (Z (.pl (fnD t cs))) (Z (.ot (Zp wf (C++[p])))) (Z (.pl (tupI p))) (wf p) V o5 (λy hy=>O.ps p hc y hy) (by omega);refine⟨o5',?_⟩;unfold Zbu;refine ZV (P:=λq=>q=_) (r':=[e0,Z (.pl (fnD t cs)),Z (.ot (Zp wf C)),Z (.ol (V.map tupI)),Z (.pl (tupI p)),o5]) ?_ ?_
 ·rw[Zz4]
  simp
 ·have ht:=Zj3 wf C p [e0,Z (.pl (fnD t cs)),Z (.ot (Zp wf C)),Z (.ol (V.map tupI)),Z (.pl (tupI p)),o5] 4 2 rfl rfl
  rw[decide_eq_false hp]at ht;unfold sIf;rw[ht];show Zu _ _ _=_;have hk:Zbp (tupI p)=Z (Z7 p):=Zbk p;have hww:=ha p hc;have hcl:(Zp wf C).length<1000000:=by unfold Zp; rw[Zzw]; omega
  refine ZV (P:=λq=>q=_) (r':=[e0,Z (.pl (fnD t cs)),Z (.ot (Zp wf (C++[p]))),Z (.ol (V.map tupI)),Z (.pl (tupI p)),o5]) ?_ ?_
  ·rw[<-Zte hp]
   have hv:ZcQ ap 1 (Za (Zc 4) Ze) [e0,Z (.pl (fnD t cs)),Z (.ot (Zp wf C)),Z (.ol (V.map tupI)),Z (.pl (tupI p)),o5]=Z (.list ((wf p).map wyD)):=by unfold ZcQ;show(match Zh5 (fnD t cs)with | some (t,cs)=>_ | none=>Z_)=_;rw[Zjv];exact hww
   unfold Zg6;rw[hv];show(match Zbp (tupI p)with | some y=>_ | none=>Z_)=_;rw[hk];dsimp only;rw[if_pos (show _<big from hcl)];rfl
  ·have hlk:=ZgF wf (C++[p]) p
   rw[if_pos (ZzX _ (ZzF.mpr rfl))]at hlk;have hi:Zad (bOf (Z8 (Zn 2) (Zc 4))) [e0,Z (.pl (fnD t cs)),Z (.ot (Zp wf (C++[p]))),Z (.ol (V.map tupI)),Z (.pl (tupI p)),o5]=Z ((wf p).map wyD):=by simp[hk,hlk]
   unfold Zbx;rw[hi];dsimp only;rw[if_pos (by rw[Zzw]; show _<1000000; omega)];exact go
theorem ZeN(B:List (List Int))(e0:Option HM.B):∀(fuel:Nat) (C W:List (List Int)) (o4 o5:Option HM.B),Zfx wf Ok B C W->(128-C.length)*81+W.length<fuel->(128-C.length)*81+W.length<60000 ->
  ∃C' o4' o5',ZbN (tV (op2 gGt (Za2 (Zn 3)) (eC (.int 0)))) (Zbu ap) fuel [e0,Z (.pl (fnD t cs)),Z (.ot (Zp wf C)),Z (.ol (W.map tupI)),o4,o5]=Z (.nx [e0,Z (.pl (fnD t cs)),Z (.ot (Zp wf C')),Z (.ol []),o4',o5'])/\Zfx wf Ok B C' []
 | 0,C,W,o4,o5,I,h,_=>by omega
 | fuel+1,C,W,o4,o5,I,h,hW=>by
  have hlen:=O.cs C I.nd I.cr
  by_cases hw:W=[]
  ·subst hw
   refine⟨C,o4,o5,?_,I⟩;unfold ZbN;have ht:(tV (op2 gGt (Za2 (Zn 3)) (eC (.int 0)))) [e0,Z (.pl (fnD t cs)),Z (.ot (Zp wf C)),Z (.ol (([]:List (List Int)).map tupI)),o4,o5]=Z ZEO:=by simp
   rw[ht];rfl
  ·obtain⟨V,p,rfl⟩:∃V p,W=V++[p]:=⟨W.dropLast,W.getLast hw,(List.dropLast_concat_getLast hw).symm⟩
   rw[ZzM,ZAc]at h hW;have ht:(tV (op2 gGt (Za2 (Zn 3)) (eC (.int 0)))) [e0,Z (.pl (fnD t cs)),Z (.ot (Zp wf C)),Z (.ol ((V++[p]).map tupI)),o4,o5]=Z ZEN:=by simp
   by_cases hp:p∈C
   ·obtain⟨C',o4',o5',g,J⟩:=ZeN B e0 fuel C V (Z (.pl (tupI p))) o5 (I.old hp) (by omega) (by omega)
    refine⟨C',o4',o5',?_,J⟩;unfold ZbN;rw[ht];dsimp only;rw[ZtM e0 _ o4 o5 hp];exact g
   ·have hpc:=I.wr p (ZzX _ (ZzF.mpr rfl))
    have J0:=I.new O hp;have hl2:=O.cs _ J0.nd J0.cr;rw[ZzM,ZAc]at hl2;have hbl:=Zuj O hpc;obtain⟨q5,e⟩:=Zth O ha (V:=V) e0 o4 o5 hp hpc (by omega) (by omega);obtain⟨C',o4',o5',g,J⟩:=ZeN B e0 fuel (C++[p]) (V++ZlO wf p) (Z (.pl (tupI p))) q5 J0 (by rw[ZzM,ZzM,ZAc]; omega) (by rw[ZzM,ZzM,ZAc]; omega);refine⟨C',o4',o5',?_,J⟩;unfold ZbN;rw[ht];dsimp only;rw[e];exact g
theorem Zrh{B:List (List Int)}(hB:∀c∈B,Ok c)(hl:B.length<=100):∃L,Zcb ap [.list (B.map tupI),fnD t cs]=Z (.dict (Zg (Zp wf L)))/\Zfx wf Ok B L []:=by
 have I0:Zfx wf Ok B [] B:=⟨.nil,λc h=>(by simp at h),hB,λc h=>(by simp at h),λc h=>.beg h,λc h=>(by simp at h),λp h=>.inr h⟩;obtain⟨L,o4,o5,g,J⟩:=ZeN O ha B (Z (.pl (.list (B.map tupI)))) 100000 [] B Z_ Z_ I0 (by simp; omega) (by simp; omega);refine⟨L,?_,J⟩;show ZH (Zc0 ap [Z (.pl (.list (B.map tupI))),Z (.pl (fnD t cs)),Z_,Z_,Z_,Z_])=_;have e:Zc0 ap [Z (.pl (.list (B.map tupI))),Z (.pl (fnD t cs)),Z_,Z_,Z_,Z_]=Z (.rt (.dict (Zg (Zp wf L)))):=by unfold Zc0;refine ZV (P:=λq=>q=_) (r':=[Z (.pl (.list (B.map tupI))),Z (.pl (fnD t cs)),Z (.ot (Zp wf [])),Z_,Z_,Z_]) rfl ?_;refine ZV (P:=λq=>q=_) (r':=[Z (.pl (.list (B.map tupI))),Z (.pl (fnD t cs)),Z (.ot (Zp wf [])),Z (.ol (B.map tupI)),Z_,Z_]) rfl ?_;refine ZV (P:=λq=>q=_) g ?_;simp
 rw[e];rfl
end
theorem Zdu(n:Nat)(p:List Int):noF (n+1) (tupI p)=ZEN:=by show(p.map dI).all (noF n)=ZEN;rw[ZEK];exact ZzR.mpr λx _=>by cases n<;>rfl
theorem Zzg(n:Nat)(i:Int):noF n (.int i)=ZEN:=by cases n<;>rfl
theorem Zdh(h:∀d∈ds,noF n d=ZEN):noF (n+1) (.tuple ds)=ZEN:=ZzR.mpr h
theorem Zoh(h:∀d∈ds,noF n d=ZEN):noF (n+1) (.list ds)=ZEN:=ZzR.mpr h
theorem ZtD(n:Nat)(p:List Int × List Int):noF (n+2) (Zak p)=ZEN:=Zdh λd hd=>by
 rcases ZzK.mp hd with e | hd
 ·subst e; exact Zdu n _
 ·rw[ZzF.mp hd]; exact Zdu n _
theorem ZwZ{y:Wy}(h:noF (n+3) y.1=ZEN):noF (n+4) (wyD y)=ZEN:=Zdh λd hd=>by
 rcases ZzK.mp hd with e | hd
 ·subst e; exact h
 ·rw[ZzF.mp hd]
  exact Zoh λd hd=>by obtain⟨p,_,rfl⟩:=ZzI.mp hd;exact ZtD n p
theorem ZxX{L:List (List Int)}(h:∀c∈L,∀y∈wf c,noF (n+3) y.1=ZEN):noF (n+6) (.dict (Zg (Zp wf L)))=ZEN:=by show(Zg (Zp wf L)).all _=ZEN;refine ZzR.mpr λp hp=>?_;unfold Zg Zp at hp;rw[ZzV]at hp;obtain⟨c,hc,rfl⟩:=ZzI.mp hp;show noF (n+5) (.list ((wf c).map wyD))=ZEN;exact Zoh λd hd=>by obtain⟨y,hy,rfl⟩:=ZzI.mp hd;exact ZwZ (h c hc y hy)
theorem Zx0(w:Wk):noF 20 w.d=ZEN:=by
 refine Zdh λd hd=>?_;have h:∀x:List (List Int),∀d∈x.map tupI,noF 17 d=ZEN:=λx d hd=>by obtain⟨p,_,rfl⟩:=ZzI.mp hd;exact Zdu 16 p
 have hd:=ZzK.mp hd;rcases hd with e | hd
 ·subst e; rfl
 rcases ZzK.mp hd with e | hd
 ·subst e
  exact Zdh λd hd=>by obtain⟨x,_,rfl⟩:=ZzI.mp hd;exact Zdh (h x)
 rcases ZzK.mp hd with e | hd
 ·subst e
  exact Zdh λd hd=>by obtain⟨x,_,rfl⟩:=ZzI.mp hd;exact Zdu 17 x
 rcases ZzK.mp hd with e | hd
 ·subst e; exact Zdu 18 _
 ·rw[ZzF.mp hd]; exact Zdu 18 _
end HG5
namespace HG5
open PySem HM HG HG4
variable{cb:Cb}{c:List Int}{M:Tb}
def oI:Option Int->D
 | some k=>.int k
 | none=>.none
abbrev Cb:=Wy->Tb->Option Int
def ZaN(cb:Cb)(ys:List Wy)(M:Tb):Option Int:=(ys.filterMap λy=>cb y M).min?
def Zar(wf:Wf)(cb:Cb)(L:List (List Int))(M:Tb):Tb:=L.filterMap λc=>if ZA M c then Z_ else(ZaN cb (wf c) M).map λk=>(c,k)
def ZbO(T:Tb):Option Int:=(T.map (·.2)).min?
def ZfA(T:Tb):List (List Int):=(T.filter λp=>Z p.2==ZbO T).map (·.1)
def Zai(found:List (List Int))(k:Int)(M:Tb):Tb:=found.foldl (λM c=>putD M c k) M
inductive Zje(wf:Wf)(cb:Cb)(L:List (List Int)):Tb->Option Int->List (List Int)->Tb->Prop where
 | done {M:Tb} {k:Option Int}:Zje wf cb L M k [] M
 | step {M R:Tb} {k:Int} {found:List (List Int)} (hf:found≠[]) (h:Zje wf cb L (Zai found k M) (ZbO (Zar wf cb L (Zai found k M))) (ZfA (Zar wf cb L (Zai found k M))) R):Zje wf cb L M (Z k) found R
theorem Zod:∀os:List (Option Int),ZaX ((os.filter ZCs).map oI)=Z (os.filterMap id)
 | []=>rfl
 | none::os=>Zod os
 | some k::os=>by show(ZaX ((os.filter ZCs).map oI)).map (k::·)=_;rw[Zod os];rfl
theorem Zir{ap:AP}{t:Nat}{cs:List D}{ys:List Wy}(hy:ys.length<1000)(ha:∀y∈ys,ap t cs [wyD y,.dict (Zg (encM M))]=Z (oI (cb y M))) :
  ZaV ap [.list (ys.map wyD),.dict (Zg (encM M)),fnD t cs]=Z (oI (ZaN cb ys M)):=by
 show ZH (Zfr ap [Z (.pl (.list (ys.map wyD))),Z (.pl (.dict (Zg (encM M)))),Z (.pl (fnD t cs)),Z_])=_;have hb:ys.length<big:=by show _<1000000; omega
 have e1:Zan ZS (ZcQ ap 3 (Za (Zc 0) (Za (Zc 2) Ze))) [Z (.pl (.list (ys.map wyD))),Z (.pl (.dict (Zg (encM M)))),Z (.pl (fnD t cs)),Z_] (ys.map wyD)=Z ((ys.map λy=>cb y M).map oI):=by
  rw[Zbg wyD (λy=>oI (cb y M)),ZzV]
  ·rfl
  ·intro y h
   show(match Zh5 (fnD t cs)with | some (t,cs)=>_ | none=>Z_)=_;rw[Zjv];exact ha y h
 have e2:Zan (tV (op2 Zh1 (Zc 0) (eC .none))) (Zc 0) [Z (.pl (.list (ys.map wyD))),Z (.pl (.dict (Zg (encM M)))),Z (.pl (fnD t cs)),Z (.pl (.list ((ys.map λy=>cb y M).map oI)))] ((ys.map λy=>cb y M).map oI)=Z (((ys.map λy=>cb y M).filter ZCs).map oI):=by
  rw[Zcl oI ZCs oI]
  ·intro o _
   cases o<;>rfl
  ·intro o _ _
   rfl
 unfold Zfr;refine ZV (P:=λq=>ZH q=_) (r':=[Z (.pl (.list (ys.map wyD))),Z (.pl (.dict (Zg (encM M)))),Z (.pl (fnD t cs)),Z (.ol ((ys.map λy=>cb y M).map oI))]) ?_ ?_
 ·unfold ZU ZF
  show ZBv _ (if(ys.map wyD).length<big then _ else _)=_;rw[if_pos (by rw[Zzw]; exact hb),e1];rfl
 ·show ZH (ZBv Out.rt (ZfV _ [Z (.pl (.list (ys.map wyD))),Z (.pl (.dict (Zg (encM M)))),Z (.pl (fnD t cs)),Z (.pl (.list ((ys.map λy=>cb y M).map oI)))]))=_
  have e3:ZF (Zad (bOf (Zc 3))) (tV (op2 Zh1 (Zc 0) (eC .none))) (Zc 0) [Z (.pl (.list (ys.map wyD))),Z (.pl (.dict (Zg (encM M)))),Z (.pl (fnD t cs)),Z (.pl (.list ((ys.map λy=>cb y M).map oI)))]=Z (.ol (((ys.map λy=>cb y M).filter ZCs).map oI)):=by unfold ZF;show(if((ys.map λy=>cb y M).map oI).length<big then _ else Z_)=_;rw[if_pos (by rw[Zzw,Zzw]; exact hb),e2];rfl
  unfold ZfV;rw[e3];show ZH (ZBv Out.rt (match ZaX (((ys.map λy=>cb y M).filter ZCs).map oI)with | some ns=>Z (match ns.min? with | some i=>ZAs i | none=>.none) | none=>Z_))=_;rw[Zod];show Z (match((ys.map λy=>cb y M).filterMap id).min? with | some i=>ZAs i | none=>.none)=_;unfold ZaN;rw[List.filterMap_map];show Z (match(ys.filterMap λy=>cb y M).min? with | some i=>ZAs i | none=>.none)=_;cases(ys.filterMap λy=>cb y M).min?<;>rfl
theorem ZtX{k:Int}(h:ZA M c=ZEO):putD M c k=M++[(c,k)]:=by unfold putD;rw[if_neg];intro z;obtain⟨p,hp,e⟩:=ZC4.mp z;have e:=of_decide_eq_true e;unfold ZA Zj at h;rw[ZBe]at h;have:(M.find? λp=>decide (p.1=c)).isSome=ZEN:=List.find?_isSome.mpr ⟨p,hp,decide_eq_true e⟩;rw[h]at this;cases this
theorem Zrz(M N:Tb)(c:List Int):ZA (M++N) c=(ZA M c||ZA N c):=by unfold ZA Zj;rw[List.find?_append,ZBe,ZBe,ZBe,Option.isSome_or]
theorem ZvL:ZA M c=ZEN↔∃k,(c,k)∈M:=by
 unfold ZA Zj;rw[ZBe,List.find?_isSome]
 constructor
 ·rintro ⟨⟨c',k⟩,h,e⟩
  have e:=of_decide_eq_true e;exact⟨k,by rw[<-e]; exact h⟩
 ·rintro ⟨k,h⟩
  exact⟨_,h,decide_eq_true rfl⟩
theorem Zhp{wf:Wf}{L:List (List Int)}{k:Int}:(c,k)∈Zar wf cb L M↔c∈L/\ZA M c=ZEO/\ZaN cb (wf c) M=Z k:=by
 unfold Zar;rw[ZAu]
 constructor
 ·rintro ⟨c',h1,h2⟩
  split at h2
  ·cases h2
  ·rename_i hn
   obtain⟨k',h3,h4⟩:=Zzy.mp h2;cases h4;exact⟨h1,by simpa using hn,h3⟩
 ·rintro ⟨h1,h2,h3⟩
  exact⟨c,h1,by rw[h2,h3]; rfl⟩
section
variable{ap:AP}{wf:Wf}{L:List (List Int)}{t:Nat}{cs:List D}{cb:Cb}(hnd:L.Nodup)(hlen:L.length<=128)(hys:∀c∈L,(wf c).length<1000)(ha:∀c∈L,∀y∈wf c,∀M,ap t cs [wyD y,.dict (Zg (encM M))]=Z (oI (cb y M)))
include hys ha
theorem Zqk{M:Tb}:∀(K:List (List Int)) (acc:Tb) (o4 o5:Option B),(∀c∈K,c∈L)->K.Nodup->(∀c∈K,ZA acc c=ZEO)->ZaS o4=ZEO->ZaS o5=ZEO->acc.length+K.length<100000 ->
  ∃p4 p5,ZaS p4=ZEO/\ZaS p5=ZEO/\ZaG 4 (Z1 ap) (K.map tupI) [Z (.hd (Zg (Zp wf L))),Z (.pl (.dict (Zg (encM M)))),Z (.pl (fnD t cs)),Z (.ot (encM acc)),o4,o5] =
   Z (.nx [Z (.hd (Zg (Zp wf L))),Z (.pl (.dict (Zg (encM M)))),Z (.pl (fnD t cs)),Z (.ot (encM (acc++Zar wf cb K M))),p4,p5])
 | [],acc,o4,o5,_,_,_,h4,h5,_=>⟨o4,o5,h4,h5,by show Z (Out.nx _)=_; rw[show Zar wf cb [] M=[] from rfl,ZAe]⟩
 | c::K,acc,o4,o5,hK,hn,hacc,h4,h5,hl=>by
  rw[ZzS]at hl;have hc:=hK c (ZzB ..);have hk:Zbp (tupI c)=Z (Z7 c):=Zbk c;have hlk:=Zdk M c;have hlr:=ZgF wf L c;rw[if_pos hc]at hlr;have hlc:=Zir (ap:=ap) (t:=t) (cs:=cs) (cb:=cb) (ys:=wf c) (M:=M) (hys c hc) λy hy=>ha c hc y hy M;have hcons:Zar wf cb (c::K) M=(if ZA M c then[]else match ZaN cb (wf c) M with | some k=>[(c,k)] | none=>[])++Zar wf cb K M:=by
   unfold Zar;rw[ZA1];cases ZA M c with
   | true=>rfl
   | false=>cases ZaN cb (wf c) M<;>rfl
  have step:∀(acc':Tb) (p5:Option B),ZaS p5=ZEO->(∀x∈K,ZA acc' x=ZEO)->acc'.length+K.length<100000->Z1 ap [Z (.hd (Zg (Zp wf L))),Z (.pl (.dict (Zg (encM M)))),Z (.pl (fnD t cs)),Z (.ot (encM acc)),Z (.pl (tupI c)),o5] =
     Z (.nx [Z (.hd (Zg (Zp wf L))),Z (.pl (.dict (Zg (encM M)))),Z (.pl (fnD t cs)),Z (.ot (encM acc')),Z (.pl (tupI c)),p5])->acc'++Zar wf cb K M=acc++Zar wf cb (c::K) M ->
    ∃p4 p5,ZaS p4=ZEO/\ZaS p5=ZEO/\ZaG 4 (Z1 ap) ((c::K).map tupI) [Z (.hd (Zg (Zp wf L))),Z (.pl (.dict (Zg (encM M)))),Z (.pl (fnD t cs)),Z (.ot (encM acc)),o4,o5] =
     Z (.nx [Z (.hd (Zg (Zp wf L))),Z (.pl (.dict (Zg (encM M)))),Z (.pl (fnD t cs)),Z (.ot (encM (acc++Zar wf cb (c::K) M))),p4,p5]):=λacc' p5 hp5 hx hl' e eq=>by
   obtain⟨q4,q5,g4,g5,ih⟩:=Zqk (M:=M) K acc' (Z (.pl (tupI c))) p5 (λx hx=>hK x (ZzD _ hx)) (ZAm.mp hn).2 hx rfl hp5 hl';refine⟨q4,q5,g4,g5,?_⟩;rw[<-eq,<-ih,ZzG];show(match Z1 ap [Z (.hd (Zg (Zp wf L))),Z (.pl (.dict (Zg (encM M)))),Z (.pl (fnD t cs)),Z (.ot (encM acc)),Z (.pl (tupI c)),o5]with | some (.nx r')=>_ | some (.ct r')=>_ | some (.bk r')=>_ | some (.rt d)=>_ | none=>_)=_;rw[e]
  have hKa:∀x∈K,ZA acc x=ZEO:=λx hx=>hacc x (ZzD _ hx);cases hq:Zj M c with
  | some k =>
   have hh:ZA M c=ZEN:=by unfold ZA; rw[hq]; rfl
   rw[hq]at hlk;refine step acc o5 h5 hKa (by omega) ?_ (by rw[hcons,hh]; rfl);have ht:tV (Zd6 (Zc 4) (Zn 1)) [Z (.hd (Zg (Zp wf L))),Z (.pl (.dict (Zg (encM M)))),Z (.pl (fnD t cs)),Z (.ot (encM acc)),Z (.pl (tupI c)),o5]=Z ZEO:=by simp[dec_enc,hk,hlk]
   unfold Z1 sIf;rw[ht];rfl
  | none =>
   have hh:ZA M c=ZEO:=by unfold ZA; rw[hq]; rfl
   rw[hq]at hlk;have ht:tV (Zd6 (Zc 4) (Zn 1)) [Z (.hd (Zg (Zp wf L))),Z (.pl (.dict (Zg (encM M)))),Z (.pl (fnD t cs)),Z (.ot (encM acc)),Z (.pl (tupI c)),o5]=Z ZEN:=by simp[dec_enc,hk,hlk]
   have hca:Zk (ZaV ap) (Za (Z8 (Zn 0) (Zc 4)) (Za (Zc 1) (Za (Zc 2) Ze))) [Z (.hd (Zg (Zp wf L))),Z (.pl (.dict (Zg (encM M)))),Z (.pl (fnD t cs)),Z (.ot (encM acc)),Z (.pl (tupI c)),o5]=Z (oI (ZaN cb (wf c) M)):=by
    have hg:Z8 (Zn 0) (Zc 4) [Z (.hd (Zg (Zp wf L))),Z (.pl (.dict (Zg (encM M)))),Z (.pl (fnD t cs)),Z (.ot (encM acc)),Z (.pl (tupI c)),o5]=Z (.list ((wf c).map wyD)):=by simp[dec_enc,hk,hlr]
    unfold Zk Za;rw[hg];exact hlc
   have hs5:Zae 5 (Zk (ZaV ap) (Za (Z8 (Zn 0) (Zc 4)) (Za (Zc 1) (Za (Zc 2) Ze)))) [Z (.hd (Zg (Zp wf L))),Z (.pl (.dict (Zg (encM M)))),Z (.pl (fnD t cs)),Z (.ot (encM acc)),Z (.pl (tupI c)),o5]=Z (.nx [Z (.hd (Zg (Zp wf L))),Z (.pl (.dict (Zg (encM M)))),Z (.pl (fnD t cs)),Z (.ot (encM acc)),Z (.pl (tupI c)),Z (.pl (oI (ZaN cb (wf c) M)))]):=by unfold Zae;rw[hca];rfl
   cases hle:ZaN cb (wf c) M with
   | none=>rw[hle]at hs5;refine step acc (Z (.pl .none)) rfl hKa (by omega) ?_ (by rw[hcons,hh,hle]; rfl);unfold Z1 sIf;rw[ht];dsimp only;refine ZV (P:=λq=>q=_) hs5 ?_;rfl
   | some k =>
    rw[hle]at hs5;have hput:=ZtX (k:=k) (hacc c (ZzB ..));have hpe:=ZoX acc c k;have hal:(encM acc).length<1000000:=by unfold encM; rw[Zzw]; omega
    refine step (acc++[(c,k)]) (Z (.pl (.int k))) rfl (λx hx=>?_) (by rw[ZzM,ZAc]; omega) ?_ (by rw[hcons,hh,hle,ZBx]; rfl)
    ·rw[Zrz,hKa x hx,Bool.false_or]
     cases hb:ZA [(c,k)] x with
     | false=>rfl
     | true=>obtain⟨k',hm⟩:=ZvL.mp hb;cases ZzF.mp hm;exact absurd hx (ZAm.mp hn).1
    ·unfold Z1 sIf
     rw[ht];dsimp only;refine ZV (P:=λq=>q=_) hs5 ?_;have h2:tV (op2 Zh1 (Zc 5) (eC .none)) [Z (.hd (Zg (Zp wf L))),Z (.pl (.dict (Zg (encM M)))),Z (.pl (fnD t cs)),Z (.ot (encM acc)),Z (.pl (tupI c)),Z (.pl (oI (Z k)))]=Z ZEN:=rfl;rw[h2,<-hput,<-hpe];show(match Zbp (tupI c)with | some y=>_ | none=>Z_)=_;rw[hk];show(if(encM acc).length<big then _ else Z_)=_;rw[if_pos (show _<big from hal)];rfl
include hnd hlen
theorem ZmO(M:Tb):Zbo ap [.dict (Zg (Zp wf L)),.dict (Zg (encM M)),fnD t cs]=Z (encM (Zar wf cb L M)):=by
 obtain⟨p4,p5,g4,g5,go⟩:=Zqk hys ha (M:=M) L [] Z_ Z_ (λ_ h=>h) hnd (λ_ _=>rfl) rfl rfl (by simp; omega);have hw:ZaH 0 [Z (.hd (Zg (Zp wf L))),Z (.pl (.dict (Zg (encM M)))),Z (.pl (fnD t cs)),Z (.ot (encM [])),Z_,Z_]=Z (L.map tupI):=by show(ZeP (Zg (Zp wf L))).map _=_;rw[dec_enc,<-Zmg wf L];rfl
 have hf:Zbx 4 (ZaH 0) (Z1 ap) [Z (.hd (Zg (Zp wf L))),Z (.pl (.dict (Zg (encM M)))),Z (.pl (fnD t cs)),Z (.ot (encM [])),Z_,Z_]=Z (.nx [Z (.hd (Zg (Zp wf L))),Z (.pl (.dict (Zg (encM M)))),Z (.pl (fnD t cs)),Z (.ot (encM (Zar wf cb L M))),p4,p5]):=by unfold Zbx;rw[hw];dsimp only;rw[if_pos (by rw[Zzw]; show _<1000000; omega),go];rfl
 have hh:Zeu 0 (Zbx 4 (ZaH 0) (Z1 ap)) [Z (.pl (.dict (Zg (Zp wf L)))),Z (.pl (.dict (Zg (encM M)))),Z (.pl (fnD t cs)),Z (.ot (encM [])),Z_,Z_]=Z (.nx [Z (.pl (.dict (Zg (Zp wf L)))),Z (.pl (.dict (Zg (encM M)))),Z (.pl (fnD t cs)),Z (.ot (encM (Zar wf cb L M))),p4,p5]):=by
  show(match Zbx 4 (ZaH 0) (Z1 ap) [Z (.hd (Zg (Zp wf L))),Z (.pl (.dict (Zg (encM M)))),Z (.pl (fnD t cs)),Z (.ot (encM [])),Z_,Z_]with | some (.nx r')=>_ | some (.rt d)=>_ | _=>Z_)=_;rw[hf];have a2:([Z_,Z (B.pl (.dict (Zg (encM M)))),Z (.pl (fnD t cs)),Z (.ot (encM (Zar wf cb L M))),p4,p5]:HM.Env).all (λq=>!ZaS q)=ZEN:=by simp only[ZAX,ZD2,g4,g5];rfl
  show(if([Z_,Z (B.pl (.dict (Zg (encM M)))),Z (.pl (fnD t cs)),Z (.ot (encM (Zar wf cb L M))),p4,p5]:HM.Env).all (λq=>!ZaS q)=ZEN then _ else _)=_;rw[if_pos a2];rfl
 unfold Zbo newOf;rw[if_pos (show([PyData.dict (Zg (Zp wf L)),PyData.dict (Zg (encM M)),fnD t cs]:List D).length=3 from rfl)];show(match ZU 3 fDt [Z (.pl (.dict (Zg (Zp wf L)))),Z (.pl (.dict (Zg (encM M)))),Z (.pl (fnD t cs)),Z_,Z_,Z_]with | some (.nx r')=>Zkn (Zeu 0 (Zbx 4 (ZaH 0) (Z1 ap))) (Zos 3) r' | _=>Z_)=_;show Zkn (Zeu 0 (Zbx 4 (ZaH 0) (Z1 ap))) (Zos 3) [Z (.pl (.dict (Zg (Zp wf L)))),Z (.pl (.dict (Zg (encM M)))),Z (.pl (fnD t cs)),Z (.ot (encM [])),Z_,Z_]=_;unfold Zkn;rw[hh];rfl
end
end HG5
namespace HG5
open PySem HM HG HG4
variable{cb:Cb}{M T:Tb}{wf:Wf}
theorem Zp5(ap:AP)(e0 e1 e2 e5 e7:Option B)(v:Int):∀(ms:List (List Int)) (M:Tb) (o:Option B),M.length+ms.length<100000->ZaS o=ZEO ->
  ∃p,ZaS p=ZEO/\ZaG 6 (Zdc ap) (ms.map tupI) [e0,e1,e2,Z (.ot (encM M)),Z (.pl (dI v)),e5,o,e7]=Z (.nx [e0,e1,e2,Z (.ot (encM (Zai ms v M))),Z (.pl (dI v)),e5,p,e7])
 | [],M,o,_,h=>⟨o,h,rfl⟩
 | c::ms,M,o,hlen,_=>by
  rw[ZzS]at hlen;have hml:(encM M).length<1000000:=by unfold encM; rw[Zzw]; omega
  have hk:Zbp (tupI c)=Z (Z7 c):=Zbk c;have hput:=ZoX M c v;have hpl:=Zqd c v M;have e:Zdc ap [e0,e1,e2,Z (.ot (encM M)),Z (.pl (dI v)),e5,Z (.pl (tupI c)),e7]=Z (.nx [e0,e1,e2,Z (.ot (encM (putD M c v))),Z (.pl (dI v)),e5,Z (.pl (tupI c)),e7]):=by rw[<-hput];simp[Zdc,hk,hml]
  obtain⟨p,hp,ih⟩:=Zp5 ap e0 e1 e2 e5 e7 v ms (putD M c v) (Z (.pl (tupI c))) (by omega) rfl;refine⟨p,hp,?_⟩;show _=Z (Out.nx [e0,e1,e2,Z (.ot (encM (Zai ms v (putD M c v)))),Z (.pl (dI v)),e5,p,e7]);rw[ZzG,<-ih];show(match Zdc ap [e0,e1,e2,Z (.ot (encM M)),Z (.pl (dI v)),e5,Z (.pl (tupI c)),e7]with | some (.nx r')=>_ | some (.ct r')=>_ | some (.bk r')=>_ | some (.rt d)=>_ | none=>_)=_;rw[e]
theorem ZiP(T:Tb):((encM T).map λp=>Zz7 (p.1.map ZaE))=(T.map (·.1)).map tupI:=by unfold encM;rw[ZzV,ZzV];refine ZA3 λp _=>?_;show Zz7 ((p.1.map ZBk).map ZaE)=Zz7 (p.1.map dI);rw[ZzV];rfl
def NdT(T:Tb):Prop:=(T.map (·.1)).Nodup
theorem Zqo(h:NdT T){p:List Int × Int}(hp:p∈T):Zj T p.1=Z p.2:=by
 induction T with
 | nil=>simp at hp
 | cons q T ih =>
  obtain⟨c,k⟩:=q;rw[Zbj];unfold NdT at h;rw[ZzG,ZAm]at h;rcases ZzK.mp hp with e | e
  ·subst e; rw[if_pos rfl]
  ·rw[if_neg λz=>h.1 (by rw[z]; exact ZzI.mpr ⟨p,e,rfl⟩)]
   exact ih h.2 e
theorem Zwi:∀{L:List (List Int)},L.Nodup->NdT (Zar wf cb L M):=by
 intro L h;unfold NdT;have:((Zar wf cb L M).map (·.1)).Sublist L:=by
  unfold Zar;rw[List.map_filterMap]
  clear h
  induction L with
  | nil=>exact .slnil
  | cons c L ih =>
   rw[ZA1];cases ZA M c with
   | true=>exact ih.cons c
   | false=>cases ZaN cb (wf c) M with
    | none=>exact ih.cons c
    | some k=>exact ih.cons₂ c
 exact h.sublist this
theorem Zqw{L:List (List Int)}:(Zar wf cb L M).length<=L.length:=ZD3 ..
section
variable{T:Tb}(hT:NdT T)(hl:T.length<100000)
include hT hl
theorem Zr6(r:HM.Env)(h7:r[7]?=Z (Z (.hd (Zg (encM T))))):ZF (ZaH 7) ZS (Z8 (Zn 8) (Zc 0)) r=Z (.ol ((T.map (·.2)).map dI)):=by
 have hw:ZaH 7 r=Z ((T.map (·.1)).map tupI):=by unfold ZaH;rw[h7];show(ZeP (Zg (encM T))).map _=_;rw[dec_enc,<-ZiP T];rfl
 have hg:Zan ZS (Z8 (Zn 8) (Zc 0)) r ((T.map (·.1)).map tupI)=Z ((T.map (·.2)).map dI):=by rw[ZzV,ZzV];have:=Zbg (e:=Z8 (Zn 8) (Zc 0)) (r:=r) (λp:List Int × Int=>tupI p.1) (λp=>dI p.2) T (λp hp=>by have hk:Zbp (tupI p.1)=Z (Z7 p.1):=Zbk p.1;have hlk:=Zdk T p.1;rw[Zqo hT hp]at hlk;simp[h7,dec_enc,hk,hlk]);exact this
 unfold ZF;rw[hw];dsimp only;rw[if_pos (by rw[Zzw,Zzw]; show _<1000000; omega),hg];rfl
theorem ZsP{k:Option Int}(r:HM.Env)(h7:r[7]?=Z (Z (.hd (Zg (encM T)))))(h4:r[4]?=Z (Z (.pl (oI k)))):ZF (ZaH 7) (tV (op2 gEq (Z8 (Zn 8) (Zc 0)) (Zc 5))) (Zc 0) r=Z (.ol (((T.filter λp=>Z p.2==k).map (·.1)).map tupI)):=by
 have hw:ZaH 7 r=Z ((T.map (·.1)).map tupI):=by unfold ZaH;rw[h7];show(ZeP (Zg (encM T))).map _=_;rw[dec_enc,<-ZiP T];rfl
 have hg:Zan (tV (op2 gEq (Z8 (Zn 8) (Zc 0)) (Zc 5))) (Zc 0) r ((T.map (·.1)).map tupI)=Z (((T.filter λp=>Z p.2==k).map (·.1)).map tupI):=by
  rw[ZzV,ZzV];have:=Zcl (c:=tV (op2 gEq (Z8 (Zn 8) (Zc 0)) (Zc 5))) (e:=Zc 0) (r:=r) (λp:List Int × Int=>tupI p.1) (λp=>Z p.2==k) (λp=>tupI p.1) T (λp hp=>by
   have hk:Zbp (tupI p.1)=Z (Z7 p.1):=Zbk p.1;have hlk:=Zdk T p.1;rw[Zqo hT hp]at hlk;have h1:Z8 (Zn 8) (Zc 0) (Z (.pl (tupI p.1))::r)=Z (.int p.2):=by simp[h7,dec_enc,hk,hlk]
   have h2:Zc 5 (Z (B.pl (tupI p.1))::r)=Z (oI k):=by simp[h4]
   unfold tV op2;rw[h1,h2];cases k with
   | none=>show(match gEq (.int p.2) .none with | some (.bool b)=>Z b | _=>Z_)=_;rw[Zgw (Zbs 1 _) (Zvg 1) (by decide) (by decide) (by simp)];rfl
   | some k =>
    show(match gEq (.int p.2) (.int k)with | some (.bool b)=>Z b | _=>Z_)=_
    by_cases e:p.2=k
    ·rw[e,ZeR (Zbs 1 _) (by decide)]
     simp
    ·rw[Zgw (Zbs 1 _) (Zbs 1 _) (by decide) (by decide) (by simpa using e)]
     simp[e]) (λp _ _=>by simp)
  exact this
 unfold ZF;rw[hw];dsimp only;rw[if_pos (by rw[Zzw,Zzw]; show _<1000000; omega),hg];rfl
end
section
variable{w:Wk}(hv:Wk.V w){ap:AP}{wf:Wf}{L:List (List Int)}{t:Nat}{cs:List D}{cb:Cb}(hnd:L.Nodup)(hlen:L.length<=128)(hcr:∀c∈L,Cr w.many c)(hys:∀c∈L,(wf c).length<1000)(ha:∀c∈L,∀y∈wf c,∀M,ap t cs [wyD y,.dict (Zg (encM M))]=Z (oI (cb y M)))
include hnd hlen hys ha
theorem Zq2{k:Int}{found:List (List Int)}{o6 o7:Option B}(h6:ZaS o6=ZEO)(h7:ZaS o7=ZEO)(hf:found.length<=128)(hM:M.length<50000) :
  ∃p6 p7,ZaS p6=ZEO/\ZaS p7=ZEO/\Zdd ap [Z (.pl w.d),Z (.pl (.dict (Zg (Zp wf L)))),Z (.pl (fnD t cs)),Z (.ot (encM M)),Z (.pl (dI k)),Z (.ol (found.map tupI)),o6,o7] =
   Z (.nx [Z (.pl w.d),Z (.pl (.dict (Zg (Zp wf L)))),Z (.pl (fnD t cs)),Z (.ot (encM (Zai found k M))),Z (.pl (oI (ZbO (Zar wf cb L (Zai found k M))))),Z (.ol ((ZfA (Zar wf cb L (Zai found k M))).map tupI)),p6,p7]):=by
 obtain⟨p6,hp6,e1⟩:=Zp5 ap (Z (.pl w.d)) (Z (.pl (.dict (Zg (Zp wf L))))) (Z (.pl (fnD t cs))) (Z (.pl (.list (found.map tupI)))) o7 k found M o6 (by omega) h6;generalize hM':Zai found k M=M' at *;have hnx:=ZmO hnd hlen hys ha M';have hT:NdT (Zar wf cb L M'):=Zwi hnd;have hTl:(Zar wf cb L M').length<100000:=by have:=Zqw (wf:=wf) (cb:=cb) (L:=L) (M:=M'); omega
 generalize hO:Zar wf cb L M'=T at *;refine⟨p6,Z (.pl (.dict (Zg (encM T)))),hp6,rfl,?_⟩;unfold Zdd;refine ZV (P:=λq=>q=_) (r':=[Z (.pl w.d),Z (.pl (.dict (Zg (Zp wf L)))),Z (.pl (fnD t cs)),Z (.ot (encM M')),Z (.pl (dI k)),Z (.pl (.list (found.map tupI))),p6,o7]) ?_ ?_
 ·unfold Zhb Zld Zbx
  have hfb:found.length<1000000:=by omega
  simp[hfb];exact e1
 ·refine ZV (P:=λq=>q=_) (r':=[Z (.pl w.d),Z (.pl (.dict (Zg (Zp wf L)))),Z (.pl (fnD t cs)),Z (.ot (encM M')),Z (.pl (dI k)),Z (.pl (.list (found.map tupI))),p6,Z (.ot (encM T))]) ?_ ?_
  ·have hcl:Zjj (Zbo ap) (Za (Zc 1) (Za (ZhY (Zn 3)) (Za (Zc 2) Ze))) [Z (.pl w.d),Z (.pl (.dict (Zg (Zp wf L)))),Z (.pl (fnD t cs)),Z (.ot (encM M')),Z (.pl (dI k)),Z (.pl (.list (found.map tupI))),p6,o7]=Z (.ot (encM T)):=by
    unfold Zjj;show(match Zbo ap [.dict (Zg (Zp wf L)),.dict (Zg (encM M')),fnD t cs]with | some kvs=>if kvs.all (λp=>Zlp p.2)then Z (B.ot kvs)else Z_ | none=>Z_)=_;rw[hnx];have hfl:(encM T).all (λp=>Zlp p.2)=ZEN:=by unfold encM;rw[ZEK];exact ZzR.mpr λp _=>rfl
    dsimp only;rw[if_pos hfl]
   unfold ZU;rw[hcl];rfl
  ·have a1:∀x4 x5:D,([Z (B.pl w.d),Z (.pl (.dict (Zg (Zp wf L)))),Z (.pl (fnD t cs)),Z (.ot (encM M')),Z (.pl x4),Z (.pl x5),p6,Z (.pl (.dict (Zg (encM T))))]:HM.Env).all (λq=>!ZaS q)=ZEN:=λx4 x5=>by
    simp only[ZAX,ZD2,hp6];rfl
   have a2:∀x4:D,∀x5:B,ZaS (Z x5)=ZEO->([Z (B.pl w.d),Z (.pl (.dict (Zg (Zp wf L)))),Z (.pl (fnD t cs)),Z (.ot (encM M')),Z (.pl x4),Z x5,p6,Z_]:HM.Env).all (λq=>!ZaS q)=ZEN:=λx4 x5 hx=>by simp only[ZAX,ZD2,hp6,hx];rfl
   have hv1:=Zr6 hT hTl [Z (.pl w.d),Z (.pl (.dict (Zg (Zp wf L)))),Z (.pl (fnD t cs)),Z (.ot (encM M')),Z (.pl (dI k)),Z (.pl (.list (found.map tupI))),p6,Z (.hd (Zg (encM T)))] rfl;have hm1:Zae 4 (ZfV (ZF (ZaH 7) ZS (Z8 (Zn 8) (Zc 0)))) [Z (.pl w.d),Z (.pl (.dict (Zg (Zp wf L)))),Z (.pl (fnD t cs)),Z (.ot (encM M')),Z (.pl (dI k)),Z (.pl (.list (found.map tupI))),p6,Z (.hd (Zg (encM T)))]=Z (.nx [Z (.pl w.d),Z (.pl (.dict (Zg (Zp wf L)))),Z (.pl (fnD t cs)),Z (.ot (encM M')),Z (.pl (oI (ZbO T))),Z (.pl (.list (found.map tupI))),p6,Z (.hd (Zg (encM T)))]):=by
    have:ZfV (ZF (ZaH 7) ZS (Z8 (Zn 8) (Zc 0))) [Z (.pl w.d),Z (.pl (.dict (Zg (Zp wf L)))),Z (.pl (fnD t cs)),Z (.ot (encM M')),Z (.pl (dI k)),Z (.pl (.list (found.map tupI))),p6,Z (.hd (Zg (encM T)))]=Z (oI (ZbO T)):=by unfold ZfV;rw[hv1];show(match ZaX ((T.map (·.2)).map dI)with | some ns=>Z (match ns.min? with | some i=>ZAs i | none=>.none) | none=>Z_)=_;rw[Zgn];show Z (match(T.map (·.2)).min? with | some i=>ZAs i | none=>.none)=_;unfold ZbO;cases(T.map (·.2)).min?<;>rfl
    unfold Zae;rw[this];rfl
   refine ZV (P:=λq=>q=_) (r':=[Z (.pl w.d),Z (.pl (.dict (Zg (Zp wf L)))),Z (.pl (fnD t cs)),Z (.ot (encM M')),Z (.pl (oI (ZbO T))),Z (.pl (.list (found.map tupI))),p6,Z (.pl (.dict (Zg (encM T))))]) ?_ ?_
   ·show(if([Z (B.pl w.d),Z (.pl (.dict (Zg (Zp wf L)))),Z (.pl (fnD t cs)),Z (.ot (encM M')),Z (.pl (dI k)),Z (.pl (.list (found.map tupI))),p6,Z (.pl (.dict (Zg (encM T))))]:HM.Env).all (λq=>!ZaS q)=ZEN then _ else _)=_
    rw[if_pos (a1 _ _)];show(match Zae 4 _ [Z (.pl w.d),Z (.pl (.dict (Zg (Zp wf L)))),Z (.pl (fnD t cs)),Z (.ot (encM M')),Z (.pl (dI k)),Z (.pl (.list (found.map tupI))),p6,Z (.hd (Zg (encM T)))]with | some (.nx r')=>_ | some (.rt d)=>_ | _=>Z_)=_;rw[hm1];show(if([Z (B.pl w.d),Z (.pl (.dict (Zg (Zp wf L)))),Z (.pl (fnD t cs)),Z (.ot (encM M')),Z (.pl (oI (ZbO T))),Z (.pl (.list (found.map tupI))),p6,Z_]:HM.Env).all (λq=>!ZaS q)=ZEN then _ else _)=_;rw[if_pos (a2 _ _ rfl)];rfl
   ·have hk1:=ZsP hT hTl (k:=ZbO T) [Z (.pl w.d),Z (.pl (.dict (Zg (Zp wf L)))),Z (.pl (fnD t cs)),Z (.ot (encM M')),Z (.pl (oI (ZbO T))),Z (.pl (.list (found.map tupI))),p6,Z (.hd (Zg (encM T)))] rfl rfl
    have hm2:ZU 5 (ZF (ZaH 7) (tV (op2 gEq (Z8 (Zn 8) (Zc 0)) (Zc 5))) (Zc 0)) [Z (.pl w.d),Z (.pl (.dict (Zg (Zp wf L)))),Z (.pl (fnD t cs)),Z (.ot (encM M')),Z (.pl (oI (ZbO T))),Z (.pl (.list (found.map tupI))),p6,Z (.hd (Zg (encM T)))]=Z (.nx [Z (.pl w.d),Z (.pl (.dict (Zg (Zp wf L)))),Z (.pl (fnD t cs)),Z (.ot (encM M')),Z (.pl (oI (ZbO T))),Z (.ol ((ZfA T).map tupI)),p6,Z (.hd (Zg (encM T)))]):=by unfold ZU;rw[hk1];rfl
    show(if([Z (B.pl w.d),Z (.pl (.dict (Zg (Zp wf L)))),Z (.pl (fnD t cs)),Z (.ot (encM M')),Z (.pl (oI (ZbO T))),Z (.pl (.list (found.map tupI))),p6,Z (.pl (.dict (Zg (encM T))))]:HM.Env).all (λq=>!ZaS q)=ZEN then _ else _)=_;rw[if_pos (a1 _ _)];show(match ZU 5 _ [Z (.pl w.d),Z (.pl (.dict (Zg (Zp wf L)))),Z (.pl (fnD t cs)),Z (.ot (encM M')),Z (.pl (oI (ZbO T))),Z (.pl (.list (found.map tupI))),p6,Z (.hd (Zg (encM T)))]with | some (.nx r')=>_ | some (.rt d)=>_ | _=>Z_)=_;rw[hm2];show(if([Z (B.pl w.d),Z (.pl (.dict (Zg (Zp wf L)))),Z (.pl (fnD t cs)),Z (.ot (encM M')),Z (.pl (oI (ZbO T))),Z (.ol ((ZfA T).map tupI)),p6,Z_]:HM.Env).all (λq=>!ZaS q)=ZEN then _ else _)=_;rw[if_pos (a2 _ _ rfl)];rfl
omit hnd hlen hys ha in
theorem Zn2{c:List Int}(h:c∈ZfA (Zar wf cb L M)):c∈L/\ZA M c=ZEO:=by obtain⟨⟨c',k⟩,h1,rfl⟩:=ZzI.mp h;have:=Zhp.mp (ZAA.mp h1).1;exact⟨this.1,this.2.1⟩
omit hnd hlen hys ha in
theorem Zr5(h:ZfA T≠[]):∃k,ZbO T=Z k:=by
 cases hq:ZbO T with
 | some k=>exact⟨k,rfl⟩
 | none=>refine absurd ?_ h;unfold ZbO at hq;rw[ZCm]at hq;have:=List.map_eq_nil_iff.mp hq;subst this;rfl
theorem ZiV:∀(fuel n:Nat) (M:Tb) (k:Option Int) (found:List (List Int)) (o6 o7:Option B),ZaS o6=ZEO->ZaS o7=ZEO->(∀c∈found,c∈L/\ZA M c=ZEO)->found.length<=128->M.length<=128*n->n<=(L.filter λc=>ZA M c).length->130<=n+fuel->(found≠[]->∃i,k=Z i) ->
  ∃R p4 p5 p6 p7,ZbN (tV (op2 gGt (Za2 (Zn 5)) (eC (.int 0)))) (Zdd ap) fuel [Z (.pl w.d),Z (.pl (.dict (Zg (Zp wf L)))),Z (.pl (fnD t cs)),Z (.ot (encM M)),Z (.pl (oI k)),Z (.ol (found.map tupI)),o6,o7]=Z (.nx [Z (.pl w.d),Z (.pl (.dict (Zg (Zp wf L)))),Z (.pl (fnD t cs)),Z (.ot (encM R)),p4,p5,p6,p7])/\Zje wf cb L M k found R
 | 0,n,M,k,found,o6,o7,_,_,_,_,_,ht,hfu,_=>by have:=ZAR (λc=>ZA M c) L;omega
 | fuel+1,n,M,k,found,o6,o7,h6,h7,hfo,hfl,hM,ht,hfu,hks=>by
  have htl:=ZAR (λc=>ZA M c) L
  by_cases hf:found=[]
  ·subst hf
   refine⟨M,Z (.pl (oI k)),Z (.ol []),o6,o7,?_,.done⟩;unfold ZbN;have e:(tV (op2 gGt (Za2 (Zn 5)) (eC (.int 0)))) [Z (.pl w.d),Z (.pl (.dict (Zg (Zp wf L)))),Z (.pl (fnD t cs)),Z (.ot (encM M)),Z (.pl (oI k)),Z (.ol (([]:List (List Int)).map tupI)),o6,o7]=Z ZEO:=by simp
   rw[e];rfl
  ·obtain⟨i,rfl⟩:=hks hf
   have e:(tV (op2 gGt (Za2 (Zn 5)) (eC (.int 0)))) [Z (.pl w.d),Z (.pl (.dict (Zg (Zp wf L)))),Z (.pl (fnD t cs)),Z (.ot (encM M)),Z (.pl (oI (Z i))),Z (.ol (found.map tupI)),o6,o7]=Z ZEN:=by have:0<found.length:=ZDj.mpr hf;simp;omega
   obtain⟨p6,p7,g6,g7,ht1⟩:=Zq2 hnd hlen hys ha (w:=w) (M:=M) (k:=i) (found:=found) h6 h7 hfl (by omega);have hml:(Zai found i M).length<=M.length+found.length:=Zmb i found M;have hlk:∀k,Zj (Zai found i M) k=if k∈found then Z i else Zj M k:=λk=>ZgH i k found M
   have hcnt:(L.filter λc=>ZA M c).length<(L.filter λc=>ZA (Zai found i M) c).length:=by
    refine Zis (λx _ hx=>?_) ?_
    ·unfold ZA at hx ⊢
     rw[hlk];split
     ·rfl
     ·exact hx
    ·obtain⟨c,cs,rfl⟩:=List.exists_cons_of_ne_nil hf
     refine⟨c,(hfo c (ZzB ..)).1,?_,(hfo c (ZzB ..)).2⟩;unfold ZA;rw[hlk,if_pos (ZzB ..)];rfl
   have hol:(ZfA (Zar wf cb L (Zai found i M))).length<=128:=by
    have h1:(ZfA (Zar wf cb L (Zai found i M))).length<=(Zar wf cb L (Zai found i M)).length:=by unfold ZfA;rw[Zzw];exact ZAR ..
    have h2:=Zqw (wf:=wf) (cb:=cb) (L:=L) (M:=Zai found i M);omega
   obtain⟨R,q4,q5,q6,q7,g,J⟩:=ZiV fuel (n+1) (Zai found i M) (ZbO (Zar wf cb L (Zai found i M))) (ZfA (Zar wf cb L (Zai found i M))) p6 p7 g6 g7 (λc hc=>Zn2 hc) hol (by omega) (by omega) (by omega) Zr5;refine⟨R,q4,q5,q6,q7,?_,.step hf J⟩;unfold ZbN;rw[e];dsimp only;show(match Zdd ap [Z (.pl w.d),Z (.pl (.dict (Zg (Zp wf L)))),Z (.pl (fnD t cs)),Z (.ot (encM M)),Z (.pl (dI i)),Z (.ol (found.map tupI)),o6,o7]with | some (.nx r')=>_ | some (.ct r')=>_ | some (.bk r')=>_ | some (.rt d)=>_ | none=>_)=_;rw[ht1];exact g
include hv hcr
theorem Zj4:∃R,Zch ap [w.d,.dict (Zg (Zp wf L)),fnD t cs]=Z (.dict (Zg (encM R)))/\Zje wf cb L [] (Z 0) (L.filter λc=>ZbP w c) R:=by
 have hlb:L.length<1000000:=by omega
 have hfl:(L.filter λc=>ZbP w c).length<=128:=ZAn (ZAR _ _) hlen;obtain⟨R,p4,p5,p6,p7,g,J⟩:=ZiV hnd hlen hys ha (w:=w) 100000 0 [] (Z 0) (L.filter λc=>ZbP w c) Z_ Z_ rfl rfl (λc hc=>⟨(ZAA.mp hc).1,rfl⟩) hfl (by simp) (ZBn _) (by omega) λ_=>⟨0,rfl⟩;refine⟨R,?_,J⟩;have hw:ZaH 1 [Z (.pl w.d),Z (.hd (Zg (Zp wf L))),Z (.pl (fnD t cs)),Z (.ot (encM [])),Z (.pl (dI 0)),Z_,Z_,Z_]=Z (L.map tupI):=by show(ZeP (Zg (Zp wf L))).map _=_;rw[dec_enc,<-Zmg wf L];rfl
 have hgo:∀r:HM.Env,r[0]?=Z (Z (.pl w.d))->Zan (tV (Zk ZbW (Za (Zc 1) (Za (Zc 0) Ze)))) (Zc 0) r (L.map tupI)=Z ((L.filter λc=>ZbP w c).map tupI):=λr r0=>by
  rw[Zcl tupI (λc=>ZbP w c) tupI]
  ·intro c hc
   have:=ZpM (w:=w) (c:=c) (by have:=(hcr c hc).len; have:=hv.m2; omega);simp[r0,this]
  ·intro c _ _
   simp
 have hc:ZF (ZaH 1) (tV (Zk ZbW (Za (Zc 1) (Za (Zc 0) Ze)))) (Zc 0) [Z (.pl w.d),Z (.hd (Zg (Zp wf L))),Z (.pl (fnD t cs)),Z (.ot (encM [])),Z (.pl (dI 0)),Z_,Z_,Z_]=Z (.ol ((L.filter λc=>ZbP w c).map tupI)):=by unfold ZF;rw[hw];dsimp only;rw[if_pos (by rw[Zzw]; exact hlb),hgo _ rfl];rfl
 have hh:Zeu 1 (ZU 5 (ZF (ZaH 1) (tV (Zk ZbW (Za (Zc 1) (Za (Zc 0) Ze)))) (Zc 0))) [Z (.pl w.d),Z (.pl (.dict (Zg (Zp wf L)))),Z (.pl (fnD t cs)),Z (.ot (encM [])),Z (.pl (dI 0)),Z_,Z_,Z_]=Z (.nx [Z (.pl w.d),Z (.pl (.dict (Zg (Zp wf L)))),Z (.pl (fnD t cs)),Z (.ot (encM [])),Z (.pl (dI 0)),Z (.ol ((L.filter λc=>ZbP w c).map tupI)),Z_,Z_]):=by show(match ZU 5 _ [Z (.pl w.d),Z (.hd (Zg (Zp wf L))),Z (.pl (fnD t cs)),Z (.ot (encM [])),Z (.pl (dI 0)),Z_,Z_,Z_]with | some (.nx r')=>_ | some (.rt d)=>_ | _=>Z_)=_;unfold ZU;rw[hc];rfl
 show ZH (ZeX ap [Z (.pl w.d),Z (.pl (.dict (Zg (Zp wf L)))),Z (.pl (fnD t cs)),Z_,Z_,Z_,Z_,Z_])=_;have e:ZeX ap [Z (.pl w.d),Z (.pl (.dict (Zg (Zp wf L)))),Z (.pl (fnD t cs)),Z_,Z_,Z_,Z_,Z_]=Z (.rt (.dict (Zg (encM R)))):=by unfold ZeX;refine ZV (P:=λq=>q=_) (r':=[Z (.pl w.d),Z (.pl (.dict (Zg (Zp wf L)))),Z (.pl (fnD t cs)),Z (.ot (encM [])),Z_,Z_,Z_,Z_]) rfl ?_;refine ZV (P:=λq=>q=_) (r':=[Z (.pl w.d),Z (.pl (.dict (Zg (Zp wf L)))),Z (.pl (fnD t cs)),Z (.ot (encM [])),Z (.pl (dI 0)),Z_,Z_,Z_]) rfl ?_;refine ZV (P:=λq=>q=_) hh ?_;refine ZV (P:=λq=>q=_) g ?_;simp
 rw[e];rfl
end
end HG5
namespace HG5
open PySem HM HG
end HG5
namespace HG5
open PySem HM HG HG4
def Zxx(w:Wk)(ls c:List Int)(d:Int):Wy:=(dI d,ZR w ls (ZbK w c d))
def wfV(w:Wk)(ls:List Int):Wf:=λc=>(doV w c).map (Zxx w ls c)
abbrev Zzr(w:Wk)(ls:List Int)(L:List (List Int)):List (List Ky × D):=Zp (wfV w ls) L
theorem Zzf(w:Wk)(ls c:List Int)(d:Int):wyP (Zxx w ls c d)=Zcz w ls (ZbK w c d):=rfl
abbrev OkC(w:Wk)(c:List Int):Prop:=Cr w.many c/\c≠[]
structure ApD(ap:AP):Prop where
 d0:∀ds,ap 0 [] ds=ZjX ds
 l1:∀cs ds,ap 1 cs ds=ZfP 1 2 (Zk Zbe (Za (Zc 1) (Za (Zc 2) (Za (Zc 0) Ze)))) cs ds
def ZcE(ps:List (List Int))(M:Tb):Option Int:=if ps.all (ZA M)then(ps.filterMap λp=>Zj M p).max? else Z_
def cbD:Cb:=λy M=>(ZcE (wyP y) M).map (·+1)
theorem Zit{α β:Type}{f:α->Option β}:∀{xs:List α},((xs.filterMap f).length=xs.length↔xs.all (λx=>(f x).isSome)=ZEN)
 | []=>by simp
 | x::xs=>by
  have ih:=Zit (f:=f) (xs:=xs);have hl:(xs.filterMap f).length<=xs.length:=ZD3 f xs;rw[ZA1,ZAX];cases h:f x with
  | none=>simp; omega
  | some y=>simpa using ih
theorem Zkq{g:Gs}(hg:g.length<1000)(h0:g≠[]){M:Tb}:ZaZ [.list (g.map Zak),.dict (Zg (encM M))]=Z (oI (ZcE (g.map (·.2)) M)):=by
 have hci:=Zi4 g (by omega);have hlen:((g.map (·.2)).map tupI).length<big:=by rw[Zzw,Zzw]; show _<1000000; omega
 have h1:Zad (bOf (Zk Zac (Za (Zc 0) Ze))) [Z (.pl (.list (g.map Zak))),Z (.pl (.dict (Zg (encM M)))),Z_]=Z ((g.map (·.2)).map tupI):=by unfold Zad bOf;show(match ZBv B.pl (Zac [.list (g.map Zak)])with | some x=>ZfD x | none=>Z_)=_;rw[hci];rfl
 have h2:Zan (tV (ZoP (Zc 0) (Zn 2))) (Z8 (Zn 2) (Zc 0)) [Z (.pl (.list (g.map Zak))),Z (.pl (.dict (Zg (encM M)))),Z_] ((g.map (·.2)).map tupI)=Z (((g.map (·.2)).filterMap λp=>Zj M p).map dI):=by
  rw[Zcl tupI (ZA M) (λp=>dI ((Zj M p).getD 0))]
  ·congr 1
   generalize g.map (·.2)=ps
   induction ps with
   | nil=>rfl
   | cons p ps ih =>
    rw[ZB6,ZA1];unfold ZA at ih ⊢;cases hq:Zj M p with
    | none=>rw[if_neg (by simp)]; exact ih
    | some k=>rw[if_pos (by rfl),ZzG,ZzG,ih,hq]; rfl
  ·intro p _
   have hk:Zbp (tupI p)=Z (Z7 p):=Zbk p;simp[dec_enc,hk,Zdk,ZA]
  ·intro p _ hp
   have hk:Zbp (tupI p)=Z (Z7 p):=Zbk p;unfold ZA at hp;obtain⟨k,hk'⟩:=ZAd.mp hp;have hlk:=Zdk M p;rw[hk']at hlk;simp[dec_enc,hk,hlk,hk']
 have hfl:=Zit (f:=λp=>Zj M p) (xs:=g.map (·.2));rw[Zzw]at hfl;have hall:(g.map (·.2)).all (λx=>(Zj M x).isSome)=(g.map (·.2)).all (ZA M):=rfl;rw[hall]at hfl;generalize hN:(g.map (·.2)).filterMap (λp=>Zj M p)=ns at *;show ZH (ZdO [Z (.pl (.list (g.map Zak))),Z (.pl (.dict (Zg (encM M)))),Z_])=_;unfold ZdO;refine ZV (P:=λq=>ZH q=_) (r':=[Z (.pl (.list (g.map Zak))),Z (.pl (.dict (Zg (encM M)))),Z (.ol (ns.map dI))]) ?_ ?_
 ·unfold ZU ZF
  rw[h1];dsimp only;rw[if_pos hlen,h2];rfl
 ·have h3:op2 gEq (Za2 (Zn 2)) (Za2 (Zn 0)) [Z (.pl (.list (g.map Zak))),Z (.pl (.dict (Zg (encM M)))),Z (.ol (ns.map dI))]=Z (.bool (decide (ns.length=g.length))):=by
   show gEq (.int ((ns.map dI).length:Int)) (.int ((g.map Zak).length:Int))=_;rw[Zzw,Zzw]
   by_cases e:ns.length=g.length
   ·rw[e,ZeR (Zbs 1 _) (by decide)]
    simp
   ·rw[Zgw (Zbs 1 _) (Zbs 1 _) (by decide) (by decide) (λz=>e (by injection z with z; omega))]
    simp[e]
  have h4:Zk6 (Zn 2) [Z (.pl (.list (g.map Zak))),Z (.pl (.dict (Zg (encM M)))),Z (.ol (ns.map dI))]=ns.max?.map λi=>ZAs i:=by show(match ZaX (ns.map dI)with | some ns=>ns.max?.map λi=>ZAs i | none=>Z_)=_;rw[Zgn]
  unfold ZB eIf tV;rw[h3];unfold ZcE;rw[hN]
  by_cases e:ns.length=g.length
  ·rw[if_pos (hfl.mp e),decide_eq_true e]
   show ZH (ZBv Out.rt (Zk6 (Zn 2) _))=_;rw[h4];have hne:ns≠[]:=λz=>by rw[z]at e;exact h0 (ZAv e.symm)
   cases hq:ns.max? with
   | none=>rw[ZEv]at hq; exact absurd hq hne
   | some m=>rfl
  ·rw[if_neg λz=>e (hfl.mpr z),decide_eq_false e]
   rfl
def Zzs(w:Wk)(ls:List Int)(L:List (List Int))(M:Tb):Prop:=∃t,ZyC w ls L t M/\Zyb w ls L M=[]
end HG5
namespace HG5
open PySem HM HG HG4
def Zzt(w:Wk)(ls:List Int)(P:List (List Int))(d:D):Prop:=(∃n:Nat,d=.int n/\(∀p∈P,Win w ls n p=ZEN)/\∀m,m<n->¬∀p∈P,Win w ls m p=ZEN)\/(d=.none/\∀n,¬∀p∈P,Win w ls n p=ZEN)
end HG5
namespace HG6
open PySem HM
open HG
open HG5
def ZgM(ap:AP):SF :=
 (Zu (Zae 3 (Zk (ZaV ap) (Za (Zc 0) (Za (Zc 1) (Za (Zc 2) Ze)))))
  (ZB (eIx (ZF (Zad (bOf (Zc 0))) (tV (op2 gEq (ZcQ ap 3 (Za (Zc 0) (Za (Zc 2) Ze))) (Zc 4))) (Zc 0)) (eC (.int 0)))))
def ZbA(ap:AP):List D->Option D:=fnOf 3 4 (ZgM ap)
def ZbF(ap:AP):SF :=
 (sIf (tV (op2 gEq (Z8 (Zn 1) (Zc 5)) (eC (.int 0)))) (Zg6 4 (Zc 5) (eC (.tuple [.str (Zz1 "done")]))) (Zg6 4 (Zc 5) (Zf5 ap 3 (Za (Zk (ZbA ap) (Za (Z8 (Zn 0) (Zc 5)) (Za (eHd 1) (Za (Zc 2) Ze)))) (Za (ZhY (Zn 4)) Ze)))))
def ZeY(ap:AP):SF :=
 (Zu (ZU 4 fDt)
  (Zu (Zeu 1 (Zbx 5 (ZaH 1) (ZbF ap)))
  (Zhb 4 (ZB (Zc 4)))))
def ZeZ(ap:AP):List D->Option D:=fnOf 4 6 (ZeY ap)
def ZqA:SF :=
 (ZB (Zah (ZbH (Zad (bOf (Zc 0))) ZS (ZC (Za (Zc 0) (Za (Z8 (Zn 3) (Zc 1)) Ze))))))
def Zdq:List D->Option D:=fnOf 2 2 ZqA
end HG6
namespace HG6
open PySem HM HG4
open HG
open HG5
theorem Zf2(M:Tb)(c:List Int):ZA M c=ZEN↔c∈M.map (·.1):=by
 unfold ZA
 induction M with
 | nil=>exact⟨λh=>(by cases h),λh=>(by simp at h)⟩
 | cons p M ih =>
  obtain⟨a,b⟩:=p;rw[Zbj,ZzG,ZzK]
  by_cases h:a=c
  ·rw[if_pos h]
   exact⟨λ_=>.inl h.symm,λ_=>rfl⟩
  ·rw[if_neg h,ih]
   exact⟨.inr,λz=>z.elim (λe=>absurd e.symm h) id⟩
theorem Zve{M:Tb}{c:List Int}{v:Int}(h:c ∉ M.map (·.1)):putD M c v=M++[(c,v)]:=by unfold putD;rw[if_neg];intro z;obtain⟨p,hp,e⟩:=ZC4.mp z;exact h (ZzI.mpr ⟨p,hp,of_decide_eq_true e⟩)
theorem ZoZ(t:Int):∀(ms:List (List Int)) (M:Tb),ms.Nodup->(∀c∈ms,c ∉ M.map (·.1))->ms.foldl (λM c=>putD M c t) M=M++ms.map λc=>(c,t)
 | [],M,_,_=>by simp
 | c::ms,M,hn,h=>by
  obtain⟨n1,n2⟩:=ZAm.mp hn;rw[ZBq,Zve (h c (ZzB ..)),ZoZ t ms _ n2 λx hx z=>?_]
  ·simp
  ·rw[Zz4]at z
   rcases Zz3.mp z with z | z
   ·exact h x (ZzD _ hx) z
   ·have e:x=c:=by simpa using z
    exact n1 (e▸hx)
end HG6
namespace HG6
open PySem HM HG4
open HG
open HG5
def ZW(f:List Int->D)(C:List (List Int)):List (List Ky × D):=C.map λc=>(Z7 c,f c)
theorem Zl9(f:List Int->D)(C:List (List Int))(k:List Int):Zj (ZW f C) (Z7 k)=if k∈C then Z (f k)else Z_:=by
 unfold Zj ZW
 induction C with
 | nil=>rfl
 | cons c C ih =>
  rw[ZzG,ZAF]
  by_cases h:c=k
  ·subst h
   rw[if_pos (ZzB ..)];simp
  ·have h':decide ((Z7 c,f c).1=Z7 k)=ZEO:=decide_eq_false λe=>h (ZdR e)
   rw[h'];dsimp only;rw[ih]
   by_cases q:k∈C
   ·rw[if_pos q,if_pos (ZzD _ q)]
   ·rw[if_neg q,if_neg λz=>by
     rcases ZzK.mp z with e | e
     ·exact h e.symm
     ·exact q e]
theorem Zta{f:List Int->D}{C:List (List Int)}{k:List Int}(h:k ∉ C):putD (ZW f C) (Z7 k) (f k)=ZW f (C++[k]):=by
 unfold putD;rw[if_neg]
 ·unfold ZW
  rw[Zz4];rfl
 ·intro z
  obtain⟨p,hp,e⟩:=ZC4.mp z;unfold ZW at hp;obtain⟨c,hc,rfl⟩:=ZzI.mp hp;have e:=ZdR (of_decide_eq_true e);subst e;exact h hc
abbrev Zfb:D:=.tuple [.str (Zz1 "done")]
abbrev doS:D:=.str (Zz1 "do")
def Zc6(S:List Int->D)(g:Gs):D:=.tuple (g.map λp=>.tuple [tupI p.1,S p.2])
theorem Zlg:∀(n m:Nat) (d:D),n<=m->Ze6 n d=ZEN->Ze6 m d=ZEN:=by
 intro n
 induction n with
 | zero=>intro m d h q;cases d<;>first | (cases q; done) | (cases m<;>rfl)
 | succ n ih =>
  intro m d h q;obtain⟨m,rfl⟩:∃k,m=k+1:=⟨m-1,by omega⟩;cases d with
  | tuple ds=>exact ZzR.mpr λx hx=>ih m x (by omega) (ZzR.mp (show ds.all (Ze6 n)=ZEN from q) x hx)
  | none=>rfl
  | bool _=>rfl
  | int _=>rfl
  | str _=>rfl
  | _=>cases q
end HG6
namespace HG6
open PySem HM HG4
open HG
open HG5
variable{c:List Int}{M:Tb}
theorem Zvi{k:Int}(h:Zj M c=Z k):(c,k)∈M:=by
 unfold Zj at h;obtain⟨x,hx,e⟩:=Zzy.mp h;have h1:=ZDO hx;have h2:x.1=c:=by simpa using List.find?_some hx
 have:x=(c,k):=by rw[<-h2,<-e]
 rw[<-this];exact h1
theorem ZuR(nd:(M.map (·.1)).Nodup){k:Int}(h:(c,k)∈M):Zj M c=Z k:=by
 induction M with
 | nil=>simp at h
 | cons p M ih =>
  obtain⟨a,b⟩:=p;rw[ZzG]at nd;obtain⟨n1,n2⟩:=ZAm.mp nd;rw[Zbj];rcases ZzK.mp h with e | h
  ·injection e with e1 e2
   rw[if_pos e1.symm,e2]
  ·rw[if_neg λe=>n1 (by rw[show(a,b).1=c from e]; exact ZzI.mpr ⟨_,h,rfl⟩)]
   exact ih n2 h
theorem Zp1(nd:(M.map (·.1)).Nodup)(up:(M.map (·.2)).Pairwise (·<=·)){pre post:List (List Int)}{p:List Int}{k j:Int}(e:M.map (·.1)=pre++c::post)(hk:Zj M c=Z k)(hj:Zj M p=Z j)(hjk:j<k):p∈pre:=by
 obtain⟨A,B,rfl,eA,eB⟩:=List.map_eq_append_iff.mp e;obtain⟨x,B',rfl,ex,eB'⟩:=List.map_eq_cons_iff.mp eB;have hx:Zj (A++x::B') c=Z x.2:=ZuR nd (by rw[<-ex]; exact ZzX _ (ZzB ..));rw[hk]at hx;cases hx;rcases Zz3.mp (Zvi hj)with h | h
 ·rw[<-eA]
  exact ZzI.mpr ⟨_,h,rfl⟩
 ·rcases ZzK.mp h with h | h
  ·rw[<-h]at hjk
   exact absurd hjk (Int.lt_irrefl _)
  ·rw[Zz4,ZDd]at up
   have h2:=(ZAo.mp (show(x.2::B'.map (·.2)).Pairwise (·<=·) from up.2.1)).1 j (ZzI.mpr ⟨_,h,rfl⟩);omega
theorem Zq3{S:List Int->D}{P:List (List Int)}{g:Gs}(hg:g.length<1000000)(h:∀p∈g.map (·.2),p∈P):Zdq [.list (g.map Zak),.dict (Zg (ZW S P))]=Z (Zc6 S g):=by
 have e:=Zfk (c:=ZS) (e:=ZC (Za (Zc 0) (Za (Z8 (Zn 3) (Zc 1)) Ze))) (r:=[Z (.pl (.list (g.map Zak))),Z (.pl (.dict (Zg (ZW S P))))]) (λp:List Int × List Int=>tupI p.1) (λp=>tupI p.2) (λ_=>ZEN) (λp=>Zz7 [tupI p.1,S p.2]) g (λ_ _=>rfl) (λp hp _=>by have hk:Zbp (tupI p.2)=Z (Z7 p.2):=Zbk p.2;have hlk:=Zl9 S P p.2;rw[if_pos (h p.2 (ZzI.mpr ⟨p,hp,rfl⟩))]at hlk;simp[dec_enc,hk,hlk]);rw[ZBh.mpr λ_ _=>rfl]at e;have hi:Zad (bOf (Zc 0)) [Z (.pl (.list (g.map Zak))),Z (.pl (.dict (Zg (ZW S P))))]=Z (g.map Zak):=rfl;show ZH (ZB (Zah (ZbH (Zad (bOf (Zc 0))) ZS (ZC (Za (Zc 0) (Za (Z8 (Zn 3) (Zc 1)) Ze))))) [Z (.pl (.list (g.map Zak))),Z (.pl (.dict (Zg (ZW S P))))])=_;have hf:ZbH (Zad (bOf (Zc 0))) ZS (ZC (Za (Zc 0) (Za (Z8 (Zn 3) (Zc 1)) Ze))) [Z (.pl (.list (g.map Zak))),Z (.pl (.dict (Zg (ZW S P))))]=Z (.ol (g.map λp=>Zz7 [tupI p.1,S p.2])):=by unfold ZbH;rw[hi];dsimp only;rw[if_pos (show(g.map Zak).length<big by rw[Zzw]; exact hg)];refine(congrArg (ZBv _) e).trans ?_;rfl
 unfold ZB Zah;rw[hf];rfl
theorem ZpN{ap:AP}{t:Nat}{cs:List D}{cb:Cb}{ys:List Wy}(hy:ys.length<1000)(ha:∀y∈ys,ap t cs [wyD y,.dict (Zg (encM M))]=Z (oI (cb y M))){k:Int}(hk:ZaN cb ys M=Z k){y:Wy}(hf:ys.find? (λy=>cb y M==Z k)=Z y) :
  ZbA ap [.list (ys.map wyD),.dict (Zg (encM M)),fnD t cs]=Z (wyD y):=by
 have h1:=Zir (t:=t) (cs:=cs) hy ha;rw[hk]at h1;have hb:ys.length<big:=by show _<1000000; omega
 show ZH (ZgM ap [Z (.pl (.list (ys.map wyD))),Z (.pl (.dict (Zg (encM M)))),Z (.pl (fnD t cs)),Z_])=_;unfold ZgM;refine ZV (P:=λq=>ZH q=_) (r':=[Z (.pl (.list (ys.map wyD))),Z (.pl (.dict (Zg (encM M)))),Z (.pl (fnD t cs)),Z (.pl (.int k))]) ?_ ?_
 ·have:Zk (ZaV ap) (Za (Zc 0) (Za (Zc 1) (Za (Zc 2) Ze))) [Z (.pl (.list (ys.map wyD))),Z (.pl (.dict (Zg (encM M)))),Z (.pl (fnD t cs)),Z_]=Z (.int k):=h1
  unfold Zae;rw[this];rfl
 ·have e1:Zan (tV (op2 gEq (ZcQ ap 3 (Za (Zc 0) (Za (Zc 2) Ze))) (Zc 4))) (Zc 0) [Z (.pl (.list (ys.map wyD))),Z (.pl (.dict (Zg (encM M)))),Z (.pl (fnD t cs)),Z (.pl (.int k))] (ys.map wyD)=Z ((ys.filter λy=>cb y M==Z k).map wyD):=by
   rw[Zcl wyD (λy=>cb y M==Z k) wyD]
   ·intro y h
    have hc:ZcQ ap 3 (Za (Zc 0) (Za (Zc 2) Ze)) (Z (.pl (wyD y))::[Z (.pl (.list (ys.map wyD))),Z (.pl (.dict (Zg (encM M)))),Z (.pl (fnD t cs)),Z (.pl (.int k))])=Z (oI (cb y M)):=by show(match Zh5 (fnD t cs)with | some (t,cs)=>_ | none=>Z_)=_;rw[Zjv];exact ha y h
    unfold tV op2;rw[hc];show(match gEq (oI (cb y M)) (.int k)with | some (.bool b)=>Z b | _=>Z_)=_;cases hq:cb y M with
    | none=>rfl
    | some m =>
     show(match gEq (.int m) (.int k)with | some (.bool b)=>Z b | _=>Z_)=_
     by_cases e:m=k
     ·subst e
      rw[ZeR (Zbs 1 _) (by decide)];simp
     ·rw[Zgw (Zbs 1 _) (Zbs 1 _) (by decide) (by decide) (λz=>e (by injection z))]
      simp[e]
   ·intro y _ _
    rfl
  have e2:ZF (Zad (bOf (Zc 0))) (tV (op2 gEq (ZcQ ap 3 (Za (Zc 0) (Za (Zc 2) Ze))) (Zc 4))) (Zc 0) [Z (.pl (.list (ys.map wyD))),Z (.pl (.dict (Zg (encM M)))),Z (.pl (fnD t cs)),Z (.pl (.int k))]=Z (.ol ((ys.filter λy=>cb y M==Z k).map wyD)):=by unfold ZF;show(if(ys.map wyD).length<big then _ else Z_)=_;rw[if_pos (by rw[Zzw]; exact hb),e1];rfl
  rw[List.find?_eq_some_iff_append]at hf;obtain⟨hyk,as,bs,rfl,hno⟩:=hf;have hfl:((as++y::bs).filter λy=>cb y M==Z k)=y::bs.filter λy=>cb y M==Z k:=by rw[List.filter_append,ZEm.mpr (λx hx=>by have:=hno x hx; simpa using this),ZBr,ZB6,if_pos hyk]
  rw[hfl]at e2;have e3:eIx (ZF (Zad (bOf (Zc 0))) (tV (op2 gEq (ZcQ ap 3 (Za (Zc 0) (Za (Zc 2) Ze))) (Zc 4))) (Zc 0)) (eC (.int 0)) [Z (.pl (.list ((as++y::bs).map wyD))),Z (.pl (.dict (Zg (encM M)))),Z (.pl (fnD t cs)),Z (.pl (.int k))]=Z (wyD y):=by unfold eIx;rw[e2];exact Zdv (ds:=wyD y::(bs.filter λy=>cb y M==Z k).map wyD) (j:=0) rfl
  unfold ZB;rw[e3];rfl
end HG6
namespace HG23
open PySem HM
open HG
open HG4
open HG5
def Zcc:SF :=
 (ZB (Zha (Zk Z6 (Za (Zc 0) (Za (Zc 1) (Za (Zc 1) Ze)))) (Zh0 (ZF (Zad (bOf (Zc 0))) ZS (Zk Zab (Za (Zc 0) (Za (eC (.int 1)) (Za (eC (.int 20)) Ze))))))))
def ZE:List D->Option D:=fnOf 2 2 Zcc
def Zdz:SF :=
 (Zu (sIf (ZcZ (tV (Zk Z6 (Za (Zc 1) (Za (eC (.int 2)) (Za (eC (.int 2)) Ze)))))) Zi6 ZaY)
  (Zu (sIf (tOr (ZcZ (tV (Zk ZE (Za (eIx (Zn 1) (eC (.int 0))) (Za (Za2 (bOf (Zk Zaz (Za (Zc 0) Ze)))) Ze))))) (ZcZ (tV (Zk ZE (Za (eIx (Zn 1) (eC (.int 1))) (Za (Za2 (bOf (Zk Zby (Za (Zc 0) Ze)))) Ze)))))) Zi6 ZaY)
  (ZB (Zc 1))))
def Zbl:List D->Option D:=fnOf 2 2 Zdz
def Zeh:SF :=
 (ZB (eOf (ZbH (Zad (bOf (Zk Zbe (Za (Zc 0) (Za (ZC Ze) (Za (Zc 2) Ze)))))) ZS (ZC (Za (ZC (Za (eC (.str (Zz1 "do"))) (Za (Zc 0) (Za (eIx (bOf (eIx (Zn 3) (eC (.int 0)))) (Zc 0)) Ze)))) (Za (Zc 1) Ze))))))
def Zc1:List D->Option D:=fnOf 3 3 Zeh
def Zei:SF :=
 (Zu (ZU 3 (ZbH (Zm4 (eIx (Zn 1) (eC (.int 1)))) ZS (ZC (Za (ZC (Za (eC (.str (Zz1 "look"))) (Za (Zc 0) (Za (Zc 1) Ze)))) (Za (Zk ZbE (Za (Zc 2) (Za (ZC (Za (Zc 0) Ze)) (Za (Zc 4) Ze)))) Ze)))))
  (Zhb 3 (ZB (eOf (ZF (Zad (bOf (Zc 3))) (tV (op2 gGt (Za2 (bOf (eIx (Zn 0) (eC (.int 1))))) (eC (.int 1)))) (Zc 0))))))
def Zc2:List D->Option D:=fnOf 3 4 Zei
def Zhm:SF :=
 (ZB (eOf (ZqT (bOf (Zk Zc1 (Za (Zc 0) (Za (Zc 1) (Za (Zc 2) Ze))))) (bOf (Zk Zc2 (Za (Zc 0) (Za (Zc 1) (Za (Zc 2) Ze))))))))
def Zam:List D->Option D:=fnOf 3 3 Zhm
def ZgN:SF :=
 (Zu (Zae 2 (Zk ZaZ (Za (eIx (Zn 0) (eC (.int 1))) (Za (Zc 1) Ze))))
  (ZB (eIf (tV (op2 Zq4 (Zc 2) (eC .none))) (eC .none) (op2 ZbI (Zc 2) (eIx (bOf (eIx (Zn 0) (eC (.int 0)))) (eC (.int 2)))))))
def ZcT:List D->Option D:=fnOf 2 3 ZgN
def Zde(ap:AP):SF :=
 (ZB (Zic (Zcb ap) 6 [0,1] (eOf (ZbV (Za (Zk Zbz (Za (Zc 0) Ze)) Ze)))))
def Zap(ap:AP):List D->Option D:=fnOf 2 2 (Zde ap)
def ZgO(ap:AP):SF :=
 (Zu (ZhX (Zk Zbc (Za (Zc 0) Ze)))
  (Zu (ZhX (Zk Zbl (Za (Zc 0) (Za (Zc 1) Ze))))
  (Zu (Zae 2 (Zk (Zch ap) (Za (Zc 0) (Za (Zk (Zap ap) (Za (Zc 0) (Za (Zc 1) Ze))) (Za (eC (fnD 5 [])) Ze)))))
  (ZB (ZiX (Zn 2) (Zk Zbz (Za (Zc 0) Ze)))))))
def ZdF(ap:AP):List D->Option D:=fnOf 2 3 (ZgO ap)
end HG23
namespace HG23
open PySem HM
open HG
open HG4
open HG5
variable{cb:Cb}{L ps:List (List Int)}{c:List Int}{ys:List Wy}{n:Nat}{M R:Tb}{wf:Wf}{w:Wk}{y:Wy}
def prY(y:Wy):Int:=match y.1 with
 | .tuple [_,_,.int k]=>k
 | _=>1
def cbP:Cb:=λy M=>(ZcE (wyP y) M).map (·+prY y)
inductive Buy(w:Wk)(wf:Wf):Nat->List Int->Prop where
 | there {n:Nat} {c:List Int} (h:ZbP w c=ZEN):Buy w wf n c
 | way {n k:Nat} {c:List Int} {y:Wy} (hy:y∈wf c) (hk:prY y=(k:Int)) (h1:1<=k) (hp:∀p∈wyP y,Buy w wf n p):Buy w wf (n+k) c
theorem Buy.le(h:Buy w wf n c):∀{m:Nat},n<=m->Buy w wf m c:=by
 induction h with
 | there h=>intro m _; exact .there h
 | @way n k c y hy hk h1 _ ih =>
  intro m hm;have:=Buy.way (n:=m-k) hy hk h1 λp hp=>ih p hp (m:=m-k) (by omega)
  rwa [show m-k+k=m by omega]at this
def ZgG(w:Wk)(wf:Wf)(c:List Int)(n:Nat):Prop:=Buy w wf n c/\∀m,m<n->¬Buy w wf m c
theorem ZgG.min{m:Nat}(h1:ZgG w wf c n)(h:Buy w wf m c):n<=m:=by apply ZB2;intro q;exact h1.2 m q h
def ZjE(wf:Wf)(L:List (List Int)):Prop:=∀c∈L,∀y∈wf c,∀p∈wyP y,p∈L
structure Gd(wf:Wf)(L:List (List Int)):Prop where
 cl:ZjE wf L
 ne:∀c∈L,∀y∈wf c,wyP y≠[]
 pr:∀c∈L,∀y∈wf c,∃k:Nat,prY y=(k:Int)/\1<=k
structure Zre(w:Wk)(wf:Wf)(L:List (List Int))(M:Tb):Prop where
 ok:∀c k,Zj M c=Z k->c∈L/\∃n:Nat,k=(n:Int)/\ZgG w wf c n
 th:∀c∈L,ZbP w c=ZEN->ZA M c=ZEN
theorem Zkp{n:Int}(h0:ps≠[])(h:∀p∈ps,∃k,Zj M p=Z k/\k<=n):∃k,ZcE ps M=Z k/\k<=n:=by
 unfold ZcE;have hall:ps.all (ZA M)=ZEN:=ZzR.mpr λp hp=>by obtain⟨k,hk,_⟩:=h p hp;unfold ZA;rw[hk];rfl
 rw[if_pos hall];cases hm:(ps.filterMap λp=>Zj M p).max? with
 | none=>rw[ZEv]at hm;obtain⟨p,hp⟩:=ZCz _ h0;obtain⟨k,hk,_⟩:=h p hp;have:k∈ps.filterMap λp=>Zj M p:=ZAu.mpr ⟨p,hp,hk⟩;rw[hm]at this;simp at this
 | some k=>refine⟨k,rfl,?_⟩;have hk:=List.max?_mem hm;obtain⟨p,hp,e⟩:=ZAu.mp hk;obtain⟨k',hk',hle⟩:=h p hp;rw[e]at hk';cases hk';exact hle
theorem Zku{k:Int}(h:ZcE ps M=Z k):(∃p∈ps,Zj M p=Z k)/\∀p∈ps,∃v,Zj M p=Z v/\v<=k:=by
 unfold ZcE at h;split at h
 ·rename_i hall
  have hk:=List.max?_mem h;obtain⟨p,hp,e⟩:=ZAu.mp hk;refine⟨⟨p,hp,e⟩,λq hq=>?_⟩;have:=ZzR.mp hall q hq;unfold ZA at this;obtain⟨v,hv⟩:=ZAd.mp this;refine⟨v,hv,?_⟩;have:=(ZEt.mp h).2;exact this v (ZAu.mpr ⟨q,hq,hv⟩)
 ·cases h
section
variable{w:Wk}{wf:Wf}{L:List (List Int)}(G:Gd wf L){M:Tb}(T:Zre w wf L M)
include T
theorem ZoK{k:Int}(hc:c∈L)(hy:y∈wf c)(G:Gd wf L)(h:cbP y M=Z k):∃n:Nat,k=(n:Int)/\Buy w wf n c:=by unfold cbP at h;obtain⟨v,hv,rfl⟩:=Zzy.mp h;obtain⟨⟨p,hp,ep⟩,hall⟩:=Zku hv;obtain⟨q,hq,h1⟩:=G.pr c hc y hy;obtain⟨_,n,rfl,_⟩:=T.ok p v ep;refine⟨n+q,by rw[hq]; omega,.way hy hq h1 λp' hp'=>?_⟩;obtain⟨v',hv',hle⟩:=hall p' hp';obtain⟨_,n',rfl,hl⟩:=T.ok p' v' hv';exact hl.1.le (by omega)
include G
theorem Zwh{x:List Int}(h:Buy w wf n x):x∈L->ZA M x=ZEO->∃x'∈L,ZA M x'=ZEO/\∃y∈wf x',∃k,cbP y M=Z k/\k<=(n:Int):=by
 induction h with
 | there h=>intro hx hn; rw[T.th _ hx h]at hn; cases hn
 | @way n k c y hy hk h1 hp ih =>
  intro hx hn
  by_cases hall:∀p∈wyP y,ZA M p=ZEN
  ·refine⟨c,hx,hn,y,hy,?_⟩
   obtain⟨v,hv,hle⟩:=Zkp (M:=M) (n:=(n:Int)) (G.ne c hx y hy) λp hp'=>by have:=hall p hp';unfold ZA at this;obtain⟨v,hv⟩:=ZAd.mp this;obtain⟨_,m,rfl,hl⟩:=T.ok p v hv;have:=hl.min (hp p hp');exact⟨_,hv,by omega⟩
   refine⟨v+prY y,by unfold cbP; rw[hv]; rfl,by rw[hk]; omega⟩
  ·obtain⟨p,hp',hn'⟩:∃p∈wyP y,ZA M p=ZEO:=by
    apply Classical.byContradiction;intro z;refine hall λp hp'=>?_;cases q:ZA M p with
    | true=>rfl
    | false=>exact absurd ⟨p,hp',q⟩ z
   obtain⟨x',hx',hn'',y',hy',k',hk',hle⟩:=ih p hp' (G.cl c hx y hy p hp') hn';exact⟨x',hx',hn'',y',hy',k',hk',by omega⟩
theorem Zq5{k:Int}(hc:c∈L)(hn:ZA M c=ZEO)(hy:y∈wf c)(h:cbP y M=Z k)(hmin:∀x∈L,ZA M x=ZEO->∀y∈wf x,∀v,cbP y M=Z v->k<=v):∃n:Nat,k=(n:Int)/\ZgG w wf c n:=by obtain⟨n,rfl,hb⟩:=ZoK T hc hy G h;refine⟨n,rfl,hb,λm hm hb'=>?_⟩;obtain⟨x,hx,hn',y',hy',v,hv,hle⟩:=Zwh G T hb' hc hn;have:=hmin x hx hn' y' hy' v hv;omega
theorem ZvH(hno:∀x∈L,ZA M x=ZEO->∀y∈wf x,cbP y M=Z_)(hc:c∈L)(hb:Buy w wf n c):ZA M c=ZEN:=by
 cases hn:ZA M c with
 | true=>rfl
 | false=>obtain⟨x,hx,hn',y,hy,v,hv,_⟩:=Zwh G T hb hc hn;rw[hno x hx hn' y hy]at hv;cases hv
end
structure Zkj(w:Wk)(wf:Wf)(L:List (List Int))(M:Tb):Prop where
 tab:Zre w wf L M
 all:∀c∈L,∀n,Buy w wf n c->ZA M c=ZEN
theorem Zkj.at_(F:Zkj w wf L M)(hc:c∈L):(∃n:Nat,Zj M c=Z (n:Int)/\ZgG w wf c n)\/(Zj M c=Z_/\∀n,¬Buy w wf n c):=by
 cases hq:Zj M c with
 | some k=>obtain⟨_,n,rfl,h⟩:=F.tab.ok c k hq;exact .inl ⟨n,rfl,h⟩
 | none=>refine .inr ⟨rfl,λn hb=>?_⟩;have:=F.all c hc n hb;unfold ZA at this;rw[hq]at this;cases this
theorem ZfU{k:Int}(h:ZaN cb ys M=Z k):(∃y∈ys,cb y M=Z k)/\∀y∈ys,∀v,cb y M=Z v->k<=v:=by unfold ZaN at h;have h1:=ZEz h;obtain⟨y,hy,e⟩:=ZAu.mp h1;refine⟨⟨y,hy,e⟩,λy' hy' v hv=>?_⟩;exact(ZC6.mp h).2 v (ZAu.mpr ⟨y',hy',hv⟩)
theorem Zle(h:ZaN cb ys M=Z_):∀y∈ys,cb y M=Z_:=λy hy=>by unfold ZaN at h;rw[ZCm,List.filterMap_eq_nil_iff]at h;exact h y hy
theorem ZpW{k:Int}(h:ZbO (Zar wf cb L M)=Z k):∀x∈L,ZA M x=ZEO->∀y∈wf x,∀v,cb y M=Z v->k<=v:=λx hx hn y hy v hv=>by
 unfold ZbO at h;have h2:=(ZC6.mp h).2;cases hl:ZaN cb (wf x) M with
 | none=>rw[Zle hl y hy]at hv; cases hv
 | some u=>have:=h2 u (ZzI.mpr ⟨(x,u),Zhp.mpr ⟨hx,hn,hl⟩,rfl⟩);have:=(ZfU hl).2 y hy v hv;omega
theorem Ztu(G:Gd wf L){k:Option Int}{found:List (List Int)}(r:Zje wf cbP L M k found R) :
  (∀c v,Zj M c=Z v->c∈L/\∃n:Nat,v=(n:Int)/\ZgG w wf c n)->(∀c∈L,ZbP w c=ZEN->ZA M c=ZEN\/c∈found)->(∀c∈found,c∈L/\∃n:Nat,k=Z (n:Int)/\ZgG w wf c n)->(found=[]->∀x∈L,ZA M x=ZEO->∀y∈wf x,cbP y M=Z_)->Zkj w wf L R:=by
 induction r with
 | done=>intro h1 h2 _ h4;have T:Zre w wf L _:=⟨h1,λc hc ht=>(h2 c hc ht).elim id λz=>by simp at z⟩;exact⟨T,λc hc n hb=>ZvH G T (h4 rfl) hc hb⟩
 | @step M R k found hf _ ih =>
  intro h1 h2 h3 _;have hlk:∀c,Zj (Zai found k M) c=if c∈found then Z k else Zj M c:=λc=>ZgH k c found M
  have T:Zre w wf L (Zai found k M):=by
   refine⟨λc v hv=>?_,λc hc ht=>?_⟩
   ·rw[hlk]at hv
    split at hv
    ·rename_i hm
     obtain⟨hc,n,e,hl⟩:=h3 c hm;cases hv;exact⟨hc,n,ZAl e,hl⟩
    ·exact h1 c v hv
   ·unfold ZA
    rw[hlk];split
    ·rfl
    ·rename_i hm
     exact(h2 c hc ht).elim (λz=>z) λz=>absurd z hm
  refine ih T.ok (λc hc ht=>.inl (T.th c hc ht)) (λc hc=>?_) λhe x hx hn y hy=>?_
  ·obtain⟨⟨c',v⟩,h5,rfl⟩:=ZzI.mp hc
   obtain⟨h6,h7⟩:=ZAA.mp h5;obtain⟨hcL,hn,hl⟩:=Zhp.mp h6;have h7:=beq_iff_eq.mp h7;obtain⟨⟨y,hy,hcb⟩,_⟩:=ZfU hl;obtain⟨n,rfl,hL⟩:=Zq5 G T hcL hn hy hcb (ZpW h7.symm);exact⟨hcL,n,h7.symm,hL⟩
  ·cases hl:ZaN cbP (wf x) (Zai found k M)with
   | none=>exact Zle hl y hy
   | some u =>
    have hm:(x,u)∈Zar wf cbP L (Zai found k M):=Zhp.mpr ⟨hx,hn,hl⟩;cases ho:ZbO (Zar wf cbP L (Zai found k M))with
    | none=>unfold ZbO at ho;rw[ZCm]at ho;rw[List.map_eq_nil_iff.mp ho]at hm;simp at hm
    | some v=>have hv:=ho;unfold ZbO at ho;obtain⟨q,hq,e⟩:=ZzI.mp (ZEz ho);have:q.1∈ZfA (Zar wf cbP L (Zai found k M)):=ZzI.mpr ⟨q,ZAA.mpr ⟨hq,by rw[hv,e]; exact beq_self_eq_true _⟩,rfl⟩;rw[he]at this;simp at this
theorem Zmd(G:Gd wf L)(r:Zje wf cbP L [] (Z 0) (L.filter λc=>ZbP w c) R):Zkj w wf L R:=by
 refine Ztu G r (λc v hv=>by cases hv) (λc hc ht=>.inr (ZAA.mpr ⟨hc,ht⟩)) (λc hc=>?_) λ_ x hx _ y hy=>?_
 ·obtain⟨h1,h2⟩:=ZAA.mp hc
  exact⟨h1,0,rfl,.there h2,λm hm=>by omega⟩
 ·unfold cbP ZcE
  rw[if_neg]
  ·rfl
  ·intro h
   obtain⟨p,hp⟩:=ZCz _ (G.ne x hx y hy);have:=ZzR.mp h p hp;cases this
end HG23
namespace HG23
open PySem HM
open HG
open HG4
open HG5
variable{l:Int}{c xs:List Int}
theorem Zt5{I:IF}{c:TF}{e:EF}{r:HM.Env}{ds ys:List D}(hI:I r=Z ds)(hl:ds.length<1000000)(hg:Zan c e r ds=Z ys):ZF I c e r=Z (.ol ys):=by unfold ZF;rw[hI];dsimp only;rw[if_pos (show ds.length<big from hl),hg];rfl
structure Pr where
 ds:List Int
 ls:List Int
def Pr.d(p:Pr):D:=.tuple [tupI p.ds,tupI p.ls]
structure Pr.V(p:Pr)(w:Wk):Prop where
 dl:p.ds.length=w.deeds.length
 ll:p.ls.length=w.looks.length
 db:∀x∈p.ds,1<=x/\x<=20
 lb:∀x∈p.ls,1<=x/\x<=20
def dP(p:Pr)(d:Int):Int:=p.ds[d.toNat]?.getD 1
def lP(p:Pr)(l:Int):Int:=p.ls[l.toNat]?.getD 1
theorem Zn5{i:Int}(h0:0<=i)(h1:i<xs.length):atD (xs.map dI) i=Z (.int (xs[i.toNat]?.getD 1))/\(xs[i.toNat]?.getD 1)∈xs:=by
 have e:((i.toNat:Nat):Int)=i:=Int.toNat_of_nonneg h0;have hn:i.toNat<xs.length:=by omega
 have:=Zdv (ds:=xs.map dI) (j:=i.toNat) (d:=.int xs[i.toNat]) (by simp[hn]);rw[e]at this;rw[this,ZzT hn];exact⟨rfl,ZAW hn⟩
def doY(w:Wk)(p:Pr)(c:List Int)(d:Int):Wy:=(.tuple [.str (Zz1 "do"),.int d,.int (dP p d)],ZR w [] (ZbK w c d))
def ZaP(w:Wk)(p:Pr)(c:List Int)(l:Int):Wy:=(.tuple [.str (Zz1 "look"),.int l,.int (lP p l)],ZR w [l] c)
def wfB(w:Wk)(p:Pr):Wf:=λc=>(doV w c).map (doY w p c)++((alV w).map (ZaP w p c)).filter λy=>decide (1<y.2.length)
theorem Zwx(w:Wk)(p:Pr)(c:List Int)(d:Int):prY (doY w p c d)=dP p d:=rfl
theorem Zti(w:Wk)(p:Pr)(c:List Int)(l:Int):prY (ZaP w p c l)=lP p l:=rfl
theorem Zwc(n:Nat):Cr n []:=⟨.nil,λx hx=>by simp at hx⟩
theorem Zwp{n:Nat}(h0:0<=l)(h1:l<n):Cr n [l]:=⟨List.pairwise_singleton ..,λx hx=>by rw[ZzF.mp hx]; exact⟨h0,h1⟩⟩
theorem Zwr{w:Wk}(h:l∈alV w):0<=l/\l<(w.looks.length:Int):=(Zli w).2 l h
section
variable{w:Wk}(hv:Wk.V w){p:Pr}(hp:p.V w)
include hp
theorem Zy5{d:Int}(h0:0<=d)(h1:d<w.deeds.length):1<=dP p d/\dP p d<=20:=hp.db _ (Zn5 h0 (by rw[hp.dl]; exact h1)).2
theorem ZyI(h0:0<=l)(h1:l<w.looks.length):1<=lP p l/\lP p l<=20:=hp.lb _ (Zn5 h0 (by rw[hp.ll]; exact h1)).2
theorem Zfo(h:∀x∈xs,1<=x/\x<=20)(hl:xs.length<1000):ZE [tupI xs,.int xs.length]=Z (.bool ZEN):=by
 have h1:=Zbn (tupI xs) xs.length xs.length;have hr:ZbT (tupI xs) xs.length xs.length=ZEN:=by show(decide ((xs.length:Int)<=((xs.map dI).length:Int))&&decide (((xs.map dI).length:Int)<=(xs.length:Int)))=ZEN;rw[Zzw];simp
 rw[hr]at h1;have hb:xs.length<1000000:=by omega
 have hc:Zan ZS (Zk Zab (Za (Zc 0) (Za (eC (.int 1)) (Za (eC (.int 20)) Ze)))) [Z (.pl (tupI xs)),Z (.pl (.int xs.length))] (xs.map dI)=Z (xs.map λ_=>.bool ZEN):=by rw[Zbg dI (λ_=>.bool ZEN)];intro x hx;have:=Zdi (.int x) 1 20;have hb:=h x hx;rw[show Zcj (.int x) 1 20=ZEN by show(decide (1<=x)&&decide (x<=20))=ZEN; rw[decide_eq_true hb.1,decide_eq_true hb.2]; rfl]at this;exact this
 have hbs:ZdG (xs.map λ_=>ZAK ZEN)=Z (xs.map λ_=>ZEN):=by
  have:=ZeB (xs.map λ_=>ZEN)
  rwa [ZzV]at this
 have ha:(xs.map λ_=>ZEN).all id=ZEN:=by simp
 simp[ZE,Zcc,h1,hb,hc,hbs,ha]
include hv
theorem ZfH:Zbl [w.d,p.d]=Z p.d:=by
 have h1:=Zbn p.d 2 2;have hr:ZbT p.d 2 2=ZEN:=rfl;rw[hr]at h1;have h2:=Zfo hp hp.db (by rw[hp.dl]; have:=hv.d2; omega);have h3:=Zfo hp hp.lb (by rw[hp.ll]; have:=hv.l2; omega);rw[hp.dl]at h2;rw[hp.ll]at h3;have e0:∀r:HM.Env,r[1]?=Z (Z (.pl p.d))->eIx (Zn 1) (eC (.int 0)) r=Z (tupI p.ds):=λr h=>by simp[h,Pr.d]
 have e1:∀r:HM.Env,r[1]?=Z (Z (.pl p.d))->eIx (Zn 1) (eC (.int 1)) r=Z (tupI p.ls):=λr h=>by simp[h,Pr.d]
 show ZH (Zdz [Z (.pl w.d),Z (.pl p.d)])=_;unfold Zdz;refine ZV (P:=λq=>ZH q=_) (r':=[Z (.pl w.d),Z (.pl p.d)]) (by simp[h1]) ?_;refine ZV (P:=λq=>ZH q=_) (r':=[Z (.pl w.d),Z (.pl p.d)]) ?_ rfl;have a0:=e0 [Z (.pl w.d),Z (.pl p.d)] rfl;have a1:=e1 [Z (.pl w.d),Z (.pl p.d)] rfl;generalize eIx (Zn 1) (eC (.int 0))=E0 at a0 ⊢;generalize eIx (Zn 1) (eC (.int 1))=E1 at a1 ⊢;simp[a0,a1,Zci,ZdH,h2,h3]
theorem Zlt(hc:Cr w.many c):Zc1 [w.d,p.d,tupI c]=Z (.list (((doV w c).map (doY w p c)).map wyD)):=by
 have h1:=Zn6 hv (ls:=[]) (Zwc _) hc;have h1':Zbe [w.d,.tuple [],tupI c]=Z (.list ((doV w c).map (Zkm w [] c))):=h1;have hb:(doV w c).length<1000000:=by have:=ZjF w c; have:=hv.d2; omega
 have hg:Zdw ZS (ZC (Za (ZC (Za (eC (.str (Zz1 "do"))) (Za (Zc 0) (Za (eIx (bOf (eIx (Zn 3) (eC (.int 0)))) (Zc 0)) Ze)))) (Za (Zc 1) Ze))) [Z (.pl w.d),Z (.pl p.d),Z (.pl (tupI c))] ((doV w c).map (Zkm w [] c))=Z ((doV w c).map λd=>wyD (doY w p c d)):=by
  have:=Zfk (c:=ZS) (e:=ZC (Za (ZC (Za (eC (.str (Zz1 "do"))) (Za (Zc 0) (Za (eIx (bOf (eIx (Zn 3) (eC (.int 0)))) (Zc 0)) Ze)))) (Za (Zc 1) Ze))) (r:=[Z (.pl w.d),Z (.pl p.d),Z (.pl (tupI c))]) dI (λd=>ZEM ((ZR w [] (ZbK w c d)).map Zak)) (λ_=>ZEN) (λd=>wyD (doY w p c d)) (doV w c) (λ_ _=>rfl) λd hd _=>by obtain⟨d0,d1,_⟩:=ZdU hd;have ha:=(Zn5 (xs:=p.ds) d0 (by rw[hp.dl]; exact d1)).1;have ha':eIx (bOf (eIx (Zn 3) (eC (.int 0)))) (Zc 0) (Z (.pl (dI d))::Z (.pl (ZEM ((ZR w [] (ZbK w c d)).map Zak)))::[Z (.pl w.d),Z (.pl p.d),Z (.pl (tupI c))])=Z (.int (dP p d)):=ha;generalize eIx (bOf (eIx (Zn 3) (eC (.int 0)))) (Zc 0)=E at ha' ⊢;simp[ha'];rfl
  rw[ZBh.mpr λ_ _=>rfl]at this;exact this
 show ZH (Zeh [Z (.pl w.d),Z (.pl p.d),Z (.pl (tupI c))])=_;have hi:Zad (bOf (Zk Zbe (Za (Zc 0) (Za (ZC Ze) (Za (Zc 2) Ze))))) [Z (.pl w.d),Z (.pl p.d),Z (.pl (tupI c))]=Z ((doV w c).map (Zkm w [] c)):=by simp[h1']
 unfold Zeh ZB eOf ZbH;rw[hi];dsimp only;rw[if_pos (by rw[Zzw]; exact hb),hg,ZzV];rfl
omit hp hv in
theorem Zoy(f:Nat->Int):∀(n k:Nat) (xs:List Int),xs.length=n->(∀i,i<n->xs[i]?=Z (f (k+i)))->ZhS k (xs.map dI)=(List.range' k n).map λ(j:Nat)=>Zz7 [dI (j:Int),dI (f j)]
 | 0,k,xs,h,_=>by rw[ZAv h]; rfl
 | n+1,k,x::xs,h,hx=>by
  have h0:=hx 0 (by omega);have ih:=Zoy f n (k+1) xs (by simpa using h) λi hi=>by have:=hx (i+1) (by omega);rw[show k+1+i=k+(i+1) by omega,<-this];rfl
  rw[ZzG,List.range'_succ,ZzG,<-ih];have:x=f k:=by simpa using h0
  rw[this];rfl
 | n+1,k,[],h,_=>by simp at h
theorem Zlf(hc:Cr w.many c):Zc2 [w.d,p.d,tupI c]=Z (.list ((((alV w).map (ZaP w p c)).filter λy=>decide (1<y.2.length)).map wyD)):=by
 have hl2:=hv.l2;have hen:ZhS 0 (p.ls.map dI)=(alV w).map λl=>Zz7 [dI l,dI (lP p l)]:=by
  rw[Zoy (λj=>lP p (j:Int)) w.looks.length 0 p.ls hp.ll λi hi=>?_]
  ·unfold alV
   rw[ZzV,List.range_eq_range'];rfl
  ·rw[Nat.zero_add]
   unfold lP;rw[ZBf,ZzT (by rw[hp.ll]; exact hi)];rfl
 have hal:(alV w).length<1000000:=by have:=(Zli w).len; omega
 have hi:Zm4 (eIx (Zn 1) (eC (.int 1))) [Z (.pl w.d),Z (.pl p.d),Z (.pl (tupI c)),Z_]=Z ((alV w).map λl=>Zz7 [dI l,dI (lP p l)]):=by rw[<-hen];rfl
 have hg:Zdw ZS (ZC (Za (ZC (Za (eC (.str (Zz1 "look"))) (Za (Zc 0) (Za (Zc 1) Ze)))) (Za (Zk ZbE (Za (Zc 2) (Za (ZC (Za (Zc 0) Ze)) (Za (Zc 4) Ze)))) Ze))) [Z (.pl w.d),Z (.pl p.d),Z (.pl (tupI c)),Z_] ((alV w).map λl=>Zz7 [dI l,dI (lP p l)])=Z (((alV w).map (ZaP w p c)).map wyD):=by
  have:=Zfk (c:=ZS) (e:=ZC (Za (ZC (Za (eC (.str (Zz1 "look"))) (Za (Zc 0) (Za (Zc 1) Ze)))) (Za (Zk ZbE (Za (Zc 2) (Za (ZC (Za (Zc 0) Ze)) (Za (Zc 4) Ze)))) Ze))) (r:=[Z (.pl w.d),Z (.pl p.d),Z (.pl (tupI c)),Z_]) dI (λl=>dI (lP p l)) (λ_=>ZEN) (λl=>wyD (ZaP w p c l)) (alV w) (λ_ _=>rfl) λl hl _=>by obtain⟨l0,l1⟩:=Zwr hl;have ha:ZbE [w.d,.tuple [dI l],tupI c]=Z (.list ((ZR w [l] c).map Zak)):=Zme hv (Zwp l0 l1) hc;simp[ha];rfl
  rw[ZBh.mpr λ_ _=>rfl]at this;rw[ZzV];exact this
 have hy:∀y∈(alV w).map (ZaP w p c),y.2.length<1000:=λy hy=>by obtain⟨l,_,rfl⟩:=ZzI.mp hy;have:=split_len (w:=w) (ls:=[l]) (c:=c);have:=hc.len;have:=hv.m2;show(ZR w [l] c).length<1000;omega
 have hf:Zan (tV (op2 gGt (Za2 (bOf (eIx (Zn 0) (eC (.int 1))))) (eC (.int 1)))) (Zc 0) [Z (.pl w.d),Z (.pl p.d),Z (.pl (tupI c)),Z (.pl (.list (((alV w).map (ZaP w p c)).map wyD)))] (((alV w).map (ZaP w p c)).map wyD)=Z ((((alV w).map (ZaP w p c)).filter λy=>decide (1<y.2.length)).map wyD):=by refine Zcl wyD (λy=>decide (1<y.2.length)) wyD _ (λy _=>?_) λy _ _=>rfl;show Z (decide (((1:Int))<(((y.2.map Zak).length:Nat):Int)))=_;rw[Zzw];congr 1;rw[decide_eq_decide];omega
 show ZH (Zei [Z (.pl w.d),Z (.pl p.d),Z (.pl (tupI c)),Z_])=_;unfold Zei;refine ZV (P:=λq=>ZH q=_) (r':=[Z (.pl w.d),Z (.pl p.d),Z (.pl (tupI c)),Z (.ol (((alV w).map (ZaP w p c)).map wyD))]) ?_ ?_
 ·unfold ZU ZbH
  rw[hi];dsimp only;rw[if_pos (by rw[Zzw]; exact hal),hg];rfl
 ·show ZH (ZB (eOf (ZF (Zad (bOf (Zc 3))) _ (Zc 0))) [Z (.pl w.d),Z (.pl p.d),Z (.pl (tupI c)),Z (.pl (.list (((alV w).map (ZaP w p c)).map wyD)))])=_
  have hq:=Zt5 (I:=Zad (bOf (Zc 3))) (r:=[Z (.pl w.d),Z (.pl p.d),Z (.pl (tupI c)),Z (.pl (.list (((alV w).map (ZaP w p c)).map wyD)))]) rfl (by rw[Zzw,Zzw]; exact hal) hf;unfold ZB eOf;rw[hq];rfl
theorem ZlM(hc:Cr w.many c):Zam [w.d,p.d,tupI c]=Z (.list ((wfB w p c).map wyD)):=by
 have h1:=Zlt hv hp hc;have h2:=Zlf hv hp hc;have hb:(doV w c).length<1000:=by have:=ZjF w c; have:=hv.d2; omega
 have hal:(alV w).length<1000:=by have:=(Zli w).len; have:=hv.l2; omega
 have hfl:=ZAR (λy:Wy=>decide (1<y.2.length)) ((alV w).map (ZaP w p c));rw[Zzw]at hfl;unfold wfB;rw[Zz4];generalize hA:((doV w c).map (doY w p c)).map wyD=A at h1 ⊢;generalize hB:(((alV w).map (ZaP w p c)).filter λy=>decide (1<y.2.length)).map wyD=B at h2 ⊢;have lA:A.length<1000:=by rw[<-hA,Zzw,Zzw]; exact hb
 have lB:B.length<1000:=by rw[<-hB,Zzw]; omega
 have hz:A.length+B.length<1000000:=by omega
 simp[Zam,Zhm,h1,h2,hz]
end
end HG23
namespace HG23
open PySem HM
open HG
open HG4
open HG5
variable{c:List Int}{y:Wy}
theorem ZfZ{w:Wk}{p:Pr}(h:y∈wfB w p c):(∃d∈doV w c,y=doY w p c d)\/∃l∈alV w,y=ZaP w p c l/\1<y.2.length:=by
 rcases Zz3.mp h with h | h
 ·obtain⟨d,hd,rfl⟩:=ZzI.mp h
  exact .inl ⟨d,hd,rfl⟩
 ·obtain⟨h1,h2⟩:=ZAA.mp h
  obtain⟨l,hl,rfl⟩:=ZzI.mp h1;exact .inr ⟨l,hl,rfl,of_decide_eq_true h2⟩
structure ApB(ap:AP):Prop where
 d:ApD ap
 p5:∀ds,ap 5 [] ds=ZcT ds
 l6:∀cs ds,ap 6 cs ds=ZfP 1 2 (Zk Zam (Za (Zc 1) (Za (Zc 2) (Za (Zc 0) Ze)))) cs ds
def Chp(w:Wk)(p:Pr)(d:D):Prop:=(∃n:Nat,d=.int n/\ZgG w (wfB w p) w.beg n)\/(d=.none/\∀n,¬Buy w (wfB w p) n w.beg)
section
variable{w:Wk}(hv:Wk.V w)(h7:w.many<=7){p:Pr}(hp:p.V w)
include hv h7
omit hv h7 in
theorem Zi1(h:y∈wfB w p c):∃a b k,y.1=.tuple [a,b,.int k]/\noF 17 y.1=ZEN:=by
 rcases ZfZ h with⟨d,_,rfl⟩ | ⟨l,_,rfl,_⟩
 ·exact⟨_,_,_,rfl,rfl⟩
 ·exact⟨_,_,_,rfl,rfl⟩
theorem ZoS:Zrd (wfB w p) (OkC w):=by
 refine⟨λc hc y hy q hq=>?_,λc hc=>?_,λc hc y hy=>?_,λC hn hC=>?_⟩
 ·rcases ZfZ hy with⟨d,hd,rfl⟩ | ⟨l,hl,rfl,_⟩
  ·obtain⟨d0,d1,_⟩:=ZdU hd
   have:=Zqc (ZjD hv hc.1 d0 d1) (show q∈Zcz w [] (ZbK w c d) from hq);exact⟨this.1,this.2.1⟩
  ·have:=Zqc hc.1 (show q∈Zcz w [l] c from hq)
   exact⟨this.1,this.2.1⟩
 ·unfold wfB
  rw[ZzM,Zzw];have h1:=ZjF w c;have h2:=hv.d2;have h3:=ZAR (λy:Wy=>decide (1<y.2.length)) ((alV w).map (ZaP w p c));rw[Zzw]at h3;have h4:=(Zli w).len;have h5:=hv.l2;omega
 ·rcases ZfZ hy with⟨d,hd,rfl⟩ | ⟨l,hl,rfl,_⟩
  ·obtain⟨d0,d1,_⟩:=ZdU hd
   have:=split_len (w:=w) (ls:=[]) (c:=ZbK w c d);have:=(ZjD hv hc.1 d0 d1).len;show(ZR w [] (ZbK w c d)).length<=8;omega
  ·have:=split_len (w:=w) (ls:=[l]) (c:=c)
   have:=hc.1.len;show(ZR w [l] c).length<=8;omega
 ·have h1:=Zk5 hn λc hc=>(hC c hc).1
  have h2:2 ^ w.many<=2 ^ 7:=Nat.pow_le_pow_right (by decide) h7;have h3:2 ^ 7=128:=rfl;omega
omit hv h7 in
theorem ZxE(hc:c≠[])(hy:y∈wfB w p c):wyP y≠[]:=by
 rcases ZfZ hy with⟨d,hd,rfl⟩ | ⟨l,hl,rfl,h1⟩
 ·exact ZnQ (ZsO hc (ZdU hd).2.2)
 ·intro z
  have:(wyP (ZaP w p c l)).length=(ZaP w p c l).2.length:=by unfold wyP; rw[Zzw]
  rw[z]at this;rw[<-this]at h1;cases h1
include hp
omit hv h7 in
theorem Zxw(hy:y∈wfB w p c):∃k:Nat,prY y=(k:Int)/\1<=k:=by
 rcases ZfZ hy with⟨d,hd,rfl⟩ | ⟨l,hl,rfl,h1⟩
 ·obtain⟨d0,d1,_⟩:=ZdU hd
  have:=Zy5 hp d0 d1;exact⟨(dP p d).toNat,by rw[Zwx]; omega,by omega⟩
 ·obtain⟨l0,l1⟩:=Zwr hl
  have:=ZyI hp l0 l1;exact⟨(lP p l).toNat,by rw[Zti]; omega,by omega⟩
omit hv h7 in
theorem gdB{L:List (List Int)}(cl:ZjE (wfB w p) L)(ne:∀c∈L,c≠[]):Gd (wfB w p) L:=⟨cl,λc hc y hy=>ZxE (ne c hc) hy,λc hc y hy=>Zxw hp hy⟩
omit hp hv h7 in
theorem Zj0(hy:y.2.length<1000)(h0:y.2≠[])(hk:∃a b k,y.1=.tuple [a,b,.int k])(M:Tb):ZcT [wyD y,.dict (Zg (encM M))]=Z (oI (cbP y M)):=by
 have h:=Zkq hy h0 (M:=M);have h':ZaZ [.list (y.2.map Zak),.dict (Zg (encM M))]=Z (oI (ZcE (wyP y) M)):=h;obtain⟨a,b,k,hk⟩:=hk;have hpr:prY y=k:=by unfold prY; rw[hk]
 show ZH (ZgN [Z (.pl (wyD y)),Z (.pl (.dict (Zg (encM M)))),Z_])=_;unfold ZgN cbP;rw[hpr];refine ZV (P:=λq=>ZH q=_) (r':=[Z (.pl (wyD y)),Z (.pl (.dict (Zg (encM M)))),Z (.pl (oI (ZcE (wyP y) M)))]) ?_ ?_
 ·unfold Zae Zk
  show ZBv _ (ZaZ [.list (y.2.map Zak),.dict (Zg (encM M))])=_;rw[h'];rfl
 ·unfold wyD
  rw[hk];cases ZcE (wyP y) M<;>rfl
theorem Zmt{ap:AP}(l6:∀cs ds,ap 6 cs ds=ZfP 1 2 (Zk Zam (Za (Zc 1) (Za (Zc 2) (Za (Zc 0) Ze)))) cs ds):∃L,Zap ap [w.d,p.d]=Z (.dict (Zg (Zp (wfB w p) L)))/\Zfx (wfB w p) (OkC w) [w.beg] L []:=by
 have O:=ZoS hv h7 (p:=p);have ha:∀c,OkC w c->ap 6 [w.d,p.d] [tupI c]=Z (.list ((wfB w p c).map wyD)):=λc hc=>by rw[l6];unfold ZfP;rw[if_pos ⟨rfl,rfl,by rw[ZAX,Zdu 19]; rfl⟩];exact ZlM hv hp hc.1
 obtain⟨L,e,J⟩:=Zrh O ha (B:=[w.beg]) (λc h=>by rw[ZzF.mp h]; exact⟨hv.bc,hv.b1⟩) (by simp);refine⟨L,?_,J⟩;have h1:eOf (ZbV (Za (Zk Zbz (Za (Zc 0) Ze)) Ze)) [Z (.pl w.d),Z (.pl p.d)]=Z (.list ([w.beg].map tupI)):=by have hb:=Zhe w;simp[hb]
 have hpd:noF 20 p.d=ZEN:=Zdh λd hd=>by
  rcases ZzK.mp hd with e | hd
  ·subst e; exact Zdu 18 _
  ·rw[ZzF.mp hd]; exact Zdu 18 _
 have hn1:[w.d,p.d].all (noF 20)=ZEN:=by rw[ZAX,ZAX,Zx0,hpd];rfl
 have hn2:noF 20 (.dict (Zg (Zp (wfB w p) L)))=ZEN:=ZxX (n:=14) λc _ y hy=>(Zi1 hy).choose_spec.choose_spec.choose_spec.2;show ZH (Zde ap [Z (.pl w.d),Z (.pl p.d)])=_;unfold Zde ZB Zic;rw[h1];show ZH (ZBv Out.rt (if[w.d,p.d].all (noF 20)=ZEN then(match Zcb ap [.list ([w.beg].map tupI),fnD 6 [w.d,p.d]]with | some d=>if noF 20 d=ZEN then Z d else Z_ | none=>Z_)else Z_))=_;rw[if_pos hn1,e];dsimp only;rw[if_pos hn2];rfl
theorem Zse{ap:AP}(A:ApB ap):∃L R,Zap ap [w.d,p.d]=Z (.dict (Zg (Zp (wfB w p) L)))/\Zch ap [w.d,.dict (Zg (Zp (wfB w p) L)),fnD 5 []]=Z (.dict (Zg (encM R)))/\Zfx (wfB w p) (OkC w) [w.beg] L []/\Gd (wfB w p) L/\Zkj w (wfB w p) L R/\w.beg∈L:=by
 have O:=ZoS hv h7 (p:=p);obtain⟨L,e1,J⟩:=Zmt hv h7 hp A.l6;have cl:ZjE (wfB w p) L:=λc hc y hy q hq=>(J.cl c hc y hy q hq).elim id λz=>by simp at z
 have G:=gdB hp cl λc hc=>(J.cr c hc).2;have hbl:w.beg∈L:=(J.bg w.beg (ZzF.mpr rfl)).elim id λz=>by simp at z
 obtain⟨R,e,r⟩:=Zj4 hv (ap:=ap) (wf:=wfB w p) (t:=5) (cs:=[]) (cb:=cbP) J.nd (O.cs L J.nd J.cr) (λc hc=>(J.cr c hc).1) (λc hc=>by have:=O.ys c (J.cr c hc); omega) λc hc y hy M=>by
  rw[A.p5];refine Zj0 (by have:=O.ps c (J.cr c hc) y hy; omega) (λz=>?_) ?_ M
  ·refine G.ne c hc y hy ?_
   unfold wyP;rw[z];rfl
  ·obtain⟨a,b,k,h,_⟩:=Zi1 hy
   exact⟨a,b,k,h⟩
 exact⟨L,R,e1,e,J,G,Zmd G r,hbl⟩
theorem ZpJ{ap:AP}(A:ApB ap):∃d,ZdF ap [w.d,p.d]=Z d/\Chp w p d:=by
 obtain⟨L,R,e1,e2,J,G,F,hbl⟩:=Zse hv h7 hp A;have hc1:=ZfN hv;have hc2:=ZfH hv hp;have hb:=Zhe w;refine⟨oI (Zj R w.beg),?_,?_⟩
 ·show ZH (ZgO ap [Z (.pl w.d),Z (.pl p.d),Z_])=_
  unfold ZgO;refine ZV (P:=λq=>ZH q=_) (r':=[Z (.pl w.d),Z (.pl p.d),Z_]) (by simp[hc1]) ?_;refine ZV (P:=λq=>ZH q=_) (r':=[Z (.pl w.d),Z (.pl p.d),Z_]) (by simp[hc2]) ?_;refine ZV (P:=λq=>ZH q=_) (r':=[Z (.pl w.d),Z (.pl p.d),Z (.pl (.dict (Zg (encM R))))]) (by simp[e1,e2]) ?_;have hk:Zbp (tupI w.beg)=Z (Z7 w.beg):=Zbk w.beg;have hlk:=Zdk R w.beg;simp[hb,dec_enc,hk,hlk];cases Zj R w.beg<;>rfl
 ·rcases F.at_ hbl with⟨n,h1,h2⟩ | ⟨h1,h2⟩
  ·rw[h1]; exact .inl ⟨n,rfl,h2⟩
  ·rw[h1]; exact .inr ⟨rfl,h2⟩
end
end HG23
namespace HG23
open PySem HM
open HG
open HG4
open HG5
end HG23
namespace HG23
open PySem HM
open HG
open HG4
open HG5
end HG23
namespace HG23
open PySem HM
open HG
open HG4
open HG5
theorem Zrq{g:D->D->Option D}{e f:EF}{r:HM.Env}{x y:D}{b:Bool}(h1:e r=Z x)(h2:f r=Z y)(h:g x y=Z (.bool b)):tV (op2 g e f) r=Z b:=by unfold tV op2;rw[h1,h2];show(match g x y with | some (.bool b)=>Z b | _=>Z_)=_;rw[h]
end HG23
namespace HG23
open PySem HM
open HG
open HG4
open HG5
end HG23
namespace HG24
open PySem HM
open HG
open HG4
open HG5
open HG6
open HG23
def ZbY:SF :=
 (Zu (Zae 2 (Zk Zdq (Za (eIx (Zn 0) (eC (.int 1))) (Za (Zc 1) Ze))))
  (Zu (sIf (tV (op2 gEq (eIx (bOf (eIx (Zn 0) (eC (.int 0)))) (eC (.int 0))) (eC (.str (Zz1 "do"))))) (ZB (ZC (Za (eC (.str (Zz1 "do"))) (Za (eIx (bOf (eIx (Zn 0) (eC (.int 0)))) (eC (.int 1))) (Za (eIx (bOf (eIx (Zn 2) (eC (.int 0)))) (eC (.int 1))) Ze))))) ZaY)
  (ZB (ZC (Za (eC (.str (Zz1 "look"))) (Za (eIx (bOf (eIx (Zn 0) (eC (.int 0)))) (eC (.int 1))) (Za (Zah (ZbH (Zad (bOf (Zc 2))) ZS (ZC (Za (eIx (Zn 0) (eC (.int 0))) (Za (Zc 1) Ze))))) Ze)))))))
def Za3:List D->Option D:=fnOf 2 3 ZbY
def Zbv(ap:AP):SF :=
 (Zu (ZhX (Zk Zbc (Za (Zc 0) Ze)))
  (Zu (ZhX (Zk Zbl (Za (Zc 0) (Za (Zc 1) Ze))))
  (Zu (Zae 2 (Zk (Zap ap) (Za (Zc 0) (Za (Zc 1) Ze))))
  (Zu (Zae 3 (Zk (Zch ap) (Za (Zc 0) (Za (Zc 2) (Za (eC (fnD 5 [])) Ze)))))
  (ZB (ZiX (bOf (Zk (ZeZ ap) (Za (Zc 2) (Za (Zc 3) (Za (eC (fnD 5 [])) (Za (eC (fnD 7 [])) Ze)))))) (Zk Zbz (Za (Zc 0) Ze))))))))
def Za0(ap:AP):List D->Option D:=fnOf 2 4 (Zbv ap)
end HG24
namespace HG24
open PySem HM
open HG
open HG4
open HG5
open HG6
open HG23
section
variable{ap:AP}{wf:Wf}{cb:Cb}{L:List (List Int)}{M:Tb}{t u:Nat}{S:List Int->D}(nd:(M.map (·.1)).Nodup)(hzero:∀c,Zj M c=Z 0->S c=.tuple [.str (Zz1 "done")])
 (hstep:∀pre c post k,M.map (·.1)=pre++c::post->Zj M c=Z k->k≠0->c∈L/\(wf c).length<1000/\(∀y∈wf c,ap t [] [wyD y,.dict (Zg (encM M))]=Z (oI (cb y M)))/\∃k0 y,ZaN cb (wf c) M=Z k0/\(wf c).find? (λy=>cb y M==Z k0)=Z y/\ap u [] [wyD y,.dict (Zg (ZW S pre))]=Z (S c)/\Ze6 400 (S c)=ZEN)
include nd hzero hstep
theorem Zq8{pre post:List (List Int)}{c:List Int}(e:M.map (·.1)=pre++c::post)(hpl:pre.length<1000000) :
  ZbF ap [Z (.pl (.dict (Zg (Zp wf L)))),Z (.hd (Zg (encM M))),Z (.pl (fnD t [])),Z (.pl (fnD u [])),Z (.ot (ZW S pre)),Z (.pl (tupI c))]=Z (.nx [Z (.pl (.dict (Zg (Zp wf L)))),Z (.hd (Zg (encM M))),Z (.pl (fnD t [])),Z (.pl (fnD u [])),Z (.ot (ZW S (pre++[c]))),Z (.pl (tupI c))]):=by
 have hcm:c∈M.map (·.1):=by rw[e]; exact ZzX _ (ZzB ..)
 have hh:=(Zf2 M c).mpr hcm;unfold ZA at hh;obtain⟨v,hv'⟩:=ZAd.mp hh;have hnp:c ∉ pre:=λz=>by rw[e]at nd;exact(ZBy.mp nd).2.2 c z c (ZzB ..) rfl
 have hk:Zbp (tupI c)=Z (Z7 c):=Zbk c;have hlk:=Zdk M c;rw[hv']at hlk;have hel:(ZW S pre).length<1000000:=by unfold ZW; rw[Zzw]; exact hpl
 have hput:=Zta (f:=S) hnp
 by_cases h0:v=0
 ·subst h0
  have hs:=hzero c hv';rw[<-hput,hs];have hz:tV (op2 gEq (Z8 (Zn 1) (Zc 5)) (eC (.int 0))) [Z (.pl (.dict (Zg (Zp wf L)))),Z (.hd (Zg (encM M))),Z (.pl (fnD t [])),Z (.pl (fnD u [])),Z (.ot (ZW S pre)),Z (.pl (tupI c))]=Z ZEN:=by simp[dec_enc,hk,hlk]
  unfold ZbF sIf;rw[hz];simp[hk,hel]
 ·obtain⟨hcl,hyl,ha,k0,y,hmin,hfind,hst,hto⟩:=hstep pre c post v e hv' h0
  have hlw:=ZgF wf L c;rw[if_pos hcl]at hlw;have hbw:=ZpN (t:=t) (cs:=[]) hyl ha hmin hfind;rw[<-hput];have hz:tV (op2 gEq (Z8 (Zn 1) (Zc 5)) (eC (.int 0))) [Z (.pl (.dict (Zg (Zp wf L)))),Z (.hd (Zg (encM M))),Z (.pl (fnD t [])),Z (.pl (fnD u [])),Z (.ot (ZW S pre)),Z (.pl (tupI c))]=Z ZEO:=by
   have hg:Z8 (Zn 1) (Zc 5) [Z (.pl (.dict (Zg (Zp wf L)))),Z (.hd (Zg (encM M))),Z (.pl (fnD t [])),Z (.pl (fnD u [])),Z (.ot (ZW S pre)),Z (.pl (tupI c))]=Z (.int v):=by simp[dec_enc,hk,hlk]
   exact Zrq hg (y:=.int 0) rfl (Zgw (Zbs 1 _) (Zbs 1 _) (by decide) (by decide) λz=>h0 (by injection z))
  have hw2:Zk (ZbA ap) (Za (Z8 (Zn 0) (Zc 5)) (Za (eHd 1) (Za (Zc 2) Ze))) [Z (.pl (.dict (Zg (Zp wf L)))),Z (.hd (Zg (encM M))),Z (.pl (fnD t [])),Z (.pl (fnD u [])),Z (.ot (ZW S pre)),Z (.pl (tupI c))]=Z (wyD y):=by simp[dec_enc,hk,hlw,hbw]
  have hval:Zf5 ap 3 (Za (Zk (ZbA ap) (Za (Z8 (Zn 0) (Zc 5)) (Za (eHd 1) (Za (Zc 2) Ze)))) (Za (ZhY (Zn 4)) Ze)) [Z (.pl (.dict (Zg (Zp wf L)))),Z (.hd (Zg (encM M))),Z (.pl (fnD t [])),Z (.pl (fnD u [])),Z (.ot (ZW S pre)),Z (.pl (tupI c))]=Z (S c):=by
   have ha:Za (Zk (ZbA ap) (Za (Z8 (Zn 0) (Zc 5)) (Za (eHd 1) (Za (Zc 2) Ze)))) (Za (ZhY (Zn 4)) Ze) [Z (.pl (.dict (Zg (Zp wf L)))),Z (.hd (Zg (encM M))),Z (.pl (fnD t [])),Z (.pl (fnD u [])),Z (.ot (ZW S pre)),Z (.pl (tupI c))]=Z [wyD y,.dict (Zg (ZW S pre))]:=by generalize Zk (ZbA ap) (Za (Z8 (Zn 0) (Zc 5)) (Za (eHd 1) (Za (Zc 2) Ze)))=E at hw2 ⊢;simp[hw2]
   unfold Zf5;show(match Zh5 (fnD u [])with | some (t,cs)=>_ | none=>Z_)=_;rw[Zjv];dsimp only;rw[ha];dsimp only;rw[hst];dsimp only;rw[if_pos hto]
  unfold ZbF sIf;rw[hz];generalize Zf5 ap 3 (Za (Zk (ZbA ap) (Za (Z8 (Zn 0) (Zc 5)) (Za (eHd 1) (Za (Zc 2) Ze)))) (Za (ZhY (Zn 4)) Ze))=E at hval ⊢;simp[hval,hk,hel]
theorem Zn0:∀(post pre:List (List Int)) (q5:Option B),M.map (·.1)=pre++post->pre.length+post.length<1000000->ZaS q5=ZEO ->
  ∃p5,ZaS p5=ZEO/\ZaG 5 (ZbF ap) (post.map tupI) [Z (.pl (.dict (Zg (Zp wf L)))),Z (.hd (Zg (encM M))),Z (.pl (fnD t [])),Z (.pl (fnD u [])),Z (.ot (ZW S pre)),q5]=Z (.nx [Z (.pl (.dict (Zg (Zp wf L)))),Z (.hd (Zg (encM M))),Z (.pl (fnD t [])),Z (.pl (fnD u [])),Z (.ot (ZW S (pre++post))),p5])
 | [],pre,q5,_,_,h5=>⟨q5,h5,by rw[ZB1,ZAe]; rfl⟩
 | c::post,pre,q5,e,hl,h5=>by rw[ZzS]at hl;have e1:=Zq8 nd hzero hstep e (by omega);obtain⟨r5,g5,ih⟩:=Zn0 post (pre++[c]) (Z (.pl (tupI c))) (by rw[e]; simp) (by rw[ZzM,ZAc]; omega) rfl;refine⟨r5,g5,?_⟩;rw[show pre++c::post=(pre++[c])++post by simp,<-ih,ZzG];show(match ZbF ap [Z (.pl (.dict (Zg (Zp wf L)))),Z (.hd (Zg (encM M))),Z (.pl (fnD t [])),Z (.pl (fnD u [])),Z (.ot (ZW S pre)),Z (.pl (tupI c))]with | some (.nx r')=>_ | some (.ct r')=>_ | some (.bk r')=>_ | some (.rt d)=>_ | none=>_)=_;rw[e1]
theorem Zsl(hML:M.length<1000000):ZeZ ap [.dict (Zg (Zp wf L)),.dict (Zg (encM M)),fnD t [],fnD u []]=Z (.dict (Zg (ZW S (M.map (·.1))))):=by
 obtain⟨p5,g5,hgo⟩:=Zn0 nd hzero hstep (M.map (·.1)) [] Z_ rfl (by simp; exact hML) rfl;rw[ZBr]at hgo;show ZH (ZeY ap [Z (.pl (.dict (Zg (Zp wf L)))),Z (.pl (.dict (Zg (encM M)))),Z (.pl (fnD t [])),Z (.pl (fnD u [])),Z_,Z_])=_;have e:ZeY ap [Z (.pl (.dict (Zg (Zp wf L)))),Z (.pl (.dict (Zg (encM M)))),Z (.pl (fnD t [])),Z (.pl (fnD u [])),Z_,Z_]=Z (.rt (.dict (Zg (ZW S (M.map (·.1)))))):=by
  unfold ZeY;refine ZV (P:=λq=>q=_) (r':=[Z (.pl (.dict (Zg (Zp wf L)))),Z (.pl (.dict (Zg (encM M)))),Z (.pl (fnD t [])),Z (.pl (fnD u [])),Z (.ot (ZW S [])),Z_]) rfl ?_;refine ZV (P:=λq=>q=_) (r':=[Z (.pl (.dict (Zg (Zp wf L)))),Z (.pl (.dict (Zg (encM M)))),Z (.pl (fnD t [])),Z (.pl (fnD u [])),Z (.ot (ZW S (M.map (·.1)))),p5]) ?_ (by simp);have hw:ZaH 1 [Z (.pl (.dict (Zg (Zp wf L)))),Z (.hd (Zg (encM M))),Z (.pl (fnD t [])),Z (.pl (fnD u [])),Z (.ot (ZW S [])),Z_]=Z ((M.map (·.1)).map tupI):=by show(ZeP (Zg (encM M))).map _=_;rw[dec_enc,<-ZiP M];rfl
  have hs:Zbx 5 (ZaH 1) (ZbF ap) [Z (.pl (.dict (Zg (Zp wf L)))),Z (.hd (Zg (encM M))),Z (.pl (fnD t [])),Z (.pl (fnD u [])),Z (.ot (ZW S [])),Z_]=Z (.nx [Z (.pl (.dict (Zg (Zp wf L)))),Z (.hd (Zg (encM M))),Z (.pl (fnD t [])),Z (.pl (fnD u [])),Z (.ot (ZW S (M.map (·.1)))),p5]):=by unfold Zbx;rw[hw];dsimp only;rw[if_pos (by rw[Zzw,Zzw]; exact hML)];exact hgo
  have a2:([Z (B.pl (.dict (Zg (Zp wf L)))),Z_,Z (.pl (fnD t [])),Z (.pl (fnD u [])),Z (.ot (ZW S (M.map (·.1)))),p5]:HM.Env).all (λq=>!ZaS q)=ZEN:=by simp only[ZAX,ZD2,g5];rfl
  show(match Zbx 5 (ZaH 1) (ZbF ap) [Z (.pl (.dict (Zg (Zp wf L)))),Z (.hd (Zg (encM M))),Z (.pl (fnD t [])),Z (.pl (fnD u [])),Z (.ot (ZW S [])),Z_]with | some (.nx r')=>_ | some (.rt d)=>_ | _=>Z_)=_;rw[hs];show(if([Z (B.pl (.dict (Zg (Zp wf L)))),Z_,Z (.pl (fnD t [])),Z (.pl (fnD u [])),Z (.ot (ZW S (M.map (·.1)))),p5]:HM.Env).all (λq=>!ZaS q)=ZEN then _ else _)=_;rw[if_pos a2];rfl
 rw[e];rfl
end
theorem Zw8{wf:Wf}{L:List (List Int)}(G:Gd wf L)(hnd:L.Nodup){M R:Tb}{k:Option Int}{found:List (List Int)}(r:Zje wf cbP L M k found R) :
  (M.map (·.1)).Nodup->found.Nodup->(∀c∈found,c∈L/\c ∉ M.map (·.1))->(M.map (·.2)).Pairwise (·<=·)->(∀v∈M.map (·.2),∀j,k=Z j->v<=j)->(∀j,k=Z j->∀x∈L,ZA M x=ZEO->∀y∈wf x,∀v,cbP y M=Z v->j<=v)->(R.map (·.1)).Nodup/\(R.map (·.2)).Pairwise (·<=·):=by
 induction r with
 | done=>intro h1 _ _ h4 _ _; exact⟨h1,h4⟩
 | @step M R k found hf _ ih =>
  intro h1 h2 h3 h4 h5 h6;have e:Zai found k M=M++found.map λc=>(c,k):=ZoZ k found M h2 λc hc=>(h3 c hc).2;have e1:(M++found.map λc=>(c,k)).map (·.1)=M.map (·.1)++found:=by rw[Zz4,ZzV];congr 1;exact List.map_id found
  have hlk:∀c,Zj (Zai found k M) c=if c∈found then Z k else Zj M c:=λc=>ZgH k c found M
  have key:∀x∈L,ZA (Zai found k M) x=ZEO->∀y∈wf x,∀v,cbP y (Zai found k M)=Z v->k<=v:=λx hx hn y hy v hv=>by
   unfold cbP at hv;obtain⟨m,hm,rfl⟩:=Zzy.mp hv;obtain⟨⟨q,hq,eq⟩,hall⟩:=Zku hm;obtain⟨j,hj,h1j⟩:=G.pr x hx y hy
   by_cases hin:∃p∈wyP y,p∈found
   ·obtain⟨p,hp,hpf⟩:=hin
    obtain⟨v',hv',hle⟩:=hall p hp;rw[hlk,if_pos hpf]at hv';cases hv';omega
   ·have hold:∀p∈wyP y,Zj (Zai found k M) p=Zj M p:=λp hp=>by
     rw[hlk,if_neg λz=>hin ⟨p,hp,z⟩]
    have hxn:ZA M x=ZEO:=by
     unfold ZA at hn ⊢;rw[hlk]at hn;split at hn
     ·cases hn
     ·exact hn
    obtain⟨m',hm',hle⟩:=Zkp (M:=M) (n:=m) (G.ne x hx y hy) λp hp=>by obtain⟨v',hv',hle⟩:=hall p hp;rw[hold p hp]at hv';exact⟨v',hv',hle⟩
    have:=h6 k rfl x hx hxn y hy (m'+prY y) (by unfold cbP; rw[hm']; rfl);omega
  refine ih ?_ ?_ (λc hc=>?_) ?_ (λv hv j hj=>?_) λj hj=>ZpW hj
  ·rw[e,e1,ZBy]
   exact⟨h1,h2,λa ha b hb z=>(h3 b hb).2 (z▸ha)⟩
  ·unfold ZfA
   have:((Zar wf cbP L (Zai found k M)).map (·.1)).Nodup:=by
    have hs:∀L':List (List Int),((Zar wf cbP L' (Zai found k M)).map (·.1)).Sublist L':=λL'=>by
     induction L' with
     | nil=>exact .slnil
     | cons c L' ihL =>
      unfold Zar at ihL ⊢;rw[ZA1];cases hq:(if ZA (Zai found k M) c then Z_ else(ZaN cbP (wf c) (Zai found k M)).map λk=>(c,k))with
      | none=>exact ihL.cons _
      | some q =>
       have:q.1=c:=by
        split at hq
        ·cases hq
        ·obtain⟨k,_,rfl⟩:=Zzy.mp hq
         rfl
       show(ZBN (·.1) (q::_)).Sublist _;rw[ZzG,this];exact ihL.cons_cons _
    exact(hs L).nodup hnd
   exact(List.filter_sublist.map _).nodup this
  ·obtain⟨q1,q2⟩:=Zn2 hc
   refine⟨q1,λz=>?_⟩;rw[(Zf2 _ c).mpr z]at q2;cases q2
  ·rw[e,Zz4,ZzV,ZDd]
   refine⟨h4,?_,λa ha b hb=>?_⟩
   ·rw[ZDF]
    exact List.pairwise_of_forall λ_ _=>Int.le_refl _
   ·obtain⟨c,_,rfl⟩:=ZzI.mp hb
    exact h5 a ha k rfl
  ·unfold ZbO at hj
   obtain⟨q,hq,rfl⟩:=ZzI.mp (ZEz hj);obtain⟨o1,o2,o3⟩:=Zhp.mp (show(q.1,q.2)∈_ from hq);obtain⟨⟨y,hy,hcb⟩,_⟩:=ZfU o3;have hk:=key q.1 o1 o2 y hy q.2 hcb;rw[e,Zz4,ZzV]at hv;rcases Zz3.mp hv with z | z
   ·exact Int.le_trans (h5 v z k rfl) hk
   ·obtain⟨c,_,rfl⟩:=ZzI.mp z
    exact hk
end HG24
namespace HG24
open PySem HM
open HG
open HG4
open HG5
open HG6
open HG23
variable{c:List Int}
abbrev ZjC:D:=.str (Zz1 "look")
def Ztd(y:Wy):Bool:=match y.1 with
 | .tuple (k::_)=>ZAV k doS
 | _=>ZEO
def ZxA(y:Wy):Int:=match y.1 with
 | .tuple [_,.int n,_]=>n
 | _=>0
def Zjw(S:List Int->D)(g:Gs):D:=.tuple (g.map λq=>.tuple [dI (q.1.headD 0),S q.2])
def ZcL(S:List Int->D)(y:Wy):D:=if Ztd y then .tuple [doS,dI (ZxA y),S (y.2.headD ([],[])).2]else .tuple [ZjC,dI (ZxA y),Zjw S y.2]
def Zew(wf:Wf)(R:Tb)(c:List Int):Wy:=((wf c).find? λy=>cbP y R==Zj R c).getD (.none,[])
def ZhV(wf:Wf)(R:Tb):Nat->List Int->D
 | 0,_=>Zfb
 | n+1,c=>if Zj R c=Z 0 then Zfb else ZcL (ZhV wf R n) (Zew wf R c)
def Zez(wf:Wf)(R:Tb)(c:List Int):D:=ZhV wf R R.length c
theorem Zt6(S:List Int->D)(w:Wk)(p:Pr)(c:List Int)(d:Int):ZcL S (doY w p c d)=.tuple [doS,dI d,S ((ZR w [] (ZbK w c d)).headD ([],[])).2]:=by
 have:Ztd (doY w p c d)=ZEN:=by
  show ZAV doS doS=ZEN
  decide +kernel
 unfold ZcL;rw[if_pos this];rfl
theorem Zrw(S:List Int->D)(w:Wk)(p:Pr)(c:List Int)(l:Int):ZcL S (ZaP w p c l)=.tuple [ZjC,dI l,Zjw S (ZR w [l] c)]:=by
 have:Ztd (ZaP w p c l)=ZEO:=by
  show ZAV ZjC doS=ZEO
  decide +kernel
 unfold ZcL;rw[if_neg (by rw[this]; decide)];rfl
theorem ZpD{S T:List Int->D}{y:Wy}(h0:y.2≠[])(h:∀q∈wyP y,S q=T q):ZcL S y=ZcL T y:=by
 unfold ZcL;have h1:S (y.2.headD ([],[])).2=T (y.2.headD ([],[])).2:=by
  refine h _ ?_;unfold wyP;cases hy:y.2 with
  | nil=>exact absurd hy h0
  | cons q g=>exact ZzB ..
 have h2:Zjw S y.2=Zjw T y.2:=by unfold Zjw;congr 1;refine ZA3 λq hq=>?_;rw[h q.2 (ZzI.mpr ⟨q,hq,rfl⟩)]
 rw[h1,h2]
theorem ZlX(wf:Wf)(R:Tb):∀(n:Nat) (c:List Int),Ze6 (3*n+1) (ZhV wf R n c)=ZEN
 | 0,_=>rfl
 | n+1,c=>by
  show Ze6 (3*n+3+1) (if Zj R c=Z 0 then Zfb else _)=ZEN;split
  ·rfl
  ·unfold ZcL
   split
   ·refine ZzR.mpr λx hx=>?_
    rcases ZzK.mp hx with e | hx
    ·rw[e]; rfl
    ·rcases ZzK.mp hx with e | hx
     ·rw[e]; rfl
     ·rw[ZzF.mp hx]
      exact Zlg _ _ _ (by omega) (ZlX wf R n _)
   ·refine ZzR.mpr λx hx=>?_
    rcases ZzK.mp hx with e | hx
    ·rw[e]; rfl
    ·rcases ZzK.mp hx with e | hx
     ·rw[e]; rfl
     ·rw[ZzF.mp hx]
      refine ZzR.mpr λx hx=>?_;obtain⟨q,_,rfl⟩:=ZzI.mp hx;refine ZzR.mpr λx hx=>?_;rcases ZzK.mp hx with e | hx
      ·rw[e]; rfl
      ·rw[ZzF.mp hx]
       exact ZlX wf R n _
theorem ZmY(wf:Wf)(R:Tb):∀(n:Nat) (c:List Int),(ZhV wf R n c).canLay0=ZEN
 | 0,c=>by show Zfb.canLay0=ZEN; decide +kernel
 | n+1,c=>by
  show(if Zj R c=Z 0 then Zfb else _:D).canLay0=ZEN;split
  ·decide +kernel
  ·unfold ZcL
   split
   ·exact ZcB λx hx=>by
     rcases ZzK.mp hx with e | hx
     ·rw[e]; decide +kernel
     ·rcases ZzK.mp hx with e | hx
      ·rw[e]; rfl
      ·rw[ZzF.mp hx]; exact ZmY wf R n _
   ·exact ZcB λx hx=>by
     rcases ZzK.mp hx with e | hx
     ·rw[e]; decide +kernel
     ·rcases ZzK.mp hx with e | hx
      ·rw[e]; rfl
      ·rw[ZzF.mp hx]
       exact ZcB λx hx=>by
        obtain⟨q,_,rfl⟩:=ZzI.mp hx;exact ZcB λx hx=>by
         rcases ZzK.mp hx with e | hx
         ·rw[e]; rfl
         ·rw[ZzF.mp hx]; exact ZmY wf R n _
section
variable{w:Wk}{wf:Wf}{L:List (List Int)}{R:Tb}(G:Gd wf L)(F:Zkj w wf L R)(nd:(R.map (·.1)).Nodup)(up:(R.map (·.2)).Pairwise (·<=·))
include G F
theorem Zqq{k:Int}(hk:Zj R c=Z k)(h0:k≠0):c∈L/\Zew wf R c∈wf c/\cbP (Zew wf R c) R=Z k/\(wf c).find? (λy=>cbP y R==Z k)=Z (Zew wf R c)/\ZaN cbP (wf c) R=Z k/\(∀q∈wyP (Zew wf R c),∃j,Zj R q=Z j/\j<k)/\(Zew wf R c).2≠[]:=by
 obtain⟨hc,n,rfl,hb,hmin⟩:=F.tab.ok c k hk;have hw:∃y∈wf c,cbP y R=Z (n:Int):=by
  cases hb with
  | there h=>exact absurd (.there h) (hmin 0 (by omega))
  | @way m j _ y hy hj h1 hp =>
   obtain⟨v,hv,hle⟩:=Zkp (M:=R) (n:=(m:Int)) (G.ne c hc y hy) λq hq=>by have hh:=F.all q (G.cl c hc y hy q hq) m (hp q hq);unfold ZA at hh;obtain⟨v,hv⟩:=ZAd.mp hh;obtain⟨_,i,rfl,hl⟩:=F.tab.ok q v hv;have:=hl.min (hp q hq);exact⟨_,hv,by omega⟩
   refine⟨y,hy,?_⟩;have e:cbP y R=Z (v+prY y):=by unfold cbP; rw[hv]; rfl
   obtain⟨i,ei,hbi⟩:=ZoK F.tab hc hy G e;rw[e];have:¬i<m+j:=λz=>hmin i z hbi;congr 1;omega
 obtain⟨y,hy,hcb⟩:=hw;have hge:∀z∈wf c,∀v,cbP z R=Z v->(n:Int)<=v:=λz hz v hv=>by obtain⟨i,rfl,hbi⟩:=ZoK F.tab hc hz G hv;have:¬i<n:=λq=>hmin i q hbi;omega
 have hf:∃z,(wf c).find? (λy=>cbP y R==Z (n:Int))=Z z:=by
  cases hq:(wf c).find? (λy=>cbP y R==Z (n:Int))with
  | some z=>exact⟨z,rfl⟩
  | none=>have:=List.find?_eq_none.mp hq y hy;rw[hcb]at this;exact absurd (beq_self_eq_true _) this
 obtain⟨z,hz⟩:=hf;have e:Zew wf R c=z:=by unfold Zew;rw[hk,hz];rfl
 rw[e];have hz1:=ZDO hz;have hz2:cbP z R=Z (n:Int):=by simpa using List.find?_some hz
 refine⟨hc,hz1,hz2,hz,?_,λq hq=>?_,λq=>?_⟩
 ·cases hm:ZaN cbP (wf c) R with
  | none=>unfold ZaN at hm;rw[ZCm]at hm;have:(n:Int)∈(wf c).filterMap λy=>cbP y R:=ZAu.mpr ⟨y,hy,hcb⟩;rw[hm]at this;cases this
  | some k=>obtain⟨⟨y',hy',h1⟩,h2⟩:=ZfU hm;have:=h2 y hy _ hcb;have:=hge y' hy' _ h1;congr 1;omega
 ·unfold cbP at hz2
  obtain⟨m,hm,e2⟩:=Zzy.mp hz2;obtain⟨_,hall⟩:=Zku hm;obtain⟨v,hv,hle⟩:=hall q hq;obtain⟨j,hj,h1⟩:=G.pr c hc z hz1;exact⟨v,hv,by omega⟩
 ·refine G.ne c hc z hz1 ?_
  unfold wyP;rw[q];rfl
include nd up
theorem Zjb:∀(n m:Nat) (pre post:List (List Int)) (c:List Int),R.map (·.1)=pre++c::post->pre.length<n->pre.length<m->ZhV wf R n c=ZhV wf R m c
 | 0,_,_,_,_,_,h,_=>by omega
 | _+1,0,_,_,_,_,_,h=>by omega
 | n+1,m+1,pre,post,c,e,h1,h2=>by
  show(if Zj R c=Z 0 then Zfb else _)=if Zj R c=Z 0 then Zfb else _
  by_cases h0:Zj R c=Z 0
  ·rw[if_pos h0,if_pos h0]
  ·rw[if_neg h0,if_neg h0]
   have hh:=(Zf2 R c).mpr (by rw[e]; exact ZzX _ (ZzB ..));unfold ZA at hh;obtain⟨k,hk⟩:=ZAd.mp hh;obtain⟨_,_,_,_,_,hp,hne⟩:=Zqq G F hk λz=>h0 (by rw[hk,z]);refine ZpD hne λq hq=>?_;obtain⟨j,hj,hl⟩:=hp q hq;obtain⟨A,B,rfl⟩:=List.append_of_mem (Zp1 nd up e hk hj hl);rw[ZzM,ZzS]at h1 h2;exact Zjb n m A (B++c::post) q (by rw[e]; simp) (by omega) (by omega)
theorem ZnX{k:Int}(hk:Zj R c=Z k):Zez wf R c=if k=0 then Zfb else ZcL (Zez wf R) (Zew wf R c):=by
 have hm:c∈R.map (·.1):=(Zf2 R c).mp (by unfold ZA; rw[hk]; rfl);obtain⟨A,B,e⟩:=List.append_of_mem hm;have hl:R.length=A.length+(B.length+1):=by have:=congrArg ZAg e;rw[Zzw,ZzM,ZzS]at this;exact this
 have:=Zjb G F nd up R.length (R.length+1) A B c e (by omega) (by omega);unfold Zez;rw[this];show(if Zj R c=Z 0 then Zfb else ZcL (ZhV wf R R.length) (Zew wf R c))=_;rw[hk]
 by_cases h0:k=0
 ·rw[if_pos h0,if_pos (by rw[h0])]
 ·rw[if_neg h0,if_neg λz=>h0 (ZAl z)]
end
end HG24
namespace HG24
open PySem HM
open HG
open HG4
open HG5
open HG6
open HG23
variable{c:List Int}{w:Wk}
theorem ZtP{l:Int}{q:List Int × List Int}(h:q∈ZR w [l] c):∃t,q.1=[t]:=by unfold ZR at h;obtain⟨k,hk,rfl⟩:=ZzI.mp h;have hg:=Zf0 (ZL w [l]) c;obtain⟨s,_,e⟩:=ZzI.mp ((hg.mem _).mp ((Zdy _).mem_iff.mp hk));exact⟨Zlr w l s,e.symm⟩
theorem ZlL{p:Pr}(hc:c≠[]){y:Wy}(hy:y∈wfB w p c){S:List Int->D}{P:List (List Int)}(hl:y.2.length<1000)(h:∀q∈wyP y,q∈P):Za3 [wyD y,.dict (Zg (ZW S P))]=Z (ZcL S y):=by
 have hp:Zdq [.list (y.2.map Zak),.dict (Zg (ZW S P))]=Z (Zc6 S y.2):=Zq3 (by omega) h;show ZH (ZbY [Z (.pl (wyD y)),Z (.pl (.dict (Zg (ZW S P)))),Z_])=_;unfold ZbY;refine ZV (P:=λq=>ZH q=_) (r':=[Z (.pl (wyD y)),Z (.pl (.dict (Zg (ZW S P)))),Z (.pl (Zc6 S y.2))]) ?_ ?_
 ·unfold Zae Zk
  show ZBv _ (Zdq [.list (y.2.map Zak),.dict (Zg (ZW S P))])=_;rw[hp];rfl
 rcases ZfZ hy with⟨d,hd,rfl⟩ | ⟨l,hl',rfl,h1⟩
 ·have hg:gEq doS doS=Z (.bool ZEN):=by
   unfold gEq;rw[show Za6 doS=ZEN by decide +kernel,show ZAV doS doS=ZEN by decide +kernel];rfl
  have hne:ZR w [] (ZbK w c d)≠[]:=λz=>ZnQ (w:=w) (ls:=[]) (ZsO hc (ZdU hd).2.2) (by unfold Zcz; rw[z]; rfl);rw[Zt6];show ZH (Zu (sIf _ _ _) _ [Z (.pl (wyD (doY w p c d))),Z (.pl (.dict (Zg (ZW S P)))),Z (.pl (Zc6 S (ZR w [] (ZbK w c d))))])=_;have ht:tV (op2 gEq (eIx (bOf (eIx (Zn 0) (eC (.int 0)))) (eC (.int 0))) (eC (.str (Zz1 "do")))) [Z (.pl (wyD (doY w p c d))),Z (.pl (.dict (Zg (ZW S P)))),Z (.pl (Zc6 S (ZR w [] (ZbK w c d))))]=Z ZEN:=Zrq rfl rfl hg;cases hs:ZR w [] (ZbK w c d)with
  | nil=>exact absurd hs hne
  | cons q g =>
   rw[hs]at ht;have e1:eIx (bOf (eIx (Zn 0) (eC (.int 0)))) (eC (.int 1)) [Z (.pl (wyD (doY w p c d))),Z (.pl (.dict (Zg (ZW S P)))),Z (.pl (Zc6 S (q::g)))]=Z (dI d):=rfl;have e2:eIx (bOf (eIx (Zn 2) (eC (.int 0)))) (eC (.int 1)) [Z (.pl (wyD (doY w p c d))),Z (.pl (.dict (Zg (ZW S P)))),Z (.pl (Zc6 S (q::g)))]=Z (S q.2):=by have e0:eIx (Zn 2) (eC (.int 0)) [Z (.pl (wyD (doY w p c d))),Z (.pl (.dict (Zg (ZW S P)))),Z (.pl (Zc6 S (q::g)))]=Z (.tuple [tupI q.1,S q.2]):=ZxN _ _;generalize eIx (Zn 2) (eC (.int 0))=E0 at e0 ⊢;simp[e0]
   unfold Zu sIf;rw[ht];generalize eIx (bOf (eIx (Zn 0) (eC (.int 0)))) (eC (.int 1))=E1 at e1 ⊢;generalize eIx (bOf (eIx (Zn 2) (eC (.int 0)))) (eC (.int 1))=E2 at e2 ⊢;simp[e1,e2,ZH]
 ·have hg:gEq ZjC doS=Z (.bool ZEO):=by
   unfold gEq;rw[show Za6 doS=ZEN by decide +kernel,show Za6 ZjC=ZEN by decide +kernel,show ZAV ZjC doS=ZEO by decide +kernel];rfl
  rw[Zrw];show ZH (Zu (sIf _ _ _) _ [Z (.pl (wyD (ZaP w p c l))),Z (.pl (.dict (Zg (ZW S P)))),Z (.pl (Zc6 S (ZR w [l] c)))])=_;have ht:tV (op2 gEq (eIx (bOf (eIx (Zn 0) (eC (.int 0)))) (eC (.int 0))) (eC (.str (Zz1 "do")))) [Z (.pl (wyD (ZaP w p c l))),Z (.pl (.dict (Zg (ZW S P)))),Z (.pl (Zc6 S (ZR w [l] c)))]=Z ZEO:=Zrq rfl rfl hg;have hl2:(ZR w [l] c).length<1000:=hl;have e:=Zfk (c:=ZS) (e:=ZC (Za (eIx (Zn 0) (eC (.int 0))) (Za (Zc 1) Ze))) (r:=[Z (.pl (wyD (ZaP w p c l))),Z (.pl (.dict (Zg (ZW S P)))),Z (.pl (Zc6 S (ZR w [l] c)))]) (λq:List Int × List Int=>tupI q.1) (λq=>S q.2) (λ_=>ZEN) (λq=>Zz7 [dI (q.1.headD 0),S q.2]) (ZR w [l] c) (λ_ _=>rfl) λq hq _=>by obtain⟨t,et⟩:=ZtP hq;rw[et];rfl
  rw[ZBh.mpr λ_ _=>rfl]at e;have hf:ZbH (Zad (bOf (Zc 2))) ZS (ZC (Za (eIx (Zn 0) (eC (.int 0))) (Za (Zc 1) Ze))) [Z (.pl (wyD (ZaP w p c l))),Z (.pl (.dict (Zg (ZW S P)))),Z (.pl (Zc6 S (ZR w [l] c)))]=Z (.ol ((ZR w [l] c).map λq=>Zz7 [dI (q.1.headD 0),S q.2])):=by unfold ZbH;show(if((ZR w [l] c).map λq=>Zz7 [tupI q.1,S q.2]).length<big then _ else Z_)=_;rw[if_pos (by rw[Zzw]; show _<1000000; omega)];refine(congrArg (ZBv _) e).trans ?_;rfl
  have hv:Zah (ZbH (Zad (bOf (Zc 2))) ZS (ZC (Za (eIx (Zn 0) (eC (.int 0))) (Za (Zc 1) Ze)))) [Z (.pl (wyD (ZaP w p c l))),Z (.pl (.dict (Zg (ZW S P)))),Z (.pl (Zc6 S (ZR w [l] c)))]=Z (Zjw S (ZR w [l] c)):=by unfold Zah;rw[hf];rfl
  unfold Zu sIf;rw[ht];generalize Zah (ZbH (Zad (bOf (Zc 2))) ZS (ZC (Za (eIx (Zn 0) (eC (.int 0))) (Za (Zc 1) Ze))))=E at hv ⊢;have e1:eIx (bOf (eIx (Zn 0) (eC (.int 0)))) (eC (.int 1)) [Z (.pl (wyD (ZaP w p c l))),Z (.pl (.dict (Zg (ZW S P)))),Z (.pl (Zc6 S (ZR w [l] c)))]=Z (dI l):=rfl;generalize eIx (bOf (eIx (Zn 0) (eC (.int 0)))) (eC (.int 1))=E1 at e1 ⊢;simp[e1,hv,ZH]
end HG24
namespace HG24
open PySem HM
open HG
open HG4
open HG5
open HG6
open HG23
variable{L:List (List Int)}{p:Pr}{R:Tb}{w:Wk}
structure Tbl(w:Wk)(p:Pr)(L:List (List Int))(R:Tb):Prop where
 g:Gd (wfB w p) L
 f:Zkj w (wfB w p) L R
 cr:∀c∈L,OkC w c
 nd:(R.map (·.1)).Nodup
 up:(R.map (·.2)).Pairwise (·<=·)
 bl:w.beg∈L
theorem Tbl.keys(T:Tbl w p L R){c:List Int}(h:c∈R.map (·.1)):OkC w c:=by have hh:=(Zf2 R c).mpr h;unfold ZA at hh;obtain⟨k,hk⟩:=ZAd.mp hh;exact T.cr c (T.f.tab.ok c k hk).1
theorem Tbl.len(T:Tbl w p L R):R.length<=2 ^ w.many:=by
 have:=Zk5 T.nd λc hc=>(T.keys hc).1
 rwa [Zzw]at this
section
variable{w:Wk}(hv:Wk.V w)(h7:w.many<=7){p:Pr}(hp:p.V w)
include hv h7 hp
theorem ZnS{ap:AP}(p5:∀ds,ap 5 [] ds=ZcT ds)(l6:∀cs ds,ap 6 cs ds=ZfP 1 2 (Zk Zam (Za (Zc 1) (Za (Zc 2) (Za (Zc 0) Ze)))) cs ds)(A7:∀ds,ap 7 [] ds=Za3 ds):∃L R,Tbl w p L R/\Za0 ap [w.d,p.d]=Z (if ZA R w.beg then Zez (wfB w p) R w.beg else .none):=by
 have O:=ZoS hv h7 (p:=p);obtain⟨L,e1,J⟩:=Zmt hv h7 hp l6;have cl:ZjE (wfB w p) L:=λc hc y hy q hq=>(J.cl c hc y hy q hq).elim id λz=>by simp at z
 have G:=gdB hp cl λc hc=>(J.cr c hc).2;have hbl:w.beg∈L:=(J.bg w.beg (ZzF.mpr rfl)).elim id λz=>by simp at z
 have hpb:∀c∈L,∀y∈wfB w p c,∀M:Tb,ap 5 [] [wyD y,.dict (Zg (encM M))]=Z (oI (cbP y M)):=λc hc y hy M=>by
  rw[p5];refine Zj0 (by have:=O.ps c (J.cr c hc) y hy; omega) (λz=>?_) ?_ M
  ·refine G.ne c hc y hy ?_
   unfold wyP;rw[z];rfl
  ·obtain⟨a,b,k,h,_⟩:=Zi1 hy
   exact⟨a,b,k,h⟩
 obtain⟨R,e2,r⟩:=Zj4 hv (ap:=ap) (wf:=wfB w p) (t:=5) (cs:=[]) (cb:=cbP) J.nd (O.cs L J.nd J.cr) (λc hc=>(J.cr c hc).1) (λc hc=>by have:=O.ys c (J.cr c hc); omega) hpb;have F:=Zmd G r;obtain⟨nd,up⟩:=Zw8 G J.nd r ZBc (J.nd.filter _) (λc hc=>⟨(ZAA.mp hc).1,by simp⟩) .nil (λv hv=>by simp at hv) λj hj x hx _ y hy v hv=>by
  unfold cbP ZcE at hv;rw[if_neg]at hv
  ·cases hv
  ·intro h
   obtain⟨q,hq⟩:=ZCz _ (G.ne x hx y hy);have:=ZzR.mp h q hq;cases this
 have T:Tbl w p L R:=⟨G,F,J.cr,nd,up,hbl⟩;have hRl:R.length<=128:=by have h1:=T.len;have h2:2 ^ w.many<=2 ^ 7:=Nat.pow_le_pow_right (by decide) h7;have h3:2 ^ 7=128:=rfl;omega
 have hto:∀c,Ze6 400 (Zez (wfB w p) R c)=ZEN:=λc=>Zlg _ _ _ (by omega) (ZlX (wfB w p) R R.length c);have hst:=Zsl (ap:=ap) (wf:=wfB w p) (cb:=cbP) (L:=L) (M:=R) (t:=5) (u:=7) (S:=Zez (wfB w p) R) nd (λc hc=>by rw[ZnX G F nd up hc,if_pos rfl]) (λpre c post k e hk h0=>by obtain⟨hc,h1,h2,h3,h4,h5,h6⟩:=Zqq G F hk h0;refine⟨hc,by have:=O.ys c (J.cr c hc); omega,λy hy=>hpb c hc y hy R,k,Zew (wfB w p) R c,h4,h3,?_,hto c⟩;rw[A7,ZlL (J.cr c hc).2 h1 (by have:=O.ps c (J.cr c hc) _ h1; omega) λq hq=>by obtain⟨j,hj,hl⟩:=h5 q hq;exact Zp1 nd up e hk hj hl,ZnX G F nd up hk,if_neg h0]) (by omega);refine⟨L,R,T,?_⟩;have hc1:=ZfN hv;have hc2:=ZfH hv hp;have hb:=Zhe w;show ZH (Zbv ap [Z (.pl w.d),Z (.pl p.d),Z_,Z_])=_;unfold Zbv;refine ZV (P:=λq=>ZH q=_) (r':=[Z (.pl w.d),Z (.pl p.d),Z_,Z_]) (by simp[hc1]) ?_;refine ZV (P:=λq=>ZH q=_) (r':=[Z (.pl w.d),Z (.pl p.d),Z_,Z_]) (by simp[hc2]) ?_;refine ZV (P:=λq=>ZH q=_) (r':=[Z (.pl w.d),Z (.pl p.d),Z (.pl (.dict (Zg (Zp (wfB w p) L)))),Z_]) (by simp[e1]) ?_;refine ZV (P:=λq=>ZH q=_) (r':=[Z (.pl w.d),Z (.pl p.d),Z (.pl (.dict (Zg (Zp (wfB w p) L)))),Z (.pl (.dict (Zg (encM R))))]) (by simp[e2]) ?_;have hk:Zbp (tupI w.beg)=Z (Z7 w.beg):=Zbk w.beg;have hlk:=Zl9 (Zez (wfB w p) R) (R.map (·.1)) w.beg;have hm:=Zf2 R w.beg;simp only[ZB,ZiX,bOf,Zk,Za,Ze,Zc,eC];simp[hst,hb,dec_enc,hk,hlk]
 by_cases h:w.beg∈R.map (·.1)
 ·rw[hm.mpr h]
  simp at h;simp[h,ZH]
 ·have:ZA R w.beg=ZEO:=by
   cases q:ZA R w.beg with
   | false=>rfl
   | true=>exact absurd (hm.mp q) h
  rw[this];simp at h;simp[h,ZH]
end
end HG24
namespace HG24
open PySem HM
open HG
open HG4
open HG5
open HG6
open HG23
end HG24
namespace HG24
open PySem HM
open HG
open HG4
open HG5
open HG6
open HG23
section
variable{w:Wk}(hv:Wk.V w)(h7:w.many<=7){p:Pr}(hp:p.V w){L:List (List Int)}{R:Tb}(T:Tbl w p L R)
include T
theorem Zo7(c:List Int):∃ds,Zez (wfB w p) R c=.tuple ds:=by
 unfold Zez;cases R.length with
 | zero=>exact⟨_,rfl⟩
 | succ n =>
  show ∃ds,(if Zj R c=Z 0 then Zfb else ZcL _ _)=.tuple ds;split
  ·exact⟨_,rfl⟩
  ·unfold ZcL
   split
   ·exact⟨_,rfl⟩
   ·exact⟨_,rfl⟩
include hv h7 hp
end
end HG24
namespace HG25
open PySem HM
open HG
open HG4
open HG5
open HG6
open HG23
open HG24 (Za3 ZbY Za0 Zbv)
def Zv:List D->Option Str:=Zkz 2 2
 (Zev (rIf (ZcZ (tV (Zk Z6 (Za (Zc 1) (Za (eC (.int 2)) (Za (eC (.int 2)) Ze)))))) (Zjh "BadPrices" (Za (eC (.str (Zz1 "prices are a tuple of two tuples"))) Ze)) rNo) (sIf (ZcZ (tV (Zk Z6 (Za (Zc 1) (Za (eC (.int 2)) (Za (eC (.int 2)) Ze)))))) Zi6 ZaY)
  (rIf (tOr (ZcZ (tV (Zk ZE (Za (eIx (Zn 1) (eC (.int 0))) (Za (Za2 (bOf (Zk Zaz (Za (Zc 0) Ze)))) Ze))))) (ZcZ (tV (Zk ZE (Za (eIx (Zn 1) (eC (.int 1))) (Za (Za2 (bOf (Zk Zby (Za (Zc 0) Ze)))) Ze)))))) (Zjh "BadPrices" (Za (eC (.str (Zz1 "a deed or a look has no price from 1 to 20"))) Ze)) rNo))
def ZaK:List D->Option Str:=Zkz 2 3
 (Zev rNo (ZhX (Zk Zbc (Za (Zc 0) Ze)))
  (ZfO Zv (Za (Zc 0) (Za (Zc 1) Ze))))
def Z0:List D->Option Str:=Zkz 2 4
 (Zev rNo (ZhX (Zk Zbc (Za (Zc 0) Ze)))
  (ZfO Zv (Za (Zc 0) (Za (Zc 1) Ze))))
def ZbB(ap:AP):SF :=
 (ZoG (Zev (rIf (tV (op2 gEq (Zc 0) (eC (.int 0)))) (ZfO ZaK (Za (Zc 1) (Za (Zc 2) Ze))) rNo) (sIf (tV (op2 gEq (Zc 0) (eC (.int 0)))) (ZB (Zk (ZdF ap) (Za (Zc 1) (Za (Zc 2) Ze)))) ZaY)
  (ZfO Z0 (Za (Zc 1) (Za (Zc 2) Ze)))) (hdT "BadPrices") (Zu (sIf (tV (op2 gEq (Zc 0) (eC (.int 0)))) (ZB (Zk (ZdF ap) (Za (Zc 1) (Za (Zc 2) Ze)))) ZaY)
  (ZB (Zk (Za0 ap) (Za (Zc 1) (Za (Zc 2) Ze))))))
def ZZ(ap:AP):List D->Option D:=fnOf 3 4 (ZbB ap)
def Zdr(ap:AP):SF :=
 (sIf (tV (op2 Zg9 (Zk (ZZ ap) (Za (Zc 4) (Za (Zc 1) (Za (ZC (Za (Zc 2) (Za (Zc 3) Ze))) Ze)))) (eOf (ZbV (Za (eC (.bool ZEN)) (Za (eC (.bool ZEN)) Ze)))))) (ZB (eC (.bool ZEO))) ZaY)
def Znf(ap:AP):SF :=
 (Zu (Zae 1 (Zk Zbd (Za (Zc 0) (Za (eC (.int 2)) Ze))))
  (Zu (Zae 2 (Zjy (ZC (Za (eC (.int 1)) Ze)) (Za2 (bOf (eIx (Zn 1) (eC (.int 1)))))))
  (Zu (Zae 3 (Zjy (ZC (Za (eC (.int 20)) Ze)) (Za2 (bOf (eIx (Zn 1) (eC (.int 2)))))))
  (Zu (Zbx 4 (ZbL (eC (.int 2))) (Zdr ap))
  (Zu (ZU 5 (ZbV (Za (eC .none) (Za (eOf (ZbV (Za (Zc 2) (Za (Zc 3) Ze)))) (Za (ZC (Za (Zc 2) Ze)) (Za (ZC (Za (Zc 2) (Za (Zc 3) (Za (ZC Ze) Ze)))) (Za (ZC (Za (eOf (Zf1 (Zn 2))) (Za (Zc 3) Ze))) Ze)))))))
  (Zu (ZU 5 (Zjk (Zn 5) (ZbV (Za (ZC (Za (Zc 2) (Za (eOf (Zf1 (Zn 3))) Ze))) (Za (ZC (Za (ZaU (Zc 2) (ZC (Za (eC (.int 1)) Ze))) (Za (Zc 3) Ze))) Ze)))))
  (Zu (ZU 5 (Zjk (Zn 5) (ZbV (Za (ZC (Za (Zc 2) (Za (ZaU (Zc 3) (ZC (Za (eC (.int 1)) Ze))) Ze))) (Za (ZC (Za (Zb6 (Zc 2) (Z (eC (.int 1))) Z_) (Za (Zc 3) Ze))) (Za (ZC (Za (ZaU (Zb6 (Zc 2) (Z (eC (.int 1))) Z_) (ZC (Za (eC (.int 0)) Ze))) (Za (Zc 3) Ze))) Ze))))))
  (Zu (ZU 5 (Zjk (Zn 5) (ZbV (Za (ZC (Za (ZaU (Zb6 (Zc 2) (Z (eC (.int 1))) Z_) (ZC (Za (eC (.int 21)) Ze))) (Za (Zc 3) Ze))) Ze))))
  (Zu (ZU 5 (Zjk (Zn 5) (ZbV (Za (ZC (Za (ZaU (Zb6 (Zc 2) (Z (eC (.int 1))) Z_) (ZC (Za (eC (.bool ZEN)) Ze))) (Za (Zc 3) Ze))) (Za (ZC (Za (ZaU (Zb6 (Zc 2) (Z (eC (.int 1))) Z_) (ZC (Za (eC (.str (Zz1 "1"))) Ze))) (Za (Zc 3) Ze))) (Za (ZC (Za (ZaU (Zb6 (Zc 2) (Z (eC (.int 1))) Z_) (ZC (Za (eC .none) Ze))) (Za (Zc 3) Ze))) Ze))))))
  (Zu (Zae 6 (eIx (Zn 5) (op2 Zko (Zk ZY (Za (Zc 0) (Za (eC (.int 0)) Ze))) (eC (.int 14)))))
  (ZB (op2 gEq (eOf (ZF (ZbL (eC (.int 2))) (tV (op2 ZhW (Zk (ZZ ap) (Za (Zc 0) (Za (Zc 2) (Za (Zc 7) Ze)))) (eOf (ZbV (Za (eC (.bool ZEN)) (Za (eC (.bool ZEN)) Ze)))))) (Zc 0))) (eOf (ZbV Ze))))))))))))))
def Zf9(ap:AP):List D->Option D:=fnOf 1 7 (Znf ap)
def ap:AP:=λt cs ds=>match t with
 | 0=>if cs.isEmpty then ZjX ds else Z_
 | 1=>ZfP 1 2 (Zk Zbe (Za (Zc 1) (Za (Zc 2) (Za (Zc 0) Ze)))) cs ds
 | 5=>if cs.isEmpty then ZcT ds else Z_
 | 6=>ZfP 1 2 (Zk Zam (Za (Zc 1) (Za (Zc 2) (Za (Zc 0) Ze)))) cs ds
 | 7=>if cs.isEmpty then Za3 ds else Z_
 | _=>Z_
end HG25
namespace HG25
open PySem HM
open HG
open HG4
open HG5
open HG6
open HG23
open HG24 (Za3 ZbY Za0 Zbv ZnS Zez ZmY Zo7)
variable{b:D}{p:Pr}
abbrev tt:D:=.list [.bool ZEN,.bool ZEN]
abbrev bad:Str:="BadPrices"
theorem Zzc:ApB ap:=⟨⟨λ_=>rfl,λ_ _=>rfl⟩,λ_=>rfl,λ_ _=>rfl⟩
theorem ZvN{ds:List D}(hn:∀d∈ds,ndD d)(hl:ds.length<1000)(n:Int):ZE [.tuple ds,.int n]=Z (.bool (ZbT (.tuple ds) n n&&ds.all λd=>Zcj d 1 20)):=by
 have h1:=Zbn (.tuple ds) n n;have hb:ds.length<1000000:=by omega
 have hc:Zan ZS (Zk Zab (Za (Zc 0) (Za (eC (.int 1)) (Za (eC (.int 20)) Ze)))) [Z (.pl (.tuple ds)),Z (.pl (.int n))] ds=Z (ds.map λd=>.bool (Zcj d 1 20)):=by
  have:=Zbg (e:=Zk Zab (Za (Zc 0) (Za (eC (.int 1)) (Za (eC (.int 20)) Ze)))) (r:=[Z (.pl (.tuple ds)),Z (.pl (.int n))]) id (λd=>ZAK (Zcj d 1 20)) ds λd hd=>Zdi d 1 20 (hn d hd)
  rwa [List.map_id]at this
 have hbs:ZdG (ds.map λd=>ZAK (Zcj d 1 20))=Z (ds.map λd=>Zcj d 1 20):=Zo3 ds λd=>Zcj d 1 20;cases q:ZbT (.tuple ds) n n with
 | false=>rw[q]at h1; simp[ZE,Zcc,h1]
 | true =>
  rw[q]at h1;have ha:(ds.map λd=>Zcj d 1 20).all id=ds.all λd=>Zcj d 1 20:=by rw[ZEK]; rfl
  simp only[ZE,Zcc];simp[h1,hb,hc,hbs,ha]
theorem ZoU(ds:List D)(n:Int):ZE [.list ds,.int n]=Z (.bool ZEO):=by have h1:=Zbn (.list ds) n n;have h2:ZbT (.list ds) n n=ZEO:=rfl;rw[h2]at h1;simp[ZE,Zcc,h1]
theorem Zgv(n:Nat)(g:RF)(a b:D):Zkz 2 n g [a,b]=g (Zdm n [a,b]):=if_pos rfl
section
variable{w:Wk}
theorem Zk1(nd:ndD b)(h:ZbT b 2 2=ZEO):Zv [w.d,b]=Z bad:=by have h1:=Zbn b 2 2 nd;rw[h]at h1;unfold Zv;rw[Zgv];show Zev _ _ _ [Z (.pl w.d),Z (.pl b)]=_;simp[h1]
theorem Zf4{x y:D}{b1 b2:Bool}(h1:ZE [x,.int w.deeds.length]=Z (.bool b1))(h2:b1=ZEN->ZE [y,.int w.looks.length]=Z (.bool b2))(h:b1=ZEN->b2=ZEO):Zv [w.d,.tuple [x,y]]=Z bad:=by
 have h0:=Zbn (.tuple [x,y]) 2 2;have hr:ZbT (.tuple [x,y]) 2 2=ZEN:=rfl;rw[hr]at h0;have a0:eIx (Zn 1) (eC (.int 0)) [Z (.pl w.d),Z (.pl (.tuple [x,y]))]=Z x:=rfl;have a1:eIx (Zn 1) (eC (.int 1)) [Z (.pl w.d),Z (.pl (.tuple [x,y]))]=Z y:=rfl;unfold Zv;rw[Zgv];show Zev _ _ _ [Z (.pl w.d),Z (.pl (.tuple [x,y]))]=_;generalize eIx (Zn 1) (eC (.int 0))=E0 at a0 ⊢;generalize eIx (Zn 1) (eC (.int 1))=E1 at a1 ⊢;cases b1 with
 | false=>simp[h0,a0,a1,Zci,ZdH,h1]
 | true=>have h2:=h2 rfl;rw[h rfl]at h2;simp[h0,a0,a1,Zci,ZdH,h1,h2]
theorem ZuO(hv:Wk.V w)(hp:p.V w):Zv [w.d,p.d]=Z_:=by have h0:=Zbn p.d 2 2;have hr:ZbT p.d 2 2=ZEN:=rfl;rw[hr]at h0;have h2:=Zfo hp hp.db (by rw[hp.dl]; have:=hv.d2; omega);have h3:=Zfo hp hp.lb (by rw[hp.ll]; have:=hv.l2; omega);rw[hp.dl]at h2;rw[hp.ll]at h3;have a0:eIx (Zn 1) (eC (.int 0)) [Z (.pl w.d),Z (.pl p.d)]=Z (tupI p.ds):=rfl;have a1:eIx (Zn 1) (eC (.int 1)) [Z (.pl w.d),Z (.pl p.d)]=Z (tupI p.ls):=rfl;unfold Zv;rw[Zgv];show Zev _ _ _ [Z (.pl w.d),Z (.pl p.d)]=_;generalize eIx (Zn 1) (eC (.int 0))=E0 at a0 ⊢;generalize eIx (Zn 1) (eC (.int 1))=E1 at a1 ⊢;simp[h0,a0,a1,Zci,ZdH,h2,h3]
theorem Ztw(hv:Wk.V w)(h:Zv [w.d,b]=Z bad):ZZ ap [.int 0,w.d,b]=Z tt/\ZZ ap [.int 1,w.d,b]=Z tt:=by
 have hc:=ZfN hv;have h1:ZaK [w.d,b]=Z bad:=by unfold ZaK;rw[Zgv];show Zev _ _ _ [Z (.pl w.d),Z (.pl b),Z_]=_;simp[hc,h]
 have h2:Z0 [w.d,b]=Z bad:=by unfold Z0;rw[Zgv];show Zev _ _ _ [Z (.pl w.d),Z (.pl b),Z_,Z_]=_;simp[hc,h]
 have hd:hdT bad bad=Z tt:=rfl
 constructor
 ·show ZH (ZbB ap [Z (.pl (.int 0)),Z (.pl w.d),Z (.pl b),Z_])=_
  have e:gEq (.int 0) (.int 0)=Z (.bool ZEN):=ZeR (Zbs 0 0) (by decide);unfold ZbB;have ht:tV (op2 gEq (Zc 0) (eC (.int 0))) [Z (.pl (.int 0)),Z (.pl w.d),Z (.pl b),Z_]=Z ZEN:=by unfold tV op2;show(match gEq (.int 0) (.int 0)with | some (.bool b)=>Z b | _=>Z_)=_;rw[e]
  generalize tV (op2 gEq (Zc 0) (eC (.int 0)))=E at ht ⊢;simp[ht,h1,hd,ZH]
 ·show ZH (ZbB ap [Z (.pl (.int 1)),Z (.pl w.d),Z (.pl b),Z_])=_
  have e:gEq (.int 1) (.int 0)=Z (.bool ZEO):=Zgw (Zbs 0 1) (Zbs 0 0) (by decide) (by decide) (by simp);unfold ZbB;have ht:tV (op2 gEq (Zc 0) (eC (.int 0))) [Z (.pl (.int 1)),Z (.pl w.d),Z (.pl b),Z_]=Z ZEO:=by unfold tV op2;show(match gEq (.int 1) (.int 0)with | some (.bool b)=>Z b | _=>Z_)=_;rw[e]
  generalize tV (op2 gEq (Zc 0) (eC (.int 0)))=E at ht ⊢;simp[ht,h2,hd,ZH]
theorem Zlq{d:D}(hl:d.canLay0=ZEN)(h:ZAV d tt=ZEO):Zg9 d tt=Z (.bool ZEO):=by
 have hp:Za6 tt=ZEN:=by decide +kernel
 unfold Zg9;rw[hl,hp,h];rfl
theorem Zr1(hv:Wk.V w)(h7:w.many<=7)(hp:p.V w):(∃d,ZZ ap [.int 0,w.d,p.d]=Z d/\Zg9 d tt=Z (.bool ZEO))/\∃d,ZZ ap [.int 1,w.d,p.d]=Z d/\Zg9 d tt=Z (.bool ZEO):=by
 have hc:=ZfN hv;have hz:=ZuO hv hp;have h1:ZaK [w.d,p.d]=Z_:=by unfold ZaK;rw[Zgv];show Zev _ _ _ [Z (.pl w.d),Z (.pl p.d),Z_]=_;simp[hc,hz]
 have h2:Z0 [w.d,p.d]=Z_:=by unfold Z0;rw[Zgv];show Zev _ _ _ [Z (.pl w.d),Z (.pl p.d),Z_,Z_]=_;simp[hc,hz]
 obtain⟨d,e1,f⟩:=ZpJ hv h7 hp Zzc;obtain⟨L,R,T,e2⟩:=ZnS (ap:=ap) hv h7 hp (λ_=>rfl) (λ_ _=>rfl) λ_=>rfl
 constructor
 ·refine⟨d,?_,?_⟩
  ·show ZH (ZbB ap [Z (.pl (.int 0)),Z (.pl w.d),Z (.pl p.d),Z_])=_
   have e:gEq (.int 0) (.int 0)=Z (.bool ZEN):=ZeR (Zbs 0 0) (by decide);unfold ZbB;have ht:tV (op2 gEq (Zc 0) (eC (.int 0))) [Z (.pl (.int 0)),Z (.pl w.d),Z (.pl p.d),Z_]=Z ZEN:=by unfold tV op2;show(match gEq (.int 0) (.int 0)with | some (.bool b)=>Z b | _=>Z_)=_;rw[e]
   generalize tV (op2 gEq (Zc 0) (eC (.int 0)))=E at ht ⊢;simp[ht,h1,e1,ZH]
  ·rcases f with⟨n,rfl,_⟩ | ⟨rfl,_⟩
   ·exact Zlq rfl rfl
   ·exact Zlq rfl rfl
 ·refine⟨if ZA R w.beg then Zez (wfB w p) R w.beg else .none,?_,?_⟩
  ·show ZH (ZbB ap [Z (.pl (.int 1)),Z (.pl w.d),Z (.pl p.d),Z_])=_
   have e:gEq (.int 1) (.int 0)=Z (.bool ZEO):=Zgw (Zbs 0 1) (Zbs 0 0) (by decide) (by decide) (by simp);unfold ZbB;have ht:tV (op2 gEq (Zc 0) (eC (.int 0))) [Z (.pl (.int 1)),Z (.pl w.d),Z (.pl p.d),Z_]=Z ZEO:=by unfold tV op2;show(match gEq (.int 1) (.int 0)with | some (.bool b)=>Z b | _=>Z_)=_;rw[e]
   generalize tV (op2 gEq (Zc 0) (eC (.int 0)))=E at ht ⊢;simp only[ZoG,Zev,rIf,rNo,ht,ZfO,Za,Zc,ZAf,ZBC,Ze,Option.map_some,h2,Zu,sIf,ZaY,ZB,Zk,e2,ZH]
  ·split
   ·obtain⟨ds,q⟩:=Zo7 T w.beg
    refine Zlq (ZmY _ _ _ _) ?_;rw[q];rfl
   ·exact Zlq rfl rfl
end
end HG25
namespace HG25
open PySem HM
open HG
open HG4
open HG5
open HG6
open HG23
variable{r:HM.Env}{xs:List D}{n:Nat}
theorem Zwu{e:EF}{c:Int}(h:e r=Z (.int n))(hn:n<1000):Zjy (ZC (Za (eC (.int c)) Ze)) e r=Z (tupI (ZzE n c)):=by have h1:decide ((0:Int)<=(n:Int))=ZEN:=decide_eq_true (by omega);have h2:decide ((n:Int)<1000)=ZEN:=decide_eq_true (by omega);unfold Zjy;rw[h];show(if(decide ((0:Int)<=(n:Int))&&decide ((n:Int)<1000)&&decide ([ZAs c].length<1000))=ZEN then Z (Zz7 (ZzE (n:Int).toNat [ZAs c]).flatten)else Z_)=_;rw[h1,h2,if_pos (show(ZEN&&ZEN&&decide ([ZAs c].length<1000))=ZEN from rfl),ZBf,List.flatten_replicate_singleton];unfold tupI;rw[List.map_replicate]
theorem ZvS:ZhW tt tt=Z (.bool ZEO):=by
 have hp:Za6 tt=ZEN:=by decide +kernel
 have hl:tt.canLay0=ZEN:=rfl;have he:ZAV tt tt=ZEN:=by decide +kernel
 unfold ZhW;rw[hl,hp,he];rfl
theorem ZuC{w d:D}{way:Int}{s0 s2 s3 s5 s6:Option B}{x y:D}(h2:s2=Z (.pl x))(h3:s3=Z (.pl y))(ht:ZZ ap [.int way,w,.tuple [x,y]]=Z d)(he:Zg9 d tt=Z (.bool ZEO)) :
  Zdr ap [s0,Z (.pl w),s2,s3,Z (.pl (.int way)),s5,s6]=Z (.nx [s0,Z (.pl w),s2,s3,Z (.pl (.int way)),s5,s6]):=by
 subst h2 h3;have h:tV (op2 Zg9 (Zk (ZZ ap) (Za (Zc 4) (Za (Zc 1) (Za (ZC (Za (Zc 2) (Za (Zc 3) Ze))) Ze)))) (eOf (ZbV (Za (eC (.bool ZEN)) (Za (eC (.bool ZEN)) Ze))))) [s0,Z (.pl w),Z (.pl x),Z (.pl y),Z (.pl (.int way)),s5,s6]=Z ZEO:=by have h1:Zk (ZZ ap) (Za (Zc 4) (Za (Zc 1) (Za (ZC (Za (Zc 2) (Za (Zc 3) Ze))) Ze))) [s0,Z (.pl w),Z (.pl x),Z (.pl y),Z (.pl (.int way)),s5,s6]=Z d:=ht;unfold tV op2;rw[h1];show(match Zg9 d tt with | some (.bool b)=>Z b | _=>Z_)=_;rw[he]
 unfold Zdr sIf;rw[h];rfl
theorem Zlm{ds:List D}(hn:∀d∈ds,ndD d)(hl:ds.length<1000)(h:ds.length≠n\/∃d∈ds,Zcj d 1 20=ZEO):ZE [.tuple ds,.int n]=Z (.bool ZEO):=by
 rw[ZvN hn hl];congr 2;rw[Bool.and_eq_false_iff];rcases h with h | ⟨d,hd,h⟩
 ·left
  show(decide ((n:Int)<=(ds.length:Int))&&decide ((ds.length:Int)<=(n:Int)))=ZEO
  by_cases q:(n:Int)<=(ds.length:Int)
  ·rw[decide_eq_false (by omega:¬(ds.length:Int)<=(n:Int)),ZEn]
  ·rw[decide_eq_false q,Bool.false_and]
 ·right
  rw[Bool.eq_false_iff];intro q;rw[ZzR.mp q d hd]at h;cases h
theorem ZlQ{e f:EF}{ys:List D}(h1:e r=Z (.tuple xs))(h2:f r=Z (.tuple ys))(h:xs.length+ys.length<1000):ZaU e f r=Z (.tuple (xs++ys)):=by
 unfold ZaU;rw[h1,h2];show(if xs.length+ys.length<big then _ else _)=_;have hb:xs.length+ys.length<big:=by show _<1000000; omega
 rw[if_pos hb]
theorem Zwe{e:EF}(h1:e r=Z (.tuple xs))(h:xs≠[]):Zb6 e (Z (eC (.int 1))) Z_ r=Z (.tuple (xs.drop 1)):=by
 have hl:1<=xs.length:=by cases xs with | nil=>exact absurd rfl h | cons _ _=>simp
 have hs:sIx xs.length 0 (Z 1)=1:=by unfold sIx;dsimp only;rw[if_neg (by decide)];show min 1 xs.length=1;omega
 unfold Zb6;rw[h1];show(if sIx xs.length 0 (Z 1)=0/\sIx xs.length xs.length Z_=xs.length then Z_ else Z (Zz7 (cutD xs (Z 1) Z_)))=_;rw[if_neg (by rw[hs]; omega)];unfold cutD;rw[hs];show Z (Zz7 ((xs.drop 1).take (xs.length-1)))=_;rw[List.take_of_length_le (by rw[ZAO]; exact ZzH _)]
abbrev entries(A B:List D):List D:=[.none,.list [.tuple A,.tuple B],.tuple [.tuple A],.tuple [.tuple A,.tuple B,.tuple []],.tuple [.list A,.tuple B],.tuple [.tuple A,.list B],.tuple [.tuple (A++[.int 1]),.tuple B],.tuple [.tuple A,.tuple (B++[.int 1])],
 .tuple [.tuple (A.drop 1),.tuple B],.tuple [.tuple (A.drop 1++[.int 0]),.tuple B],.tuple [.tuple (A.drop 1++[.int 21]),.tuple B],.tuple [.tuple (A.drop 1++[.bool ZEN]),.tuple B],.tuple [.tuple (A.drop 1++[.str (Zz1 "1")]),.tuple B],.tuple [.tuple (A.drop 1++[.none]),.tuple B]]
theorem Zvm{w:Wk}(hv:Wk.V w){p:Pr}(hp:p.V w):∀b∈entries (p.ds.map dI) (p.ls.map dI),Zv [w.d,b]=Z bad:=by
 have d1:=hv.d1;have d2:=hv.d2;have l2:=hv.l2;have hdl:(p.ds.map dI).length=w.deeds.length:=by rw[Zzw,hp.dl]
 have hll:(p.ls.map dI).length=w.looks.length:=by rw[Zzw,hp.ll]
 have gd:ZE [.tuple (p.ds.map dI),.int w.deeds.length]=Z (.bool ZEN):=by have:=Zfo hp hp.db (by rw[hp.dl]; omega);rw[hp.dl]at this; exact this
 have nd:∀d∈p.ds.map dI,ndD d:=λd hd=>by obtain⟨x,_,rfl⟩:=ZzI.mp hd; trivial
 have nl:∀d∈p.ls.map dI,ndD d:=λd hd=>by obtain⟨x,_,rfl⟩:=ZzI.mp hd; trivial
 generalize p.ds.map dI=D at *;generalize p.ls.map dI=L at *;have ndc:∀z,ndD z->∀d∈D.drop 1++[z],ndD d:=λz hz d hd=>by
  rcases Zz3.mp hd with q | q
  ·exact nd d (List.mem_of_mem_drop q)
  ·rw[ZzF.mp q]; exact hz
 have dlen:∀z:HM.D,(D.drop 1++[z]).length<1000:=λz=>by rw[ZzM,ZAO,ZAc]; omega
 have last:∀z,ndD z->Zcj z 1 20=ZEO->Zv [w.d,.tuple [.tuple (D.drop 1++[z]),.tuple L]]=Z bad:=λz hz hn=>Zf4 (b1:=ZEO) (b2:=ZEO) (Zlm (ndc z hz) (dlen z) (.inr ⟨z,ZzX _ (ZzF.mpr rfl),hn⟩)) (λq=>by cases q) λq=>by cases q
 intro b hb;simp only[ZzK,ZDZ,or_false]at hb;rcases hb with rfl | rfl | rfl | rfl | rfl | rfl | rfl | rfl | rfl | rfl | rfl | rfl | rfl | rfl
 ·exact Zk1 trivial rfl
 ·exact Zk1 trivial rfl
 ·exact Zk1 trivial rfl
 ·exact Zk1 trivial rfl
 ·exact Zf4 (b1:=ZEO) (b2:=ZEO) (ZoU _ _) (λq=>by cases q) λq=>by cases q
 ·exact Zf4 (b1:=ZEN) (b2:=ZEO) gd (λ_=>ZoU _ _) λ_=>rfl
 ·refine Zf4 (b1:=ZEO) (b2:=ZEO) (Zlm (λd hd=>?_) ?_ (.inl ?_)) (λq=>by cases q) λq=>by cases q
  ·rcases Zz3.mp hd with q | q
   ·exact nd d q
   ·rw[ZzF.mp q]; trivial
  ·rw[ZzM,ZAc]; omega
  ·rw[ZzM,ZAc]; omega
 ·refine Zf4 (b1:=ZEN) (b2:=ZEO) gd (λ_=>Zlm (λd hd=>?_) ?_ (.inl ?_)) λ_=>rfl
  ·rcases Zz3.mp hd with q | q
   ·exact nl d q
   ·rw[ZzF.mp q]; trivial
  ·rw[ZzM,ZAc]; omega
  ·rw[ZzM,ZAc]; omega
 ·refine Zf4 (b1:=ZEO) (b2:=ZEO) (Zlm (λd hd=>nd d (List.mem_of_mem_drop hd)) ?_ (.inl ?_)) (λq=>by cases q) λq=>by cases q
  ·rw[ZAO]; omega
  ·rw[ZAO]; omega
 ·exact last _ trivial rfl
 ·exact last _ trivial rfl
 ·exact last _ trivial rfl
 ·exact last _ trivial rfl
 ·exact last _ trivial rfl
theorem Zkr(ns:List Int)(h:ns.length<=63):Zf9 ap [.list (ns.map dI)]=Z (.bool ZEN):=by
 have hok:=Zv4 ns 2;have hv:=Wk.Ok.v hok;have h5:(wkV ns 2).many<=5:=(Zjr ns 2).2;have hw:=ZtE ns 2 h;have hc0:=Zd7 ns 0;generalize wkV ns 2=w at *;have h7:w.many<=7:=by omega
 have d1:=hv.d1;have d2:=hv.d2;have l2:=hv.l2;have hw':Zbd [.list (ns.map dI),.int 2]=Z w.d:=hw;have hc':ZY [.list (ns.map dI),.int 0]=Z (.int (Zw ns 0)):=hc0;generalize Zw ns 0=c0 at *;have hp:Pr.V ⟨ZzE w.deeds.length 1,ZzE w.looks.length 20⟩ w:=⟨Zz6,Zz6,λx hx=>by rw[(List.mem_replicate.mp hx).2]; decide,λx hx=>by rw[(List.mem_replicate.mp hx).2]; decide⟩;obtain⟨⟨g0,t0,q0⟩,g1,t1,q1⟩:=Zr1 hv h7 hp;have hbad:=Zvm hv hp;have t0':ZZ ap [.int 0,w.d,.tuple [tupI (ZzE w.deeds.length 1),tupI (ZzE w.looks.length 20)]]=Z g0:=t0;have t1':ZZ ap [.int 1,w.d,.tuple [tupI (ZzE w.deeds.length 1),tupI (ZzE w.looks.length 20)]]=Z g1:=t1;have hDn:ZBN dI (ZzE w.deeds.length (1:Int))≠[]:=λz=>by have:=congrArg ZAg z;rw[Zzw,Zz6,ZEa]at this;omega
 have hDl:(ZBN dI (ZzE w.deeds.length (1:Int))).length<900:=by rw[Zzw,Zz6]; omega
 have hLl:(ZBN dI (ZzE w.looks.length (20:Int))).length<900:=by rw[Zzw,Zz6]; omega
 show ZH (Znf ap [Z (.pl (.list (ns.map dI))),Z_,Z_,Z_,Z_,Z_,Z_])=_;unfold Znf;refine ZV (P:=λq=>ZH q=_) (r':=[Z (.pl (.list (ns.map dI))),Z (.pl w.d),Z_,Z_,Z_,Z_,Z_]) (by simp[hw']) ?_;refine ZV (P:=λq=>ZH q=_) (r':=[Z (.pl (.list (ns.map dI))),Z (.pl w.d),Z (.pl (tupI (ZzE w.deeds.length 1))),Z_,Z_,Z_,Z_]) ?_ ?_
 ·have hl:Za2 (bOf (eIx (Zn 1) (eC (.int 1)))) [Z (.pl (.list (ns.map dI))),Z (.pl w.d),Z_,Z_,Z_,Z_,Z_]=Z (.int w.deeds.length):=by
   have hx:eIx (Zn 1) (eC (.int 1)) [Z (.pl (.list (ns.map dI))),Z (.pl w.d),Z_,Z_,Z_,Z_,Z_]=Z (.tuple (w.deeds.map Z3)):=rfl;generalize eIx (Zn 1) (eC (.int 1))=E at hx ⊢;simp[hx]
  unfold Zae;rw[Zwu hl (by omega)];rfl
 refine ZV (P:=λq=>ZH q=_) (r':=[Z (.pl (.list (ns.map dI))),Z (.pl w.d),Z (.pl (tupI (ZzE w.deeds.length 1))),Z (.pl (tupI (ZzE w.looks.length 20))),Z_,Z_,Z_]) ?_ ?_
 ·have hl:Za2 (bOf (eIx (Zn 1) (eC (.int 2)))) [Z (.pl (.list (ns.map dI))),Z (.pl w.d),Z (.pl (tupI (ZzE w.deeds.length 1))),Z_,Z_,Z_,Z_]=Z (.int w.looks.length):=by
   have hx:eIx (Zn 1) (eC (.int 2)) [Z (.pl (.list (ns.map dI))),Z (.pl w.d),Z (.pl (tupI (ZzE w.deeds.length 1))),Z_,Z_,Z_,Z_]=Z (.tuple (w.looks.map tupI)):=rfl;generalize eIx (Zn 1) (eC (.int 2))=E at hx ⊢;simp[hx]
  unfold Zae;rw[Zwu hl (by omega)];rfl
 refine ZV (P:=λq=>ZH q=_) (r':=[Z (.pl (.list (ns.map dI))),Z (.pl w.d),Z (.pl (tupI (ZzE w.deeds.length 1))),Z (.pl (tupI (ZzE w.looks.length 20))),Z (.pl (.int 1)),Z_,Z_]) ?_ ?_
 ·have hi:ZbL (eC (.int 2)) [Z (.pl (.list (ns.map dI))),Z (.pl w.d),Z (.pl (tupI (ZzE w.deeds.length 1))),Z (.pl (tupI (ZzE w.looks.length 20))),Z_,Z_,Z_]=Z [.int 0,.int 1]:=rfl
  unfold Zbx;rw[hi];dsimp only;rw[if_pos (by decide)];show(match Zdr ap [Z (.pl (.list (ns.map dI))),Z (.pl w.d),Z (.pl (tupI (ZzE w.deeds.length 1))),Z (.pl (tupI (ZzE w.looks.length 20))),Z (.pl (.int 0)),Z_,Z_]with
   | some (.nx r')=>ZaG 4 (Zdr ap) [.int 1] r'
   | some (.ct r')=>ZaG 4 (Zdr ap) [.int 1] r'
   | some (.bk r')=>Z (.nx r')
   | some (.rt d)=>Z (.rt d)
   | none=>Z_)=_
  rw[ZuC rfl rfl t0' q0];show(match Zdr ap [Z (.pl (.list (ns.map dI))),Z (.pl w.d),Z (.pl (tupI (ZzE w.deeds.length 1))),Z (.pl (tupI (ZzE w.looks.length 20))),Z (.pl (.int 1)),Z_,Z_]with
   | some (.nx r')=>ZaG 4 (Zdr ap) [] r'
   | some (.ct r')=>ZaG 4 (Zdr ap) [] r'
   | some (.bk r')=>Z (.nx r')
   | some (.rt d)=>Z (.rt d)
   | none=>Z_)=_
  rw[ZuC rfl rfl t1' q1];rfl
 unfold tupI;generalize hD:ZBN dI (ZzE w.deeds.length (1:Int))=D at *;generalize hL:ZBN dI (ZzE w.looks.length (20:Int))=L at *;generalize hsc:(Z (.pl (.list (ns.map dI))):Option B)=sc;generalize (Z (.pl (.int 1)):Option B)=s4;have hcut:∀q5:Option B,Zb6 (Zc 2) (Z (eC (.int 1))) Z_ [sc,Z (.pl w.d),Z (.pl (.tuple D)),Z (.pl (.tuple L)),s4,q5,Z_]=Z (.tuple (D.drop 1)):=λq5=>Zwe rfl hDn;have hdl:(D.drop 1).length<900:=by rw[ZAO]; omega
 have hcat:∀(q5:Option B) (z:HM.D),ZaU (Zb6 (Zc 2) (Z (eC (.int 1))) Z_) (ZC (Za (eC z) Ze)) [sc,Z (.pl w.d),Z (.pl (.tuple D)),Z (.pl (.tuple L)),s4,q5,Z_]=Z (.tuple (D.drop 1++[z])):=λq5 z=>ZlQ (hcut q5) rfl (by rw[ZAc]; omega);have hd1:∀q5:Option B,ZaU (Zc 2) (ZC (Za (eC (.int 1)) Ze)) [sc,Z (.pl w.d),Z (.pl (.tuple D)),Z (.pl (.tuple L)),s4,q5,Z_]=Z (.tuple (D++[.int 1])):=λq5=>ZlQ rfl rfl (by rw[ZAc]; omega);have hl1:∀q5:Option B,ZaU (Zc 3) (ZC (Za (eC (.int 1)) Ze)) [sc,Z (.pl w.d),Z (.pl (.tuple D)),Z (.pl (.tuple L)),s4,q5,Z_]=Z (.tuple (L++[.int 1])):=λq5=>ZlQ rfl rfl (by rw[ZAc]; omega);have hz0:=λq5=>hcat q5 (.int 0);have hz1:=λq5=>hcat q5 (.int 21);have hz2:=λq5=>hcat q5 (.bool ZEN);have hz3:=λq5=>hcat q5 (.str (Zz1 "1"));have hz4:=λq5=>hcat q5 .none;generalize hE0:ZaU (Zb6 (Zc 2) (Z (eC (.int 1))) Z_) (ZC (Za (eC (.int 0)) Ze))=E0 at hz0 ⊢;generalize hE1:ZaU (Zb6 (Zc 2) (Z (eC (.int 1))) Z_) (ZC (Za (eC (.int 21)) Ze))=E1 at hz1 ⊢;generalize hE2:ZaU (Zb6 (Zc 2) (Z (eC (.int 1))) Z_) (ZC (Za (eC (.bool ZEN)) Ze))=E2 at hz2 ⊢;generalize hE3:ZaU (Zb6 (Zc 2) (Z (eC (.int 1))) Z_) (ZC (Za (eC (.str (Zz1 "1"))) Ze))=E3 at hz3 ⊢;generalize hE4:ZaU (Zb6 (Zc 2) (Z (eC (.int 1))) Z_) (ZC (Za (eC .none) Ze))=E4 at hz4 ⊢;generalize hE5:Zb6 (Zc 2) (Z (eC (.int 1))) Z_=E5 at hcut ⊢;generalize hE6:ZaU (Zc 2) (ZC (Za (eC (.int 1)) Ze))=E6 at hd1 ⊢;generalize hE7:ZaU (Zc 3) (ZC (Za (eC (.int 1)) Ze))=E7 at hl1 ⊢;refine ZV (P:=λq=>ZH q=_) (r':=[sc,Z (.pl w.d),Z (.pl (.tuple D)),Z (.pl (.tuple L)),s4,Z (.ol ((entries D L).take 5)),Z_]) rfl ?_;refine ZV (P:=λq=>ZH q=_) (r':=[sc,Z (.pl w.d),Z (.pl (.tuple D)),Z (.pl (.tuple L)),s4,Z (.ol ((entries D L).take 7)),Z_]) (by simp[hd1,big,entries]) ?_;refine ZV (P:=λq=>ZH q=_) (r':=[sc,Z (.pl w.d),Z (.pl (.tuple D)),Z (.pl (.tuple L)),s4,Z (.ol ((entries D L).take 10)),Z_]) (by simp[hl1,hcut,hz0,big,entries]) ?_;refine ZV (P:=λq=>ZH q=_) (r':=[sc,Z (.pl w.d),Z (.pl (.tuple D)),Z (.pl (.tuple L)),s4,Z (.ol ((entries D L).take 11)),Z_]) (by simp[hz1,big,entries]) ?_;refine ZV (P:=λq=>ZH q=_) (r':=[sc,Z (.pl w.d),Z (.pl (.tuple D)),Z (.pl (.tuple L)),s4,Z (.ol (entries D L)),Z_]) (by simp[hz2,hz3,hz4,big,entries]) ?_;have hm0:0<=c0 % 14:=Int.emod_nonneg _ (by decide);have hm1:c0 % 14<14:=Int.emod_lt_of_pos _ (by decide);obtain⟨b,hb,hix⟩:∃b,b∈entries D L/\eIx (Zn 5) (op2 Zko (Zk ZY (Za (Zc 0) (Za (eC (.int 0)) Ze))) (eC (.int 14))) [sc,Z (.pl w.d),Z (.pl (.tuple D)),Z (.pl (.tuple L)),s4,Z (.ol (entries D L)),Z_]=Z b:=by
  have hlen:(entries D L).length=14:=rfl;have hj:(c0 % 14).toNat<(entries D L).length:=by rw[hlen]; omega
  refine⟨(entries D L)[(c0 % 14).toNat],ZAW hj,?_⟩;have hg:op2 Zko (Zk ZY (Za (Zc 0) (Za (eC (.int 0)) Ze))) (eC (.int 14)) [sc,Z (.pl w.d),Z (.pl (.tuple D)),Z (.pl (.tuple L)),s4,Z (.ol (entries D L)),Z_]=Z (.int (c0 % 14)):=by
   have hy:Zk ZY (Za (Zc 0) (Za (eC (.int 0)) Ze)) [sc,Z (.pl w.d),Z (.pl (.tuple D)),Z (.pl (.tuple L)),s4,Z (.ol (entries D L)),Z_]=Z (.int c0):=by rw[<-hsc]; exact hc'
   unfold op2;rw[hy];show(if(0:Int)<14 then Z (ZAs (c0 % 14))else Z_)=_;rw[if_pos (by decide)]
  generalize op2 Zko (Zk ZY (Za (Zc 0) (Za (eC (.int 0)) Ze))) (eC (.int 14))=E at hg ⊢;generalize entries D L=BL at *;unfold eIx;rw[hg];show atD BL (c0 % 14)=_;unfold atD ixN;rw[if_pos hm0,if_pos (by omega)];exact ZzT hj
 refine ZV (P:=λq=>ZH q=_) (r':=[sc,Z (.pl w.d),Z (.pl (.tuple D)),Z (.pl (.tuple L)),s4,Z (.ol (entries D L)),Z (.pl b)]) (by unfold Zae; rw[hix]; rfl) ?_;obtain⟨b0,b1⟩:=Ztw hv (hbad b hb);generalize (Z (.ol (entries D L)):Option B)=s5;have key:∀way:Int,ZZ ap [.int way,w.d,b]=Z tt->tV (op2 ZhW (Zk (ZZ ap) (Za (Zc 0) (Za (Zc 2) (Za (Zc 7) Ze)))) (eOf (ZbV (Za (eC (.bool ZEN)) (Za (eC (.bool ZEN)) Ze))))) (Z (.pl (.int way))::[sc,Z (.pl w.d),Z (.pl (.tuple D)),Z (.pl (.tuple L)),s4,s5,Z (.pl b)])=Z ZEO:=λway ht=>by have h1:Zk (ZZ ap) (Za (Zc 0) (Za (Zc 2) (Za (Zc 7) Ze))) (Z (.pl (.int way))::[sc,Z (.pl w.d),Z (.pl (.tuple D)),Z (.pl (.tuple L)),s4,s5,Z (.pl b)])=Z tt:=ht;unfold tV op2;rw[h1];show(match ZhW tt tt with | some (.bool b)=>Z b | _=>Z_)=_;rw[ZvS]
 have hi:ZbL (eC (.int 2)) [sc,Z (.pl w.d),Z (.pl (.tuple D)),Z (.pl (.tuple L)),s4,s5,Z (.pl b)]=Z [.int 0,.int 1]:=rfl;have hf:ZF (ZbL (eC (.int 2))) (tV (op2 ZhW (Zk (ZZ ap) (Za (Zc 0) (Za (Zc 2) (Za (Zc 7) Ze)))) (eOf (ZbV (Za (eC (.bool ZEN)) (Za (eC (.bool ZEN)) Ze)))))) (Zc 0) [sc,Z (.pl w.d),Z (.pl (.tuple D)),Z (.pl (.tuple L)),s4,s5,Z (.pl b)]=Z (.ol []):=by unfold ZF;rw[hi];dsimp only;rw[if_pos (by decide)];unfold Zan;rw[key 0 b0];dsimp only;unfold Zan;rw[key 1 b1];rfl
 generalize ZF (ZbL (eC (.int 2))) (tV (op2 ZhW (Zk (ZZ ap) (Za (Zc 0) (Za (Zc 2) (Za (Zc 7) Ze)))) (eOf (ZbV (Za (eC (.bool ZEN)) (Za (eC (.bool ZEN)) Ze)))))) (Zc 0)=E at hf ⊢;have he:gEq (.list []) (.list [])=Z (.bool ZEN):=ZeR (Ztr 0 []) (by decide);unfold ZB op2 eOf;rw[hf];show ZH (ZBv _ (gEq (.list []) (.list [])))=_;rw[he];rfl
end HG25
namespace HT
open PySem PySem.Spec PyProof.Rows L2 HP HM
open HG
open HG4
open HG5
open HG6
open HG23
open HG24 (Za3 ZbY Za0 Zbv)
open HG25
variable{c f:Addr}{osl:Array (Option Value)}{fd:FuncData}{h:Heap}{ps:List Str}{an od:Option Addr}{st:Stmt}{n x:Str}{cdv ct doc oc pm:Value}
def top(i:Nat):Stmt:=PySem.Challenge.pw_halfseen_k25_prices_refused.main.body.getD i (.Pass ⟨0,0,0,0⟩)
abbrev Zga:Stmt:=top 9
abbrev ZiG:Stmt:=top 10
abbrev Zgb:Stmt:=top 11
abbrev ZfI:Stmt:=top 12
abbrev ZfJ:Stmt:=top 13
abbrev Zej:Stmt:=top 14
abbrev Zek:Stmt:=top 15
abbrev ZgP:Stmt:=top 16
abbrev Zgc:Stmt:=top 17
abbrev ZgQ:Stmt:=top 18
abbrev ZgR:Stmt:=top 19
abbrev ZgS:Stmt:=top 20
abbrev ZhE:Stmt:=top 21
abbrev ZhF:Stmt:=top 22
abbrev ZfK:Stmt:=top 23
abbrev Zds:Stmt:=top 25
abbrev ZdJ:Stmt:=top 26
abbrev ZiH:Stmt:=top 27
abbrev ZgA:Stmt:=top 28
abbrev Ze0:Stmt:=top 29
abbrev Zcs:Stmt:=top 32
abbrev Zel:Stmt:=top 33
abbrev ZcP:Stmt:=top 34
abbrev Zfs:Stmt:=top 35
abbrev ZcU:Stmt:=top 36
abbrev Ze1:Stmt:=top 37
abbrev ZgT:Stmt:=top 38
abbrev ZcI:Stmt:=top 39
abbrev Zem:Stmt:=top 40
abbrev ZfL:Stmt:=top 41
abbrev Zc3:Stmt:=top 45
abbrev Zcn:Stmt:=top 46
abbrev Zc4:Stmt:=top 47
abbrev Zcd:Stmt:=top 48
abbrev ZeF:Stmt:=top 49
abbrev Ze2:Stmt:=top 50
abbrev Zct:Stmt:=top 51
abbrev ZD:Stmt:=top 52
abbrev Ze3:Stmt:=top 53
abbrev ZcJ:Stmt:=top 54
abbrev ZgU:Stmt:=top 56
abbrev ZhG:Stmt:=top 57
abbrev Zen:Stmt:=top 58
abbrev ZgV:Stmt:=top 59
abbrev ZgW:Stmt:=top 60
abbrev Zeo:Stmt:=top 61
abbrev ZgX:Stmt:=top 62
abbrev Zfh:Stmt:=top 63
structure Def(K:Zzx)(mg:Str->Option Value)(x:Str)(st:Stmt)(ps:List Str):Prop where
 ex:∃f fd,Fun K x x st f fd/\mg x=Z (.ref f)/\Binds K fd ps []
structure Txt(K:Zzx)(mg:Str->Option Value):Prop where
 n_len:mg "len" = Z_
 n_tuple:mg "tuple" = Z_
 n_list:mg "list" = Z_
 n_set:mg "set" = Z_
 n_sorted:mg "sorted" = Z_
 n_range:mg "range" = Z_
 n_all:mg "all" = Z_
 n_isinstance:mg "isinstance" = Z_
 n_int:mg "int" = Z_
 n_bool:mg "bool" = Z_
 n_max:mg "max" = Z_
 n_min:mg "min" = Z_
 n_enumerate:mg "enumerate" = Z_
 c_MOST_STATES:∃t,mg "MOST_STATES" = Z (.int 8 t)
 c_MOST_DEEDS:∃t,mg "MOST_DEEDS" = Z (.int 5 t)
 c_MOST_LOOKS:∃t,mg "MOST_LOOKS" = Z (.int 4 t)
 c_MOST_SEEN:∃t,mg "MOST_SEEN" = Z (.int 9 t)
 c_LEAST_PRICE:∃t,mg "LEAST_PRICE" = Z (.int 1 t)
 c_MOST_PRICE:∃t,mg "MOST_PRICE" = Z (.int 20 t)
 n_ValueError:mg "ValueError" = Z_
 c_DONE:∃a,mg "DONE" = Z (.ref a)/\Zov K a [.str "done"]
 x_BadPrices:Zq0 K mg "SeenError" "BadPrices"
section
variable[FX]{P:Program}{w:World}{K:Zzx}{mg:Str->Option Value}{base:Heap}{k:Nat}
set_option maxHeartbeats 8000000
theorem scM{N:List Str}{sc:Scope}(a:sc.kind=.function:=by rfl)(b:sc.isCoroutine=ZEO:=by rfl)(c:sc.isGenerator=ZEO:=by rfl)(d:N.Nodup:=by decide +kernel)(e:N.take ps.length=ps:=by rfl)(f:∀x∈ps,sc.names.lookup x=Z .local\/sc.names.lookup x=Z .cell:=by decide +kernel)(g:∀y∈sc.names,y.2≠.free:=by decide +kernel):Zt N ps sc:=⟨a,b,c,d,e,f,g⟩
theorem Def.ok{x:Str}{st:Stmt}{N ps:List Str}{g:HM.SF}(D:Def K mg x st ps)(S:Zt N ps (Zh st))(body:∀(f:Addr) (cdv:Value) (A:Around) (outer:List PySem.Env) (s:Shared) (H:Hp) (E:XK),Z9 k (A.deeper (envOfC x (Zh st) s.heap.objs.size f cdv))->XSs (Zd0 CX0 P w K mg base N x (Zh st) f cdv A outer s H E).nox (ZaA st) g):Callee P w K mg base (k+1) x (HM.fnOf ps.length N.length g):=by obtain⟨f,fd,F,m,b⟩:=D.ex;exact Zsn F S m b (body f)
theorem Cup{j:Nat}{M:List PyData->Option PyData}(C:Callee P w K mg base j x M)(h:j<=k:=by decide):Callee P w K mg base k x M:=C.mono h
theorem Zng:Zt ["_law_script","_law_k"] ["_law_script","_law_k"] (Zh ZgU):=scM
theorem Znh(T:Txt K mg)(D:Def K mg "_law_cell" ZgU ["_law_script","_law_k"]):Callee P w K mg base (k+1) "_law_cell" ZY :=
 D.ok Zng λ_ cdv A outer s H E hr=>by
  exact(Zl (Za7 (ZaC cLt (Zd 1) (Zbr T.n_len (Zr 0))) (Zo (Zz (ZN (Zr 0) (Zd 1)))) Zal)
  (Zo (Zz Zi)))
theorem Zpd:Zt ["_law_cell_here","_law_prime","_law_many"] ["_law_cell_here","_law_prime","_law_many"] (Zh ZhG):=scM
theorem Zpe(T:Txt K mg)(D:Def K mg "_law_mix" ZhG ["_law_cell_here","_law_prime","_law_many"]):Callee P w K mg base (k+1) "_law_mix" ZO :=
 D.ok Zpd λ_ cdv A outer s H E hr=>by exact(Zo (Zz (ZI oMod (ZI oMod (ZI Zfv (Zd 0) Zi) (Zd 1)) (Zd 2))))
abbrev Zgt:List Str:=["_law_cell_here","_law_many","_law_least","_law_found"]
theorem Zft:Zt Zgt ["_law_cell_here","_law_many","_law_least"] (Zh Zen):=scM
theorem Zmy(T:Txt K mg)(ZP:Callee P w K mg base k "_law_mix" ZO)(D:Def K mg "_law_crowd" Zen ["_law_cell_here","_law_many","_law_least"]):Callee P w K mg base (k+1) "_law_crowd" Zb0 :=
 D.ok Zft λ_ cdv A outer s H E hr=>by
  exact(Zl (Zea 3 Zft.nd rfl rfl (N:="_law_state" :: Zgt) (ZG (sc:=Zh Zen) (XN:=Zgt)) (Zca T.n_range (Zd 1)) (λ_ _ _ _ _=>(Zdp (ZaC cLt (Zm ZP hr (Zb (ZI Zb7 (ZI Zb7 (Zd 1) (ZI Zfv (ZI Zfv Zi (Zd 0)) (Zd 0))) (ZI Zfv Zi (Zd 0))) (Zb Zi (Zb Zi Zf)))) Zi))) (λ_ _ _ _ _=>(Zd 0)))
  (Zl (Za7 (ZaC cLt (Zbr T.n_len (Zr 3)) (Zd 2)) (Zo (Zay 3 Zft.nd (Zba (Zb (Zm ZP hr (Zb (Zd 0) (Zb Zi (Zb (Zd 1) Zf)))) Zf)))) Zal)
  (Zo (Zz (ZaD T.n_tuple (Zr 3))))))
theorem Zcu:Zt ["_law_cell_here","_law_many","_law_found","_law_state","_law_seed","_law_way","_law_row"] ["_law_cell_here","_law_many"] (Zh ZgV):=scM
theorem Zni(T:Txt K mg)(ZP:Callee P w K mg base k "_law_mix" ZO)(D:Def K mg "_law_deed" ZgV ["_law_cell_here","_law_many"]):Callee P w K mg base (k+1) "_law_deed" ZdD :=
 D.ok Zcu λ_ cdv A outer s H E hr=>by
  have hu:=ZdL hr;exact(Zl (Zay 2 Zcu.nd (Zba Zf))
  (Zl (Zcq 3 Zcu.nd rfl rfl (Zca T.n_range (Zd 1)) (Zl (Z5 4 Zcu.nd (ZI Zb7 (ZI Zb7 (Zd 0) (ZI Zfv (ZI Zfv Zi (Zd 3)) (Zd 3))) (ZI Zfv Zi (Zd 3))))
  (Zl (Z5 5 Zcu.nd (Zm ZP hr (Zb (Zd 4) (Zb Zi (Zb Zi Zf)))))
  (Zl (Zay 6 Zcu.nd (Zs4 (Zm ZP hr (Zb (Zd 4) (Zb Zi (Zb (Zd 1) Zf)))) Zbt))
  (Zl (Za7 (ZaC cLt (Zd 5) Zi) (Zo (Zf7 hu 6 (Zm ZP hr (Zb (Zd 4) (Zb Zi (Zb (Zd 1) Zf)))) Zbt)) Zal)
  (Zl (Zfg 2 (ZaD T.n_tuple (ZaF (Ziz T.n_sorted rfl (Zr 6)))))
  (Zo (Za7 (ZaC (cEq hr) (Zd 5) Zi) (Zo (ZuG 2 ZvT (ZJ Zf))) Zal))))))))
  (Zo (Zz (ZaD T.n_tuple (Zr 2))))))
theorem Zb3:Zt ["_law_cell_here","_law_many","_law_left","_law_right","_law_state","_law_ahead","_law_behind","_law_slips"] ["_law_cell_here","_law_many"] (Zh ZgW):=scM
theorem Znj(T:Txt K mg)(ZP:Callee P w K mg base k "_law_mix" ZO)(D:Def K mg "_law_walk" ZgW ["_law_cell_here","_law_many"]):Callee P w K mg base (k+1) "_law_walk" ZdE :=
 D.ok Zb3 λ_ cdv A outer s H E hr=>by
  exact(Zl (Zay 2 Zb3.nd (Zba Zf))
  (Zl (Zay 3 Zb3.nd (Zba Zf))
  (Zl (Zcq 4 Zb3.nd rfl rfl (Zca T.n_range (Zd 1)) (Zl (Z5 5 Zb3.nd (ZvU T.n_max rfl (ZI Zuh (Zd 4) Zi) Zi))
  (Zl (Z5 6 Zb3.nd (ZvV T.n_min rfl (ZI Zb7 (Zd 4) Zi) (ZI Zuh (Zd 1) Zi)))
  (Zl (Z5 7 Zb3.nd (ZkM (cEq hr) (Zm ZP hr (Zb (ZI Zb7 (Zd 0) (ZI Zfv Zi (Zd 4))) (Zb Zi (Zb Zi Zf)))) Zi))
  (Zl (Zfg 2 (ZaD T.n_tuple (ZaF (Zna T.n_sorted T.n_set rfl (ZaF (Zhi (ZaF (Zba (Zb (Zd 5) Zf))) (ZaF (ZvW (ZaF (Zba (Zb (Zd 4) Zf))) (Zs3 T.n_int (Zd 7))))))))))
  (Zo (Zfg 3 (ZJ (Zb (Zd 6) Zf)))))))))
  (Zo (Zz (ZJ (Zb (ZaD T.n_tuple (Zr 2)) (Zb (ZaD T.n_tuple (Zr 3)) Zf))))))))
abbrev Zgx:List Str:=["_law_script","_law_at","_law_cell_here","_law_many","_law_deeds","_law_k","_law_looks","_law_seed","_law_most","_law_begin","_law_goal"]
theorem Z2:Zt Zgx ["_law_script","_law_at"] (Zh Zeo):=scM
theorem Zmz(T:Txt K mg)(ZaR:Callee P w K mg base k "_law_cell" ZY)(Zep:Callee P w K mg base k "_law_crowd" Zb0)(ZP:Callee P w K mg base k "_law_mix" ZO)(ZgY:Callee P w K mg base k "_law_deed" ZdD)(ZgZ:Callee P w K mg base k "_law_walk" ZdE)(D:Def K mg "_law_works" Zeo ["_law_script","_law_at"]):Callee P w K mg base (k+1) "_law_works" Zbd :=
 D.ok Z2 λ_ cdv A outer s H E hr=>by
  exact(Zl (Z5 2 Z2.nd (Zm ZaR hr (Zb (Zd 0) (Zb (Zd 1) Zf))))
  (Zl (Z5 3 Z2.nd (ZI Zb7 Zi (Zm ZP hr (Zb (Zd 2) (Zb Zi (Zb Zi Zf))))))
  (Zl (Za7 (ZaC cGt (Zbr T.n_len (Zr 0)) Zi) (Zo (Z5 3 Z2.nd (ZI Zb7 Zi (Zm ZP hr (Zb (Zd 2) (Zb Zi (Zb Zi Zf))))))) Zal)
  (Zl (Zay 4 Z2.nd (Zba Zf))
  (Zl (Zcq 5 Z2.nd rfl rfl (Zca T.n_range (ZI Zb7 Zi (Zm ZP hr (Zb (Zd 2) (Zb Zi (Zb Zi Zf)))))) (Zo (Zfg 4 (Zm ZgY hr (Zb (ZI Zb7 (Zm ZaR hr (Zb (Zd 0) (Zb (ZI Zb7 (ZI Zb7 (Zd 1) Zi) (Zd 5)) Zf))) (ZI Zfv Zi (Zd 5))) (Zb (Zd 3) Zf))))))
  (Zl (Za7 (ZaC (cEq hr) (Zm ZP hr (Zb (Zd 2) (Zb Zi (Zb Zi Zf)))) Zi) (Zo (Zay 4 Z2.nd (Zhi (ZaF (Zgz T.n_list (ZaB (Zm ZgZ hr (Zb (Zm ZaR hr (Zb (Zd 0) (Zb (ZI Zb7 (Zd 1) Zi) Zf))) (Zb (Zd 3) Zf)))))) (ZaF (ZvX (Zr 4) ZeQ (ZeL Zi)))))) Zal)
  (Zl (Zay 6 Z2.nd (Zba Zf))
  (Zl (Zcq 5 Z2.nd rfl rfl (Zca T.n_range (Zm ZP hr (Zb (Zd 2) (Zb Zi (Zb Zi Zf))))) (Zl (Z5 7 Z2.nd (ZI Zb7 (Zm ZaR hr (Zb (Zd 0) (Zb (ZI Zb7 (ZI Zb7 (Zd 1) Zi) (Zd 5)) Zf))) (ZI Zfv Zi (Zd 5))))
  (Zl (Z5 8 Z2.nd (ZI Zb7 Zi (Zm ZP hr (Zb (Zd 7) (Zb Zi (Zb Zi Zf))))))
  (Zo (Zfg 6 (ZaD T.n_tuple (ZaF (ZaL rfl rfl (N:="_law_state" :: Zgx) (ZG (sc:=Zh Zeo) (XN:=Zgx)) (Zca T.n_range (Zd 3)) (λ_ _ _ _ _=>Zbb) (λ_ _ _ _ _=>(Zm ZP hr (Zb (ZI Zb7 (Zd 8) (ZI Zfv (ZI Zfv Zi (Zd 0)) (Zd 0))) (Zb Zi (Zb (Zd 9) Zf)))))))))))))
  (Zl (Z5 9 Z2.nd (Zm Zep hr (Zb (Zm ZaR hr (Zb (Zd 0) (Zb (ZI Zb7 (Zd 1) Zi) Zf))) (Zb (Zd 3) (Zb Zi Zf)))))
  (Zl (Za7 (ZaC (cEq hr) (Zm ZP hr (Zb (Zd 2) (Zb Zi (Zb Zi Zf)))) Zi) (Zo (Z5 9 Z2.nd (Zpa T.n_tuple T.n_range rfl (Zd 3)))) Zal)
  (Zl (Z5 10 Z2.nd (Zm Zep hr (Zb (Zm ZaR hr (Zb (Zd 0) (Zb (ZI Zb7 (Zd 1) Zi) Zf))) (Zb (Zd 3) (Zb Zi Zf)))))
  (Zo (Zz (ZJ (Zb (Zd 3) (Zb (ZaD T.n_tuple (Zr 4)) (Zb (ZaD T.n_tuple (Zr 6)) (Zb (Zd 9) (Zb (Zd 10) Zf)))))))))))))))))))
theorem ZmA:Zt ["thing","least","most"] ["thing","least","most"] (Zh Zga):=scM
theorem ZmB(T:Txt K mg)(D:Def K mg "is_number" Zga ["thing","least","most"]):Callee P w K mg base (k+1) "is_number" Zab :=
 D.ok ZmA λ_ cdv A outer s H E hr=>by
  exact(Zl (Za7 (Zm6 (ZkN (Zbq (Zo9 T.n_isinstance T.n_bool (Zd 0))) (Zix (ZbZ (Zbq (Zqx T.n_isinstance T.n_int (Zd 0))))))) (Zo (Zz Zbt)) Zal)
  (Zo (Zz (Zm7 cLe cLe (Zd 1) (Zd 0) (Zd 2)))))
theorem ZdK:Zt ["thing","many","least","number"] ["thing","many"] (Zh Zgb):=scM
theorem ZmC(T:Txt K mg)(Zav:Callee P w K mg base k "is_number" Zab)(D:Def K mg "is_rising" Zgb ["thing","many"]):Callee P w K mg base (k+1) "is_rising" Zau :=
 D.ok ZdK λ_ cdv A outer s H E hr=>by
  exact(Zl (Za7 (ZbZ (Zbq (Ziy T.n_isinstance T.n_tuple (Zd 0)))) (Zo (Zz Zbt)) Zal)
  (Zl (Z5 2 ZdK.nd Zi)
  (Zl (Zcq 3 ZdK.nd rfl rfl (Zaj (Zd 0)) (Zl (Za7 (ZbZ (Zbq (Zm Zav hr (Zb (Zd 3) (Zb (Zd 2) (Zb (ZI Zuh (Zd 1) Zi) Zf)))))) (Zo (Zz Zbt)) Zal)
  (Zo (Z5 2 ZdK.nd (ZI Zb7 (Zd 3) Zi)))))
  (Zo (Zz Zbt)))))
theorem Znk:Zt ["thing","many"] ["thing","many"] (Zh ZgP):=scM
theorem Znl(T:Txt K mg)(Zbf:Callee P w K mg base k "is_rising" Zau)(D:Def K mg "is_crowd" ZgP ["thing","many"]):Callee P w K mg base (k+1) "is_crowd" ZdC :=
 D.ok Znk λ_ cdv A outer s H E hr=>by exact(Zo (Zz (Zfe (Zm Zbf hr (Zb (Zd 0) (Zb (Zd 1) Zf))) (Zfd (ZkM cGt (Zbr T.n_len (Zr 0)) Zi)))))
theorem ZqB:Zt ["thing","least","most"] ["thing","least","most"] (Zh ZiG):=scM
theorem ZqC(T:Txt K mg)(D:Def K mg "is_row" ZiG ["thing","least","most"]):Callee P w K mg base (k+1) "is_row" Z6 :=
 D.ok ZqB λ_ cdv A outer s H E hr=>by exact(Zo (Zz (Zfe (Ziy T.n_isinstance T.n_tuple (Zd 0)) (Zfd (Zm7 cLe cLe (Zd 1) (Zbr T.n_len (Zr 0)) (Zd 2))))))
theorem Zpf:Zt ["thing","many"] ["thing","many"] (Zh ZfI):=scM
theorem Zpg(T:Txt K mg)(ZM:Callee P w K mg base k "is_row" Z6)(Zbf:Callee P w K mg base k "is_rising" Zau)(D:Def K mg "is_deed" ZfI ["thing","many"]):Callee P w K mg base (k+1) "is_deed" ZcG :=
 D.ok Zpf λ_ cdv A outer s H E hr=>by exact(Zo (Zz (Zfe (Zm ZM hr (Zb (Zd 0) (Zb (Zd 1) (Zb (Zd 1) Zf)))) (Zfd (Zf6 T.n_all rfl (ZaF (ZaL rfl rfl (N:=["crowd","thing","many"]) (ZG (sc:=Zh ZfI) (XN:=["thing","many"])) (Zaj (Zd 0)) (λ_ _ _ _ _=>Zbb) (λ_ _ _ _ _=>(Zm Zbf hr (Zb (Zd 0) (Zb (Zd 2) Zf)))))))))))
theorem ZmD:Zt ["thing","many"] ["thing","many"] (Zh Zej):=scM
theorem ZmE(T:Txt K mg)(ZM:Callee P w K mg base k "is_row" Z6)(ZhH:Callee P w K mg base k "is_deed" ZcG)(D:Def K mg "are_deeds" Zej ["thing","many"]):Callee P w K mg base (k+1) "are_deeds" Zc7 :=
 D.ok ZmD λ_ cdv A outer s H E hr=>by exact(Zo (Zz (Zfe (Zm ZM hr (Zb (Zd 0) (Zb Zi (Zb (ZfW T.c_MOST_DEEDS) Zf)))) (Zfd (Zf6 T.n_all rfl (ZaF (ZaL rfl rfl (N:=["deed","thing","many"]) (ZG (sc:=Zh Zej) (XN:=["thing","many"])) (Zaj (Zd 0)) (λ_ _ _ _ _=>Zbb) (λ_ _ _ _ _=>(Zm ZhH hr (Zb (Zd 0) (Zb (Zd 2) Zf)))))))))))
theorem Zph:Zt ["thing","many"] ["thing","many"] (Zh ZfJ):=scM
theorem Zpi(T:Txt K mg)(ZM:Callee P w K mg base k "is_row" Z6)(Zav:Callee P w K mg base k "is_number" Zab)(D:Def K mg "is_look" ZfJ ["thing","many"]):Callee P w K mg base (k+1) "is_look" ZcH :=
 D.ok Zph λ_ cdv A outer s H E hr=>by exact(Zo (Zz (Zfe (Zm ZM hr (Zb (Zd 0) (Zb (Zd 1) (Zb (Zd 1) Zf)))) (Zfd (Zf6 T.n_all rfl (ZaF (ZaL rfl rfl (N:=["told","thing","many"]) (ZG (sc:=Zh ZfJ) (XN:=["thing","many"])) (Zaj (Zd 0)) (λ_ _ _ _ _=>Zbb) (λ_ _ _ _ _=>(Zm Zav hr (Zb (Zd 0) (Zb Zi (Zb (ZfW T.c_MOST_SEEN) Zf))))))))))))
theorem ZmF:Zt ["thing","many"] ["thing","many"] (Zh Zek):=scM
theorem ZmG(T:Txt K mg)(ZM:Callee P w K mg base k "is_row" Z6)(ZhI:Callee P w K mg base k "is_look" ZcH)(D:Def K mg "are_looks" Zek ["thing","many"]):Callee P w K mg base (k+1) "are_looks" Zc8 :=
 D.ok ZmF λ_ cdv A outer s H E hr=>by exact(Zo (Zz (Zfe (Zm ZM hr (Zb (Zd 0) (Zb Zi (Zb (ZfW T.c_MOST_LOOKS) Zf)))) (Zfd (Zf6 T.n_all rfl (ZaF (ZaL rfl rfl (N:=["look","thing","many"]) (ZG (sc:=Zh Zek) (XN:=["thing","many"])) (Zaj (Zd 0)) (λ_ _ _ _ _=>Zbb) (λ_ _ _ _ _=>(Zm ZhI hr (Zb (Zd 0) (Zb (Zd 2) Zf)))))))))))
theorem Zim:Zt ["thing","many"] ["thing"] (Zh Zgc):=scM
theorem ZmH(T:Txt K mg)(Zg0:Callee P w K mg base k "is_crowd" ZdC)(Zbf:Callee P w K mg base k "is_rising" Zau)(ZM:Callee P w K mg base k "is_row" Z6)(Zav:Callee P w K mg base k "is_number" Zab)(Zgd:Callee P w K mg base k "are_deeds" Zc7)(Zge:Callee P w K mg base k "are_looks" Zc8)(D:Def K mg "are_works" Zgc ["thing"]):Callee P w K mg base (k+1) "are_works" Zc9 :=
 D.ok Zim λ_ cdv A outer s H E hr=>by
  exact(Zl (Za7 (Zm6 (ZkN (ZbZ (Zbq (Zm ZM hr (Zb (Zd 0) (Zb Zi (Zb Zi Zf)))))) (Zix (ZbZ (Zbq (Zm Zav hr (Zb (ZN (Zr 0) Zi) (Zb Zi (Zb (ZfW T.c_MOST_STATES) Zf))))))))) (Zo (Zz Zbt)) Zal)
  (Zl (Z5 1 Zim.nd (ZN (Zr 0) Zi))
  (Zl (Za7 (Zm6 (ZkN (ZbZ (Zbq (Zm Zgd hr (Zb (ZN (Zr 0) Zi) (Zb (Zd 1) Zf))))) (Zix (ZbZ (Zbq (Zm Zge hr (Zb (ZN (Zr 0) Zi) (Zb (Zd 1) Zf)))))))) (Zo (Zz Zbt)) Zal)
  (Zo (Zz (Zfe (Zm Zg0 hr (Zb (ZN (Zr 0) Zi) (Zb (Zd 1) Zf))) (Zfd (Zm Zbf hr (Zb (ZN (Zr 0) Zi) (Zb (Zd 1) Zf))))))))))
theorem Zpj:Zt ["works"] ["works"] (Zh ZhF):=scM
theorem Zpk(T:Txt K mg)(Zgf:Callee P w K mg base k "are_works" Zc9)(D:Def K mg "checked" ZhF ["works"]):Callee P w K mg base (k+1) "checked" Zbc :=
 D.ok Zpj λ_ cdv A outer s H E hr=>by
  exact(Zl (Za7 (ZbZ (Zbq (Zm Zgf hr (Zb (Zd 0) Zf)))) (Zo ZhB) Zal)
  (Zo (Zz (Zd 0))))
theorem Zkc:Zt ["thing","many"] ["thing","many"] (Zh Zc3):=scM
theorem Zkd(T:Txt K mg)(ZM:Callee P w K mg base k "is_row" Z6)(Zav:Callee P w K mg base k "is_number" Zab)(D:Def K mg "is_price_row" Zc3 ["thing","many"]):Callee P w K mg base (k+1) "is_price_row" ZE :=
 D.ok Zkc λ_ cdv A outer s H E hr=>by exact(Zo (Zz (Zfe (Zm ZM hr (Zb (Zd 0) (Zb (Zd 1) (Zb (Zd 1) Zf)))) (Zfd (Zf6 T.n_all rfl (ZaF (ZaL rfl rfl (N:=["price","thing","many"]) (ZG (sc:=Zh Zc3) (XN:=["thing","many"])) (Zaj (Zd 0)) (λ_ _ _ _ _=>Zbb) (λ_ _ _ _ _=>(Zm Zav hr (Zb (Zd 0) (Zb (ZfW T.c_LEAST_PRICE) (Zb (ZfW T.c_MOST_PRICE) Zf))))))))))))
theorem Znm:Zt ["works"] ["works"] (Zh ZgQ):=scM
theorem Znn(T:Txt K mg)(D:Def K mg "deeds_of" ZgQ ["works"]):Callee P w K mg base (k+1) "deeds_of" Zaz :=
 D.ok Znm λ_ cdv A outer s H E hr=>by exact(Zo (Zz (ZN (Zr 0) Zi)))
theorem Zno:Zt ["works"] ["works"] (Zh ZgR):=scM
theorem Znp(T:Txt K mg)(D:Def K mg "looks_of" ZgR ["works"]):Callee P w K mg base (k+1) "looks_of" Zby :=
 D.ok Zno λ_ cdv A outer s H E hr=>by exact(Zo (Zz (ZN (Zr 0) Zi)))
theorem Zfi:Zt ["works","prices"] ["works","prices"] (Zh Zcn):=scM
theorem Ziw(T:Txt K mg)(ZM:Callee P w K mg base k "is_row" Z6)(ZaO:Callee P w K mg base k "is_price_row" ZE)(Zaf:Callee P w K mg base k "deeds_of" Zaz)(ZbC:Callee P w K mg base k "looks_of" Zby)(Fn:Fun K "checked_prices" "checked_prices" Zcn f fd)(hm:mg "checked_prices" = Z (.ref f))(hb:Binds K fd ["works","prices"] []):Za5 P w K mg base (k+1) "checked_prices" Zv :=
 ZhT Fn Zfi hm hb λcdv A outer s H E hr=>by
  exact(ZhU (Zrf (ZbZ (Zbq (Zm ZM hr (Zb (Zd 1) (Zb Zi (Zb Zi Zf)))))) (ZdV (Zmp Zid rfl T.x_BadPrices (Zb Zfc Zf))) Zn3) (Za7 (ZbZ (Zbq (Zm ZM hr (Zb (Zd 1) (Zb Zi (Zb Zi Zf)))))) (Zo ZhB) Zal)
  (ZdV (Zrf (Zm6 (ZkN (ZbZ (Zbq (Zm ZaO hr (Zb (ZN (Zr 1) Zi) (Zb (Zbr T.n_len (ZaB (Zm Zaf hr (Zb (Zd 0) Zf)))) Zf))))) (Zix (ZbZ (Zbq (Zm ZaO hr (Zb (ZN (Zr 1) Zi) (Zb (Zbr T.n_len (ZaB (Zm ZbC hr (Zb (Zd 0) Zf)))) Zf)))))))) (ZdV (Zmp Zid rfl T.x_BadPrices (Zb Zfc Zf))) Zn3)))
theorem ZiI(T:Txt K mg)(ZM:Callee P w K mg base k "is_row" Z6)(ZaO:Callee P w K mg base k "is_price_row" ZE)(Zaf:Callee P w K mg base k "deeds_of" Zaz)(ZbC:Callee P w K mg base k "looks_of" Zby)(D:Def K mg "checked_prices" Zcn ["works","prices"]):Callee P w K mg base (k+1) "checked_prices" Zbl :=
 D.ok Zfi λ_ cdv A outer s H E hr=>by
  exact(Zl (Za7 (ZbZ (Zbq (Zm ZM hr (Zb (Zd 1) (Zb Zi (Zb Zi Zf)))))) (Zo ZhB) Zal)
  (Zl (Za7 (Zm6 (ZkN (ZbZ (Zbq (Zm ZaO hr (Zb (ZN (Zr 1) Zi) (Zb (Zbr T.n_len (ZaB (Zm Zaf hr (Zb (Zd 0) Zf)))) Zf))))) (Zix (ZbZ (Zbq (Zm ZaO hr (Zb (ZN (Zr 1) Zi) (Zb (Zbr T.n_len (ZaB (Zm ZbC hr (Zb (Zd 0) Zf)))) Zf)))))))) (Zo ZhB) Zal)
  (Zo (Zz (Zd 1)))))
theorem Zin:Zt ["rows"] ["rows"] (Zh Zcs):=scM
theorem Zlu(T:Txt K mg)(Fn:Fun K "crowds_in" "crowds_in" Zcs f fd)(hm:mg "crowds_in" = Z (.ref f))(hb:Binds K fd ["rows"] []):Zd5 P w K mg base (k+1) "crowds_in" Zac :=
 ZqM Fn Zin hm hb rfl (λr b h=>Ztj _ _ _ r b h) λcdv A outer s H E hr=>by exact(ZaL rfl rfl (N:=["row","rows"]) (ZG (sc:=Zh Zcs) (XN:=["rows"])) (Zaj (Zd 0)) (λ_ _ _ _ _=>Zbb) (λ_ _ _ _ _=>(ZN (Zr 0) Zi)))
theorem ZmI(T:Txt K mg)(D:Def K mg "crowds_in" Zcs ["rows"]):Callee P w K mg base (k+1) "crowds_in" Zac :=
 D.ok Zin λ_ cdv A outer s H E hr=>by exact(Zo (Zz (Zcm (ZaL rfl rfl (N:=["row","rows"]) (ZG (sc:=Zh Zcs) (XN:=["rows"])) (Zaj (Zd 0)) (λ_ _ _ _ _=>Zbb) (λ_ _ _ _ _=>(ZN (Zr 0) Zi))))))
theorem ZfF:Zt ["rows","costs","known"] ["rows","costs"] (Zh ZcI):=scM
theorem ZjK(T:Txt K mg)(Zdf:Callee P w K mg base k "crowds_in" Zac)(D:Def K mg "cost_at_worst" ZcI ["rows","costs"]):Callee P w K mg base (k+1) "cost_at_worst" ZaZ :=
 D.ok ZfF λ_ cdv A outer s H E hr=>by
  have hu:=ZdL hr;exact(Zl (Zea 2 ZfF.nd rfl rfl (N:=["part","rows","costs","known"]) (ZG (sc:=Zh ZcI) (XN:=["rows","costs","known"])) (Zaj (Zm Zdf hr (Zb (Zd 0) Zf))) (λ_ _ _ _ _=>(Zdp (Zv1 hu (Zd 0) (Zr 2)))) (λ_ _ _ _ _=>(Zd2 hu (Zr 2) (Zd 0))))
  (Zo (Zz (Zur (ZaC (cEq hr) (Zbr T.n_len (Zr 2)) (Zbr T.n_len (Zr 0))) (ZuH T.n_max rfl (Zr 2)) ZeE))))
theorem ZiJ:Zt ["way","costs","most"] ["way","costs"] (Zh Ze2):=scM
theorem Znq(T:Txt K mg)(ZdP:Callee P w K mg base k "cost_at_worst" ZaZ)(D:Def K mg "price_by" Ze2 ["way","costs"]):Callee P w K mg base (k+1) "price_by" ZcT :=
 D.ok ZiJ λ_ cdv A outer s H E hr=>by
  exact(Zl (Z5 2 ZiJ.nd (Zm ZdP hr (Zb (ZN (Zr 0) Zi) (Zb (Zd 1) Zf))))
  (Zo (Zz (Zur (ZaC ZyE (Zd 2) ZeE) ZeE (ZI Zb7 (Zd 2) (ZN (ZaB (ZN (Zr 0) Zi)) Zi))))))
theorem Zpl:Zt ["rows","steps"] ["rows","steps"] (Zh ZfL):=scM
theorem Zpm(T:Txt K mg)(D:Def K mg "plan_of" ZfL ["rows","steps"]):Callee P w K mg base (k+1) "plan_of" Zdq :=
 D.ok Zpl λ_ cdv A outer s H E hr=>by have hu:=ZdL hr;exact(Zo (Zz (ZaD T.n_tuple (ZaF (Zj9 rfl rfl (N:=["seen","part","rows","steps"]) (ZG (sc:=Zh ZfL) (XN:=["rows","steps"])) (Zaj (Zd 0)) (λ_ _ _ _ _=>Zbb) (λ_ _ _ _ _=>(ZJ (Zb (Zd 0) (Zb (Zd2 hu (Zr 3) (Zd 1)) Zf)))))))))
theorem ZgB:Zt ["way","steps","rows"] ["way","steps"] (Zh Zct):=scM
theorem ZkS(T:Txt K mg)(ZhJ:Callee P w K mg base k "plan_of" Zdq)(D:Def K mg "bought_step" Zct ["way","steps"]):Callee P w K mg base (k+1) "bought_step" Za3 :=
 D.ok ZgB λ_ cdv A outer s H E hr=>by
  exact(Zl (Z5 2 ZgB.nd (Zm ZhJ hr (Zb (ZN (Zr 0) Zi) (Zb (Zd 1) Zf))))
  (Zl (Za7 (ZaC (cEq hr) (ZN (ZaB (ZN (Zr 0) Zi)) Zi) Zfc) (Zo (Zz (ZJ (Zb Zfc (Zb (ZN (ZaB (ZN (Zr 0) Zi)) Zi) (Zb (ZN (ZaB (ZN (Zr 2) Zi)) Zi) Zf)))))) Zal)
  (Zo (Zz (ZJ (Zb Zfc (Zb (ZN (ZaB (ZN (Zr 0) Zi)) Zi) (Zb (ZaD T.n_tuple (ZaF (Zj9 rfl rfl (N:=["seen","step","way","steps","rows"]) (ZG (sc:=Zh Zct) (XN:=["way","steps","rows"])) (Zaj (Zd 2)) (λ_ _ _ _ _=>Zbb) (λ_ _ _ _ _=>(ZJ (Zb (ZN (Zr 0) Zi) (Zb (Zd 1) Zf))))))) Zf))))))))
theorem Zpn:Zt ["works","looks","state"] ["works","looks","state"] (Zh ZfK):=scM
theorem Zpo(T:Txt K mg)(ZbC:Callee P w K mg base k "looks_of" Zby)(D:Def K mg "seen_in" ZfK ["works","looks","state"]):Callee P w K mg base (k+1) "seen_in" Zec :=
 D.ok Zpn λ_ cdv A outer s H E hr=>by exact(Zo (Zz (ZaD T.n_tuple (ZaF (ZaL rfl rfl (N:=["look","works","looks","state"]) (ZG (sc:=Zh ZfK) (XN:=["works","looks","state"])) (Zaj (Zd 1)) (λ_ _ _ _ _=>Zbb) (λ_ _ _ _ _=>(ZN (ZaB (ZN (ZaB (Zm ZbC hr (Zb (Zd 1) Zf))) (Zd 0))) (Zd 3))))))))
abbrev ZiR:List Str:=["works","looks","crowd","found","state"]
theorem ZhK:Zt ZiR ["works","looks","crowd"] (Zh ZgA):=scM
theorem ZqD(T:Txt K mg)(ZhL:Callee P w K mg base k "seen_in" Zec)(D:Def K mg "parted" ZgA ["works","looks","crowd"]):Callee P w K mg base (k+1) "parted" ZbE :=
 D.ok ZhK λ_ cdv A outer s H E hr=>by
  have hu:=ZdL hr;exact(Zl (Zay 3 ZhK.nd ZvY)
  (Zl (Zcq 4 ZhK.nd rfl rfl (Zaj (Zd 2)) (Zo (Zs5 hu 3 (Zm ZhL hr (Zb (Zd 0) (Zb (Zd 1) (Zb (Zd 4) Zf)))) (Zd 4) ⟨rfl,rfl,rfl,rfl⟩)))
  (Zo (Zz (Zcm (ZaL rfl rfl (N:="seen" :: ZiR) (ZG (sc:=Zh ZgA) (XN:=ZiR)) (Zaj (Zcm (Ziz T.n_sorted rfl (Zr 3)))) (λ_ _ _ _ _=>Zbb) (λ_ _ _ _ _=>(ZJ (Zb (Zd 0) (Zb (ZaD T.n_tuple (ZvZ hu 4 (Zd 0))) Zf))))))))))
theorem ZgC:Zt ["works","crowd","deed","leads"] ["works","crowd","deed"] (Zh Zds):=scM
theorem ZkT(T:Txt K mg)(Zaf:Callee P w K mg base k "deeds_of" Zaz)(D:Def K mg "can_be_done" Zds ["works","crowd","deed"]):Callee P w K mg base (k+1) "can_be_done" Zcr :=
 D.ok ZgC λ_ cdv A outer s H E hr=>by
  exact(Zl (Z5 3 ZgC.nd (ZN (ZaB (Zm Zaf hr (Zb (Zd 0) Zf))) (Zd 2)))
  (Zo (Zz (Zf6 T.n_all rfl (ZaF (ZaL rfl rfl (N:=["state","works","crowd","deed","leads"]) (ZG (sc:=Zh Zds) (XN:=["works","crowd","deed","leads"])) (Zaj (Zd 1)) (λ_ _ _ _ _=>Zbb) (λ_ _ _ _ _=>(ZkM cGt (Zbr T.n_len (ZaB (ZN (Zr 4) (Zd 0)))) Zi))))))))
theorem Zlv:Zt ["works","crowd"] ["works","crowd"] (Zh ZdJ):=scM
theorem Zlw(T:Txt K mg)(ZeG:Callee P w K mg base k "can_be_done" Zcr)(Zaf:Callee P w K mg base k "deeds_of" Zaz)(D:Def K mg "deeds_with" ZdJ ["works","crowd"]):Callee P w K mg base (k+1) "deeds_with" ZcN :=
 D.ok Zlv λ_ cdv A outer s H E hr=>by exact(Zo (Zz (Zcm (ZaL rfl rfl (N:=["deed","works","crowd"]) (ZG (sc:=Zh ZdJ) (XN:=["works","crowd"])) (Zca T.n_range (Zbr T.n_len (ZaB (Zm Zaf hr (Zb (Zd 0) Zf))))) (λ_ _ _ _ _=>(Zdp (Zbq (Zm ZeG hr (Zb (Zd 1) (Zb (Zd 2) (Zb (Zd 0) Zf))))))) (λ_ _ _ _ _=>(Zd 0))))))
theorem Zeq:Zt ["works","crowd","deed","leads","found","state","target"] ["works","crowd","deed"] (Zh ZiH):=scM
theorem ZqE(T:Txt K mg)(Zaf:Callee P w K mg base k "deeds_of" Zaz)(D:Def K mg "led_to" ZiH ["works","crowd","deed"]):Callee P w K mg base (k+1) "led_to" Zd3 :=
 D.ok Zeq λ_ cdv A outer s H E hr=>by
  have hu:=ZdL hr;exact(Zl (Z5 3 Zeq.nd (ZN (ZaB (Zm Zaf hr (Zb (Zd 0) Zf))) (Zd 2)))
  (Zl (Zay 4 Zeq.nd ZxH)
  (Zl (Zcq 5 Zeq.nd rfl rfl (Zaj (Zd 1)) (Zo (Zcq 6 Zeq.nd rfl rfl (Zaj (ZN (Zr 3) (Zd 5))) (Zo (Zf7 hu 4 (Zd 6) Zbt)))))
  (Zo (Zz (ZaD T.n_tuple (ZaF (Ziz T.n_sorted rfl (Zr 4)))))))))
theorem ZmJ:Zt ["works","looks","crowd"] ["works","looks","crowd"] (Zh Zem):=scM
theorem ZmK(T:Txt K mg)(Zd4:Callee P w K mg base k "parted" ZbE)(Zfu:Callee P w K mg base k "deeds_with" ZcN)(ZiK:Callee P w K mg base k "led_to" Zd3)(D:Def K mg "ways_with" Zem ["works","looks","crowd"]):Callee P w K mg base (k+1) "ways_with" Zbe :=
 D.ok ZmJ λ_ cdv A outer s H E hr=>by exact(Zo (Zz (Zcm (ZaL rfl rfl (N:=["deed","works","looks","crowd"]) (ZG (sc:=Zh Zem) (XN:=["works","looks","crowd"])) (Zaj (Zm Zfu hr (Zb (Zd 0) (Zb (Zd 2) Zf)))) (λ_ _ _ _ _=>Zbb) (λ_ _ _ _ _=>(ZJ (Zb (Zd 0) (Zb (Zm Zd4 hr (Zb (Zd 1) (Zb (Zd 2) (Zb (Zm ZiK hr (Zb (Zd 1) (Zb (Zd 3) (Zb (Zd 0) Zf)))) Zf)))) Zf))))))))
theorem Zke:Zt ["works","prices","crowd"] ["works","prices","crowd"] (Zh Zc4):=scM
theorem Zkf(T:Txt K mg)(Zgg:Callee P w K mg base k "ways_with" Zbe)(D:Def K mg "deeds_to_buy" Zc4 ["works","prices","crowd"]):Callee P w K mg base (k+1) "deeds_to_buy" Zc1 :=
 D.ok Zke λ_ cdv A outer s H E hr=>by exact(Zo (Zz (Zcm (Zj9 rfl rfl (N:=["deed","rows","works","prices","crowd"]) (ZG (sc:=Zh Zc4) (XN:=["works","prices","crowd"])) (Zaj (Zm Zgg hr (Zb (Zd 0) (Zb (ZJ Zf) (Zb (Zd 2) Zf))))) (λ_ _ _ _ _=>Zbb) (λ_ _ _ _ _=>(ZJ (Zb (ZJ (Zb Zfc (Zb (Zd 0) (Zb (ZN (ZaB (ZN (Zr 3) Zi)) (Zd 0)) Zf)))) (Zb (Zd 1) Zf))))))))
abbrev Zce:List Str:=["works","prices","crowd","found"]
theorem Zgh:Zt Zce ["works","prices","crowd"] (Zh Zcd):=scM
theorem Zkg(T:Txt K mg)(Zd4:Callee P w K mg base k "parted" ZbE)(D:Def K mg "looks_to_buy" Zcd ["works","prices","crowd"]):Callee P w K mg base (k+1) "looks_to_buy" Zc2 :=
 D.ok Zgh λ_ cdv A outer s H E hr=>by
  exact(Zl (Zne 3 Zgh.nd rfl rfl (N:="look" :: "price" :: Zce) (ZG (sc:=Zh Zcd) (XN:=Zce)) (ZuI T.n_enumerate (ZN (Zr 1) Zi)) (λ_ _ _ _ _=>Zbb) (λ_ _ _ _ _=>(ZJ (Zb (ZJ (Zb Zfc (Zb (Zd 0) (Zb (Zd 1) Zf)))) (Zb (Zm Zd4 hr (Zb (Zd 2) (Zb (ZJ (Zb (Zd 0) Zf)) (Zb (Zd 4) Zf)))) Zf)))))
  (Zo (Zff 3 (Zz (Zcm (ZaL rfl rfl (N:="way" :: Zce) (ZG (sc:=Zh Zcd) (XN:=Zce)) (Zaj (Zd 3)) (λ_ _ _ _ _=>(Zdp (ZaC cGt (Zbr T.n_len (ZaB (ZN (Zr 0) Zi))) Zi))) (λ_ _ _ _ _=>(Zd 0))))))))
theorem ZkU:Zt ["works","prices","crowd"] ["works","prices","crowd"] (Zh ZeF):=scM
theorem ZkV(T:Txt K mg)(Zer:Callee P w K mg base k "deeds_to_buy" Zc1)(Zes:Callee P w K mg base k "looks_to_buy" Zc2)(D:Def K mg "ways_to_buy" ZeF ["works","prices","crowd"]):Callee P w K mg base (k+1) "ways_to_buy" Zam :=
 D.ok ZkU λ_ cdv A outer s H E hr=>by exact(Zo (Zz (Zcm (ZuJ (ZaB (Zm Zer hr (Zb (Zd 0) (Zb (Zd 1) (Zb (Zd 2) Zf))))) (ZaB (Zm Zes hr (Zb (Zd 0) (Zb (Zd 1) (Zb (Zd 2) Zf)))))))))
theorem Zb4:Zt ["crowds","ways_for","reach","waiting","crowd","way"] ["crowds","ways_for"] (Zh Zel):=scM
theorem Zkh(T:Txt K mg)(Zdf:Callee P w K mg base k "crowds_in" Zac)(Zgi:Zd5 P w K mg base k "crowds_in" Zac)(CV:Zcy P w K mg base k ap)(D:Def K mg "reached_from" Zel ["crowds","ways_for"]):Callee P w K mg base (k+1) "reached_from" (Zcb ap) :=
 D.ok Zb4 λ_ cdv A outer s H E hr=>by
  have hu:=ZdL hr;exact(Zl (Zay 2 Zb4.nd ZmX)
  (Zl (Zay 3 Zb4.nd (Zgz T.n_list (Zr 0)))
  (Zl (Znb 100000 rfl (ZaC cGt (Zbr T.n_len (Zr 3)) Zi) (Zl (Zv2 4 3 Zb4.nd)
  (Zo (Za7 (Zl0 hu (Zd 4) (Zr 2)) (Zl (Zf7 hu 2 (Zd 4) (Zkb CV hr 1 (Zb (Zd 4) Zf)))
  (Zo (Zcq 5 Zb4.nd rfl rfl (Zaj (Zd2 hu (Zr 2) (Zd 4))) (Zo (ZrH 3 (ZaF (Zs6 Zgi hr (Zb (ZN (Zr 5) Zi) Zf)))))))) Zal))))
  (Zo (Zff 2 (Zz (Zd 2)))))))
theorem Znr:Zt ["works"] ["works"] (Zh ZgS):=scM
theorem Zns(T:Txt K mg)(D:Def K mg "begin_of" ZgS ["works"]):Callee P w K mg base (k+1) "begin_of" Zbz :=
 D.ok Znr λ_ cdv A outer s H E hr=>by exact(Zo (Zz (ZN (Zr 0) Zi)))
theorem Ziu:Zt ["works","prices"] ["works","prices"] (Zh ZD):=scM
theorem ZwX:ZqP ["works","prices"] (Zh ZD) (ZlW ZD) ["works","prices"] [0,1]=ZEN:=by decide +kernel
theorem Ziv(T:Txt K mg)(Zet:Callee P w K mg base k "reached_from" (Zcb ap))(ZbD:Callee P w K mg base k "begin_of" Zbz)(Zcv:Callee P w K mg base k "ways_to_buy" Zam){Tl:Addr}(hc:ZA9 K c Tl=ZEN)(ht:(Tl,("reach_by_buying.<locals>.<lambda>":Str))∈FX.tl)(hq:∀q,(Tl,q)∈FX.tl->q=("reach_by_buying.<locals>.<lambda>":Str))(bm:BMod base mg)(good:∀F p cs,Clo K F p (Zv5 ZD) (Zue ZD) (ZlW ZD) ["works","prices"] cs->FX.fv 6 cs F p)(Fn:Zrg K "reach_by_buying" "reach_by_buying" ZD f fd c)(hm:mg "reach_by_buying" = Z (.ref f))(hb:Binds K fd ["works","prices"] []):Callee P w K mg base (k+1) "reach_by_buying" (Zap ap) :=
 Zrr Fn Ziu hm hb λA outer s H E hr=>by exact(Zo (Zz (Zqy Zet hr (Zuc ZwX hc ht hq bm good) (Zcm (Zba (Zb (Zm ZbD hr (Zb (Zd 0) Zf)) Zf))))))
abbrev ZcR:List Str:=["ways","costs","cost_by","told"]
theorem Zhn:Zt ZcR ["ways","costs","cost_by"] (Zh ZcP):=scM
theorem Zlx(T:Txt K mg)(CV:Zcy P w K mg base k ap)(D:Def K mg "least_cost" ZcP ["ways","costs","cost_by"]):Callee P w K mg base (k+1) "least_cost" (ZaV ap) :=
 D.ok Zhn λ_ cdv A outer s H E hr=>by
  exact(Zl (Zea 3 Zhn.nd rfl rfl (N:="way" :: ZcR) (ZG (sc:=Zh ZcP) (XN:=ZcR)) (Zaj (Zd 0)) (λ_ _ _ _ _=>Zbb) (λ_ _ _ _ _=>(Zkb CV hr 3 (Zb (Zd 0) (Zb (Zd 2) Zf)))))
  (Zo (Zff 3 (Zz (ZpS T.n_min rfl (ZaF (ZaL rfl rfl (N:="cost" :: ZcR) (ZG (sc:=Zh ZcP) (XN:=ZcR)) (Zaj (Zd 3)) (λ_ _ _ _ _=>(Zdp (ZaC ZuE (Zd 0) ZeE))) (λ_ _ _ _ _=>(Zd 0)))))))))
theorem Zdt:Zt ["reach","costs","cost_by","found","crowd","cost"] ["reach","costs","cost_by"] (Zh Zfs):=scM
theorem Zla(T:Txt K mg)(Zb8:Callee P w K mg base k "least_cost" (ZaV ap))(Fn:Fun K "next_costs" "next_costs" Zfs f fd)(hm:mg "next_costs" = Z (.ref f))(hb:Binds K fd ["reach","costs","cost_by"] []):Zd8 P w K mg base (k+1) "next_costs" (Zbo ap) :=
 ZqV Fn Zdt hm hb λcdv A outer s H E hr=>by
  have hu:=ZdL hr;exact(ZoI (Zay 3 Zdt.nd ZmX)
  (ZoI (Zhj 0 (Zcq 4 Zdt.nd rfl rfl (Zhk 0) (Zo (Za7 (Zl0 hu (Zd 4) (Zr 1)) (Zl (Z5 5 Zdt.nd (Zm Zb8 hr (Zb (Zd2 hu (Zr 0) (Zd 4)) (Zb (Zd 1) (Zb (Zd 2) Zf)))))
  (Zo (Za7 (ZaC ZuE (Zd 5) ZeE) (Zo (Zf7 hu 3 (Zd 4) (Zd 5))) Zal))) Zal))))
  (ZvR 3)))
theorem Zpp:Zt ["works"] ["works"] (Zh ZhE):=scM
theorem Zpq(T:Txt K mg)(D:Def K mg "goal_of" ZhE ["works"]):Callee P w K mg base (k+1) "goal_of" Zeg :=
 D.ok Zpp λ_ cdv A outer s H E hr=>by exact(Zo (Zz (ZN (Zr 0) Zi)))
theorem Znt:Zt ["works","crowd"] ["works","crowd"] (Zh Ze0):=scM
theorem Znu(T:Txt K mg)(ZhM:Callee P w K mg base k "goal_of" Zeg)(D:Def K mg "is_there" Ze0 ["works","crowd"]):Callee P w K mg base (k+1) "is_there" ZbW :=
 D.ok Znt λ_ cdv A outer s H E hr=>by exact(Zo (Zz (Zf6 T.n_all rfl (ZaF (ZaL rfl rfl (N:=["state","works","crowd"]) (ZG (sc:=Zh Ze0) (XN:=["works","crowd"])) (Zaj (Zd 1)) (λ_ _ _ _ _=>Zbb) (λ_ _ _ _ _=>(Zv0 (Zd 0) (ZaB (Zm ZhM hr (Zb (Zd 1) Zf))))))))))
abbrev Ze7:List Str:=["works","reach","cost_by","costs","cost","found","crowd","offered"]
theorem ZbG:Zt Ze7 ["works","reach","cost_by"] (Zh ZcU):=scM
theorem Znv(T:Txt K mg)(Zg1:Callee P w K mg base k "is_there" ZbW)(Gf_next_costs:Zd8 P w K mg base k "next_costs" (Zbo ap))(D:Def K mg "costs_of" ZcU ["works","reach","cost_by"]):Callee P w K mg base (k+1) "costs_of" (Zch ap) :=
 D.ok ZbG λ_ cdv A outer s H E hr=>by
  have hu:=ZdL hr;exact(Zl (Zay 3 ZbG.nd ZmX)
  (Zl (Z5 4 ZbG.nd Zi)
  (Zl (Zhj 1 (Zea 5 ZbG.nd rfl rfl (N:=["crowd","works","reach","cost_by","costs","cost","found"," ","offered"]) (ZG (sc:=Zh ZcU) (XN:=Ze7)) (Zhk 1) (λ_ _ _ _ _=>(Zdp (Zbq (Zm Zg1 hr (Zb (Zd 1) (Zb (Zd 0) Zf)))))) (λ_ _ _ _ _=>(Zd 0))))
  (Zl (Znb 100000 rfl (ZaC cGt (Zbr T.n_len (Zr 5)) Zi) (Zl (Zff 5 (Zcq 6 ZbG.nd rfl rfl (Zaj (Zd 5)) (Zo (Zf7 hu 3 (Zd 6) (Zd 4)))))
  (Zl (Zay 7 ZbG.nd (Zs8 Gf_next_costs hr (Zka (Zd 1) (Znc (Zr 3) (Zka (Zd 2) (ZrG Zf))))))
  (Zl (Zff 7 (Zhj 7 (Z5 4 ZbG.nd (ZpS T.n_min rfl (ZaF (ZaL rfl rfl (N:=["crowd","works","reach","cost_by","costs","cost","found"," ","offered"]) (ZG (sc:=Zh ZcU) (XN:=Ze7)) (Zhk 7) (λ_ _ _ _ _=>Zbb) (λ_ _ _ _ _=>(Zd2 hu (Zr 8) (Zd 0)))))))))
  (Zo (Zff 7 (Zhj 7 (Zea 5 ZbG.nd rfl rfl (N:=["crowd","works","reach","cost_by","costs","cost","found"," ","offered"]) (ZG (sc:=Zh ZcU) (XN:=Ze7)) (Zhk 7) (λ_ _ _ _ _=>(Zdp (ZaC (cEq hr) (Zd2 hu (Zr 8) (Zd 0)) (Zd 5)))) (λ_ _ _ _ _=>(Zd 0))))))))))
  (Zo (Zff 3 (Zz (Zd 3))))))))
abbrev Zg8:List Str:=["ways","costs","cost_by","least"]
theorem ZiL:Zt Zg8 ["ways","costs","cost_by"] (Zh Ze1):=scM
theorem Znw(T:Txt K mg)(Zb8:Callee P w K mg base k "least_cost" (ZaV ap))(CV:Zcy P w K mg base k ap)(D:Def K mg "best_way" Ze1 ["ways","costs","cost_by"]):Callee P w K mg base (k+1) "best_way" (ZbA ap) :=
 D.ok ZiL λ_ cdv A outer s H E hr=>by
  exact(Zl (Z5 3 ZiL.nd (Zm Zb8 hr (Zb (Zd 0) (Zb (Zd 1) (Zb (Zd 2) Zf)))))
  (Zo (Zz (ZN (ZaF (ZaL rfl rfl (N:="way" :: Zg8) (ZG (sc:=Zh Ze1) (XN:=Zg8)) (Zaj (Zd 0)) (λ_ _ _ _ _=>(Zdp (ZaC (cEq hr) (Zkb CV hr 3 (Zb (Zd 0) (Zb (Zd 2) Zf))) (Zd 4)))) (λ_ _ _ _ _=>(Zd 0)))) Zi))))
theorem Zgj:Zt ["reach","costs","cost_by","step_by","steps","crowd"] ["reach","costs","cost_by","step_by"] (Zh ZgT):=scM
theorem Znx(T:Txt K mg)(Zg2:Callee P w K mg base k "best_way" (ZbA ap))(CV:Zcy P w K mg base k ap)(D:Def K mg "steps_of" ZgT ["reach","costs","cost_by","step_by"]):Callee P w K mg base (k+1) "steps_of" (ZeZ ap) :=
 D.ok Zgj λ_ cdv A outer s H E hr=>by
  have hu:=ZdL hr;exact(Zl (Zay 4 Zgj.nd ZmX)
  (Zl (Zhj 1 (Zcq 5 Zgj.nd rfl rfl (Zhk 1) (Zo (Za7 (ZaC (cEq hr) (Zd2 hu (Zr 1) (Zd 5)) Zi) (Zo (Zf7 hu 4 (Zd 5) (Zs7 T.c_DONE))) (Zo (Zf7 hu 4 (Zd 5) (ZrI CV hr 3 (Zka (Zm Zg2 hr (Zb (Zd2 hu (Zr 0) (Zd 5)) (Zb (ZxI 1) (Zb (Zd 2) Zf)))) (Znc (Zr 4) (ZrG Zf))))))))))
  (Zo (Zff 4 (Zz (Zd 4))))))
theorem Zco:Zt ["works","prices","reach","costs"] ["works","prices"] (Zh ZcJ):=scM
theorem Zjl(T:Txt K mg)(ZaW:Callee P w K mg base k "checked" Zbc)(Zv:Za5 P w K mg base k "checked_prices" Zv)(Fn:Fun K "a_bought_plan" "a_bought_plan" ZcJ f fd)(hm:mg "a_bought_plan" = Z (.ref f))(hb:Binds K fd ["works","prices"] []):Za5 P w K mg base (k+1) "a_bought_plan" Z0 :=
 ZhT Fn Zco hm hb λcdv A outer s H E hr=>by
  exact(ZhU ZuD (ZfX (Zm ZaW hr (Zb (Zd 0) Zf)))
  (ZdV (ZpV Zid.pass Zv hr (Zb (Zd 0) (Zb (Zd 1) Zf)))))
theorem ZjL(T:Txt K mg)(ZaW:Callee P w K mg base k "checked" Zbc)(Zbm:Callee P w K mg base k "checked_prices" Zbl)(Za4:Callee P w K mg base k "reach_by_buying" (Zap ap))(ZcV:Callee P w K mg base k "costs_of" (Zch ap))(ZbD:Callee P w K mg base k "begin_of" Zbz)(Zg3:Callee P w K mg base k "steps_of" (ZeZ ap))(Vff_price_by:GFn mg "price_by" 5)(Vff_bought_step:GFn mg "bought_step" 7)(D:Def K mg "a_bought_plan" ZcJ ["works","prices"]):Callee P w K mg base (k+1) "a_bought_plan" (Za0 ap) :=
 D.ok Zco λ_ cdv A outer s H E hr=>by
  have hu:=ZdL hr;exact(Zl (ZfX (Zm ZaW hr (Zb (Zd 0) Zf)))
  (Zl (ZfX (Zm Zbm hr (Zb (Zd 0) (Zb (Zd 1) Zf))))
  (Zl (Z5 2 Zco.nd (Zm Za4 hr (Zb (Zd 0) (Zb (Zd 1) Zf))))
  (Zl (Z5 3 Zco.nd (Zm ZcV hr (Zb (Zd 0) (Zb (Zd 2) (Zb (ZkO Vff_price_by) Zf)))))
  (Zo (Zz (Znd hu (ZaB (Zm Zg3 hr (Zb (Zd 2) (Zb (Zd 3) (Zb (ZkO Vff_price_by) (Zb (ZkO Vff_bought_step) Zf)))))) (Zm ZbD hr (Zb (Zd 0) Zf)) ⟨rfl,rfl,rfl,rfl⟩)))))))
theorem Zgk:Zt ["works","prices","costs"] ["works","prices"] (Zh Ze3):=scM
theorem ZmU(T:Txt K mg)(ZaW:Callee P w K mg base k "checked" Zbc)(Zv:Za5 P w K mg base k "checked_prices" Zv)(Fn:Fun K "cheapest" "cheapest" Ze3 f fd)(hm:mg "cheapest" = Z (.ref f))(hb:Binds K fd ["works","prices"] []):Za5 P w K mg base (k+1) "cheapest" ZaK :=
 ZhT Fn Zgk hm hb λcdv A outer s H E hr=>by
  exact(ZhU ZuD (ZfX (Zm ZaW hr (Zb (Zd 0) Zf)))
  (ZdV (ZpV Zid.pass Zv hr (Zb (Zd 0) (Zb (Zd 1) Zf)))))
theorem Zny(T:Txt K mg)(ZaW:Callee P w K mg base k "checked" Zbc)(Zbm:Callee P w K mg base k "checked_prices" Zbl)(ZcV:Callee P w K mg base k "costs_of" (Zch ap))(Za4:Callee P w K mg base k "reach_by_buying" (Zap ap))(ZbD:Callee P w K mg base k "begin_of" Zbz)(Vff_price_by:GFn mg "price_by" 5)(D:Def K mg "cheapest" Ze3 ["works","prices"]):Callee P w K mg base (k+1) "cheapest" (ZdF ap) :=
 D.ok Zgk λ_ cdv A outer s H E hr=>by
  have hu:=ZdL hr;exact(Zl (ZfX (Zm ZaW hr (Zb (Zd 0) Zf)))
  (Zl (ZfX (Zm Zbm hr (Zb (Zd 0) (Zb (Zd 1) Zf))))
  (Zl (Z5 2 Zgk.nd (Zm ZcV hr (Zb (Zd 0) (Zb (Zm Za4 hr (Zb (Zd 0) (Zb (Zd 1) Zf))) (Zb (ZkO Vff_price_by) Zf)))))
  (Zo (Zz (Znd hu (Zr 2) (Zm ZbD hr (Zb (Zd 0) Zf)) ⟨rfl,rfl,rfl,rfl⟩))))))
theorem ZiM:Zt ["_law_way","_law_works_here","_law_prices","e"] ["_law_way","_law_works_here","_law_prices"] (Zh ZgX):=scM
theorem Znz(T:Txt K mg)(ZdQ:Callee P w K mg base k "a_bought_plan" (Za0 ap))(Ze4:Callee P w K mg base k "cheapest" (ZdF ap))(Z0:Za5 P w K mg base k "a_bought_plan" Z0)(ZaK:Za5 P w K mg base k "cheapest" ZaK)(D:Def K mg "_law_told" ZgX ["_law_way","_law_works_here","_law_prices"]):Callee P w K mg base (k+1) "_law_told" (ZZ ap) :=
 D.ok ZiM λ_ cdv A outer s H E hr=>by
  exact(Zo (ZuK (j:=3) T.x_BadPrices T.n_ValueError T.n_isinstance rfl rfl rfl ZiM.nd (Zl (Za7 (ZaC (cEq hr) (Zd 0) Zi) (Zo (Zz (Zm Ze4 hr (Zb (Zd 1) (Zb (Zd 2) Zf))))) Zal)
  (Zo (Zz (Zm ZdQ hr (Zb (Zd 1) (Zb (Zd 2) Zf)))))) λpn Eh E0 hp=>(ZhU (Zrf (ZaC (cEq hr) (Zd 0) Zi) (ZdV (Zsj hp ZaK hr (Zb (Zd 1) (Zb (Zd 2) Zf)))) Zn3) (Za7 (ZaC (cEq hr) (Zd 0) Zi) (Zo (Zz (Zm Ze4 hr (Zb (Zd 1) (Zb (Zd 2) Zf))))) Zal)
  (ZdV (Zsj hp Z0 hr (Zb (Zd 1) (Zb (Zd 2) Zf)))))))
abbrev Zsk:List Str:=["_law_script","_law_works_here","_law_deeds","_law_looks","_law_way","_law_some","_law_bad"]
theorem Zcw:Zt Zsk ["_law_script"] (Zh Zfh):=scM
theorem ZuL(T:Txt K mg)(Zgl:Callee P w K mg base k "_law_works" Zbd)(Ze5:Callee P w K mg base k "_law_told" (ZZ ap))(ZaR:Callee P w K mg base k "_law_cell" ZY)(Fn:Fun K "law" "law" Zfh f fd):ZcY P w K mg base CX0 (k+1) f fd ["_law_script"] (spD K 1 (Zf9 ap)) :=
 Zqh Fn Zcw λcdv A outer s H E hr=>by
  exact(Zl (Z5 1 Zcw.nd (Zm Zgl hr (Zb (Zd 0) (Zb Zi Zf))))
  (Zl (Z5 2 Zcw.nd (ZpT (ZJ (Zb Zi Zf)) (Zbr T.n_len (ZaB (ZN (Zr 1) Zi)))))
  (Zl (Z5 3 Zcw.nd (ZpT (ZJ (Zb Zi Zf)) (Zbr T.n_len (ZaB (ZN (Zr 1) Zi)))))
  (Zl (Zcq 4 Zcw.nd rfl rfl (Zca T.n_range Zi) (Zo (Za7 (ZaC (ZyY hr) (Zm Ze5 hr (Zb (Zd 4) (Zb (Zd 1) (Zb (ZJ (Zb (Zd 2) (Zb (Zd 3) Zf))) Zf)))) (Zcm (Zba (Zb Zbt (Zb Zbt Zf))))) (Zo (Zz Zbt)) Zal)))
  (Zl (Zay 5 Zcw.nd (Zba (Zb ZeE (Zb (Zcm (Zba (Zb (Zd 2) (Zb (Zd 3) Zf)))) (Zb (ZJ (Zb (Zd 2) Zf)) (Zb (ZJ (Zb (Zd 2) (Zb (Zd 3) (Zb (ZJ Zf) Zf)))) (Zb (ZJ (Zb (Zcm (Zgz T.n_list (Zr 2))) (Zb (Zd 3) Zf))) Zf)))))))
  (Zl (Zay 5 Zcw.nd (Zhi (Zr 5) (ZaF (Zba (Zb (ZJ (Zb (Zd 2) (Zb (Zcm (Zgz T.n_list (Zr 3))) Zf))) (Zb (ZJ (Zb (ZdN (Zd 2) (ZJ (Zb Zi Zf))) (Zb (Zd 3) Zf))) Zf))))))
  (Zl (Zay 5 Zcw.nd (Zhi (Zr 5) (ZaF (Zba (Zb (ZJ (Zb (Zd 2) (Zb (ZdN (Zd 3) (ZJ (Zb Zi Zf))) Zf))) (Zb (ZJ (Zb (ZfY (Zd 2) (ZeL Zi) ZeQ) (Zb (Zd 3) Zf))) (Zb (ZJ (Zb (ZdN (ZfY (Zd 2) (ZeL Zi) ZeQ) (ZJ (Zb Zi Zf))) (Zb (Zd 3) Zf))) Zf)))))))
  (Zl (Zay 5 Zcw.nd (Zhi (Zr 5) (ZaF (Zba (Zb (ZJ (Zb (ZdN (ZfY (Zd 2) (ZeL Zi) ZeQ) (ZJ (Zb Zi Zf))) (Zb (Zd 3) Zf))) Zf)))))
  (Zl (Zay 5 Zcw.nd (Zhi (Zr 5) (ZaF (Zba (Zb (ZJ (Zb (ZdN (ZfY (Zd 2) (ZeL Zi) ZeQ) (ZJ (Zb Zbt Zf))) (Zb (Zd 3) Zf))) (Zb (ZJ (Zb (ZdN (ZfY (Zd 2) (ZeL Zi) ZeQ) (ZJ (Zb Zfc Zf))) (Zb (Zd 3) Zf))) (Zb (ZJ (Zb (ZdN (ZfY (Zd 2) (ZeL Zi) ZeQ) (ZJ (Zb ZeE Zf))) (Zb (Zd 3) Zf))) Zf)))))))
  (Zl (Z5 6 Zcw.nd (ZN (Zr 5) (ZI oMod (Zm ZaR hr (Zb (Zd 0) (Zb Zi Zf))) Zi)))
  (Zo (Zz (ZkM (cEq hr) (Zcm (ZaL rfl rfl (N:=["_law_way","_law_script","_law_works_here","_law_deeds","_law_looks"," ","_law_some","_law_bad"]) (ZG (sc:=Zh Zfh) (XN:=Zsk)) (Zca T.n_range Zi) (λ_ _ _ _ _=>(Zdp (ZaC (Zy0 hr) (Zm Ze5 hr (Zb (Zd 0) (Zb (Zd 2) (Zb (Zd 7) Zf)))) (Zcm (Zba (Zb Zbt (Zb Zbt Zf))))))) (λ_ _ _ _ _=>(Zd 0)))) (Zcm (Zba Zf)))))))))))))))
def FvI(K:Zzx)(t:Nat)(cs:List PyData)(F:Hp)(a:Addr):Prop :=
 (t=5/\cs=[]/\ZBa K ZAb "price_by" = Z (Z (.ref a)))\/(t=7/\cs=[]/\ZBa K ZAb "bought_step" = Z (Z (.ref a)))\/(t=6/\Clo K F a (Zv5 ZD) (Zue ZD) (ZlW ZD) ["works","prices"] cs)
theorem ZwQ:Zkl (ZlW ZD) "crowd" ["works","prices"]:=⟨rfl,rfl,rfl,by decide +kernel,rfl,by decide +kernel,by decide +kernel⟩
theorem Zxo(T:Txt K mg)(Zcv:Callee P w K mg base k "ways_to_buy" Zam)(qual:Str)(f:Addr)(cd:Value)(clos:List (Str × Addr))(A:Around)(outer:List PySem.Env)(s:Shared)(H:Hp)(hr:Z9 k (A.deeper (ZCF qual (ZlW ZD) s.heap.objs.size f cd clos))) :
  XE (Zm2 P w K mg base ["crowd","works","prices"] qual (ZlW ZD) f cd clos A outer s H) (Zue ZD) (Zk Zam (Za (Zc 1) (Za (Zc 2) (Za (Zc 0) Ze)))):=by
 have hu:=ZdL hr;exact(Zm Zcv hr (Zb (Zd 1) (Zb (Zd 2) (Zb (Zd 0) Zf))))
theorem Zyf(T:Txt K mg)(V:∀t cs F a,FX.fv t cs F a->FvI K t cs F a){f0:Addr}{fd0:FuncData}(Fn0:Fun K "price_by" "price_by" Ze2 f0 fd0)(hm0:mg "price_by" = Z (.ref f0))(hn0:∀a,ZBa K ZAb "price_by" = Z (Z (.ref a))->mg "price_by" = Z (.ref a))(Zg4:Callee P w K mg base (k+1) "price_by" ZcT){f1:Addr}{fd1:FuncData}(Fn1:Fun K "bought_step" "bought_step" Zct f1 fd1)(hm1:mg "bought_step" = Z (.ref f1))(hn1:∀a,ZBa K ZAb "bought_step" = Z (Z (.ref a))->mg "bought_step" = Z (.ref a))(ZeH:Callee P w K mg base (k+1) "bought_step" Za3)(Lf_ways_to_buy:Callee P w K mg base k "ways_to_buy" Zam):Zcy P w K mg base (k+1) ap:=by
 constructor
 ·intro t cs F a h A outer s H e0 sub
  rcases V t cs F a h with⟨rfl,rfl,hn⟩ | ⟨rfl,rfl,hn⟩ | ⟨rfl,hC⟩
  ·exact ZpX Fn0 hm0 (hn0 a hn) e0
  ·exact ZpX Fn1 hm1 (hn1 a hn) e0
  ·exact Zxy hC e0 sub
 ·intro t cs F a h A outer s H e0 sub us vs ds d Q hr tb nt rv rs hap kk
  rcases V t cs F a h with⟨rfl,rfl,hn⟩ | ⟨rfl,rfl,hn⟩ | ⟨rfl,hC⟩
  ·exact Zoc Zg4 (hn0 a hn) e0 sub hr tb nt rv rs hap kk
  ·exact Zoc ZeH (hn1 a hn) e0 sub hr tb nt rv rs hap kk
  ·exact Zva ZwQ (λ_ _ _ _ _ _=>rfl) (Zxo T Lf_ways_to_buy) hC e0 sub hr tb nt rv rs hap kk
def tlI:List (Addr × Str):=[(273,"reach_by_buying.<locals>.<lambda>")]
@[reducible] def fxI(K:Zzx):FX where
 tl:=tlI
 fv:=FvI K
 sw:=λhF hob h=>by
  rcases h with h | h | h
  ·exact ZAt (h)
  ·exact Zz8 (ZAt (h))
  ·exact Zz8 (Zz8 ((⟨h.1,h.2.sw hF hob⟩)))
 drop:=λh=>by
  rcases h with h | h | h
  ·exact ZAt (h)
  ·exact Zz8 (ZAt (h))
  ·exact Zz8 (Zz8 ((⟨h.1,h.2.drop⟩)))
 mono:=λh s=>by
  rcases h with h | h | h
  ·exact ZAt (h)
  ·exact Zz8 (ZAt (h))
  ·exact Zz8 (Zz8 ((⟨h.1,h.2.mono s⟩)))
theorem Zwv{kV:Value}(X:K.In h)(G:h.Ns ZAb mg)(a:ZBa K ZAb x=Z (Z (.ref f)))
  (l:K.lookup f=Z ⟨oc,od,.func (ZAQ x x (Zb9 st) (ZaA st) (Zh st) .none kV doc pm an cdv ct),osl⟩) (c:ZBD K cdv x=ZEN) (kp:ZAP K (.ref f)=ZEN)
  (b:∀(kV doc pm:Value) (an:Option Addr) (cdv ct:Value) (us:List Value),us.length=ps.length->bindArgs (ZAQ x x (Zb9 st) (ZaA st) (Zh st) .none kV doc pm an cdv ct) ⟨us,[]⟩=pure (ps.zip us)):Def K mg x st ps :=
 ⟨f,_,ZnN l c kp,ZBQ X G a,(ZnN l c kp).binds b⟩
structure Zwg(K:Zzx)(mg:Str->Option Value)(x:Str)(st:Stmt)(ps:List Str)(c T:Addr):Prop where
 ex:∃f fd,Zrg K x x st f fd c/\mg x=Z (.ref f)/\Binds K fd ps []/\ZA9 K c T=ZEN
theorem Zvw{T:Addr}{kV:Value}(X:K.In h)(G:h.Ns ZAb mg)(a:ZBa K ZAb x=Z (Z (.ref f)))
  (l:K.lookup f=Z ⟨oc,od,.func (ZAQ x x (Zb9 st) (ZaA st) (Zh st) .none kV doc pm an cdv ct),osl⟩) (cc:ZBD K cdv x=ZEN) (kp:ZAP K (.ref f)=ZEN)
  (b:∀(kV doc pm:Value) (an:Option Addr) (cdv ct:Value) (us:List Value),us.length=ps.length->bindArgs (ZAQ x x (Zb9 st) (ZaA st) (Zh st) .none kV doc pm an cdv ct) ⟨us,[]⟩=pure (ps.zip us)) (e:cdv=.ref c) (hc:ZA9 K c T=ZEN):Zwg K mg x st ps c T:=by
 subst e;exact⟨f,_,Zu6 l cc kp,ZBQ X G a,.all (b kV doc pm an _ ct),hc⟩
def NsV(K:Zzx)(mg:Str->Option Value)(x:Str):Prop:=(∀a,ZBa K ZAb x=Z (Z (.ref a))->mg x=Z (.ref a))/\∃f,ZBa K ZAb x=Z (Z (.ref f))
theorem Zwo(X:K.In h)(G:h.Ns ZAb mg)(a:ZBa K ZAb x=Z (Z (.ref f))):NsV K mg x:=⟨λ_ e=>ZBQ X G e,f,a⟩
end
structure Ds(K:Zzx)(mg:Str->Option Value):Prop where
 Zpr:Def K mg "_law_cell" ZgU ["_law_script","_law_k"]
 ZqF:Def K mg "_law_mix" ZhG ["_law_cell_here","_law_prime","_law_many"]
 ZnA:Def K mg "_law_crowd" Zen ["_law_cell_here","_law_many","_law_least"]
 Zps:Def K mg "_law_deed" ZgV ["_law_cell_here","_law_many"]
 Zpt:Def K mg "_law_walk" ZgW ["_law_cell_here","_law_many"]
 ZnB:Def K mg "_law_works" Zeo ["_law_script","_law_at"]
 ZnC:Def K mg "is_number" Zga ["thing","least","most"]
 ZnD:Def K mg "is_rising" Zgb ["thing","many"]
 Zpu:Def K mg "is_crowd" ZgP ["thing","many"]
 ZrJ:Def K mg "is_row" ZiG ["thing","least","most"]
 ZqG:Def K mg "is_deed" ZfI ["thing","many"]
 ZnE:Def K mg "are_deeds" Zej ["thing","many"]
 ZqH:Def K mg "is_look" ZfJ ["thing","many"]
 ZnF:Def K mg "are_looks" Zek ["thing","many"]
 ZnG:Def K mg "are_works" Zgc ["thing"]
 ZqI:Def K mg "checked" ZhF ["works"]
 ZkW:Def K mg "is_price_row" Zc3 ["thing","many"]
 Zpv:Def K mg "deeds_of" ZgQ ["works"]
 Zpw:Def K mg "looks_of" ZgR ["works"]
 ZfG:Def K mg "checked_prices" Zcn ["works","prices"]
 ZiN:Def K mg "crowds_in" Zcs ["rows"]
 Zki:Def K mg "cost_at_worst" ZcI ["rows","costs"]
 ZjY:Def K mg "price_by" Ze2 ["way","costs"]
 ZqJ:Def K mg "plan_of" ZfL ["rows","steps"]
 Zho:Def K mg "bought_step" Zct ["way","steps"]
 ZqK:Def K mg "seen_in" ZfK ["works","looks","state"]
 ZrK:Def K mg "parted" ZgA ["works","looks","crowd"]
 Zly:Def K mg "can_be_done" Zds ["works","crowd","deed"]
 ZmL:Def K mg "deeds_with" ZdJ ["works","crowd"]
 ZrL:Def K mg "led_to" ZiH ["works","crowd","deed"]
 ZnH:Def K mg "ways_with" Zem ["works","looks","crowd"]
 ZkX:Def K mg "deeds_to_buy" Zc4 ["works","prices","crowd"]
 ZkY:Def K mg "looks_to_buy" Zcd ["works","prices","crowd"]
 Zlz:Def K mg "ways_to_buy" ZeF ["works","prices","crowd"]
 ZkZ:Def K mg "reached_from" Zel ["crowds","ways_for"]
 Zpx:Def K mg "begin_of" ZgS ["works"]
 ZiO:Zwg K mg "reach_by_buying" ZD ["works","prices"] 277 273
 ZmM:Def K mg "least_cost" ZcP ["ways","costs","cost_by"]
 ZmN:Def K mg "next_costs" Zfs ["reach","costs","cost_by"]
 ZqL:Def K mg "goal_of" ZhE ["works"]
 Zpy:Def K mg "is_there" Ze0 ["works","crowd"]
 Zpz:Def K mg "costs_of" ZcU ["works","reach","cost_by"]
 ZpA:Def K mg "best_way" Ze1 ["ways","costs","cost_by"]
 ZpB:Def K mg "steps_of" ZgT ["reach","costs","cost_by","step_by"]
 Zgm:Def K mg "a_bought_plan" ZcJ ["works","prices"]
 ZjZ:Def K mg "cheapest" Ze3 ["works","prices"]
 ZpC:Def K mg "_law_told" ZgX ["_law_way","_law_works_here","_law_prices"]
 Nf_price_by:NsV K mg "price_by"
 Nf_bought_step:NsV K mg "bought_step"
section
variable[FX]{P:Program}{w:World}{K:Zzx}{mg:Str->Option Value}{base:Heap}{k:Nat}
theorem ZwE(T:Txt K mg)(hV:∀t cs F a,FX.fv t cs F a↔FvI K t cs F a)(hTL:FX.tl=tlI)(Dd:Ds K mg)(bm:BMod base mg){f:Addr}{fd:FuncData}(Fn:Fun K "law" "law" Zfh f fd):ZcY P w K mg base CX0 13 f fd ["_law_script"] (spD K 1 (Zf9 ap)):=by
 have Vff_price_by:GFn mg "price_by" 5:=by obtain⟨h1,g,h2⟩:=Dd.Nf_price_by;exact⟨g,h1 g h2,λF=>(hV _ _ _ _).mpr (ZAt (⟨rfl,rfl,h2⟩))⟩
 have Vff_bought_step:GFn mg "bought_step" 7:=by obtain⟨h1,g,h2⟩:=Dd.Nf_bought_step;exact⟨g,h1 g h2,λF=>(hV _ _ _ _).mpr (Zz8 (ZAt (⟨rfl,rfl,h2⟩)))⟩
 have ZaR:Callee P w K mg base 1 _ _:=Znh T Dd.Zpr;have ZP:Callee P w K mg base 1 _ _:=Zpe T Dd.ZqF;have Zep:Callee P w K mg base 2 _ _:=Zmy T (Cup ZP) Dd.ZnA;have ZgY:Callee P w K mg base 2 _ _:=Zni T (Cup ZP) Dd.Zps;have ZgZ:Callee P w K mg base 2 _ _:=Znj T (Cup ZP) Dd.Zpt;have Zgl:Callee P w K mg base 3 _ _:=Zmz T (Cup ZaR) (Cup Zep) (Cup ZP) (Cup ZgY) (Cup ZgZ) Dd.ZnB;have Zav:Callee P w K mg base 1 _ _:=ZmB T Dd.ZnC;have Zbf:Callee P w K mg base 2 _ _:=ZmC T (Cup Zav) Dd.ZnD;have Zg0:Callee P w K mg base 3 _ _:=Znl T (Cup Zbf) Dd.Zpu;have ZM:Callee P w K mg base 1 _ _:=ZqC T Dd.ZrJ;have ZhH:Callee P w K mg base 3 _ _:=Zpg T (Cup ZM) (Cup Zbf) Dd.ZqG;have Zgd:Callee P w K mg base 4 _ _:=ZmE T (Cup ZM) (Cup ZhH) Dd.ZnE;have ZhI:Callee P w K mg base 2 _ _:=Zpi T (Cup ZM) (Cup Zav) Dd.ZqH;have Zge:Callee P w K mg base 3 _ _:=ZmG T (Cup ZM) (Cup ZhI) Dd.ZnF;have Zgf:Callee P w K mg base 5 _ _:=ZmH T (Cup Zg0) (Cup Zbf) (Cup ZM) (Cup Zav) (Cup Zgd) (Cup Zge) Dd.ZnG;have ZaW:Callee P w K mg base 6 _ _:=Zpk T (Cup Zgf) Dd.ZqI;have ZaO:Callee P w K mg base 2 _ _:=Zkd T (Cup ZM) (Cup Zav) Dd.ZkW;have Zaf:Callee P w K mg base 1 _ _:=Znn T Dd.Zpv;have ZbC:Callee P w K mg base 1 _ _:=Znp T Dd.Zpw;have Zbm:Callee P w K mg base 3 _ _:=ZiI T (Cup ZM) (Cup ZaO) (Cup Zaf) (Cup ZbC) Dd.ZfG;have Zv:Za5 P w K mg base 3 "checked_prices" Zv:=by obtain⟨f,fd,F,m,b⟩:=Dd.ZfG.ex;exact Ziw T (Cup ZM) (Cup ZaO) (Cup Zaf) (Cup ZbC) F m b
 have Zdf:Callee P w K mg base 1 _ _:=ZmI T Dd.ZiN;have Zgi:Zd5 P w K mg base 1 "crowds_in" Zac:=by obtain⟨f,fd,F,m,b⟩:=Dd.ZiN.ex;exact Zlu T  F m b
 have ZdP:Callee P w K mg base 2 _ _:=ZjK T (Cup Zdf) Dd.Zki;have Zg4:Callee P w K mg base 3 _ _:=Znq T (Cup ZdP) Dd.ZjY;have ZhJ:Callee P w K mg base 1 _ _:=Zpm T Dd.ZqJ;have ZeH:Callee P w K mg base 2 _ _:=ZkS T (Cup ZhJ) Dd.Zho;have ZhL:Callee P w K mg base 2 _ _:=Zpo T (Cup ZbC) Dd.ZqK;have Zd4:Callee P w K mg base 3 _ _:=ZqD T (Cup ZhL) Dd.ZrK;have ZeG:Callee P w K mg base 2 _ _:=ZkT T (Cup Zaf) Dd.Zly;have Zfu:Callee P w K mg base 3 _ _:=Zlw T (Cup ZeG) (Cup Zaf) Dd.ZmL;have ZiK:Callee P w K mg base 2 _ _:=ZqE T (Cup Zaf) Dd.ZrL;have Zgg:Callee P w K mg base 4 _ _:=ZmK T (Cup Zd4) (Cup Zfu) (Cup ZiK) Dd.ZnH;have Zer:Callee P w K mg base 5 _ _:=Zkf T (Cup Zgg) Dd.ZkX;have Zes:Callee P w K mg base 4 _ _:=Zkg T (Cup Zd4) Dd.ZkY;have Zcv:Callee P w K mg base 6 _ _:=ZkV T (Cup Zer) (Cup Zes) Dd.Zlz;obtain⟨f0,fd0,F0,m0,b0⟩:=Dd.ZjY.ex;obtain⟨f1,fd1,F1,m1,b1⟩:=Dd.Zho.ex;have CV:Zcy P w K mg base 7 ap:=Zyf (k:=6) T (λt cs F a h=>(hV t cs F a).mp h) F0 m0 Dd.Nf_price_by.1 (Cup Zg4) F1 m1 Dd.Nf_bought_step.1 (Cup ZeH) (Cup Zcv);have Zet:Callee P w K mg base 8 _ _:=Zkh T (Cup Zdf) (Zgi.mono (by decide)) (CV.mono (by decide)) Dd.ZkZ;have ZbD:Callee P w K mg base 1 _ _:=Zns T Dd.Zpx;have Za4:Callee P w K mg base 9 "reach_by_buying" (Zap ap):=by obtain⟨f,fd,F,m,b,hc⟩:=Dd.ZiO.ex;exact Ziv T (Cup Zet) (Cup ZbD) (Cup Zcv) hc (by rw[hTL]; decide) (by rw[hTL]; intro q h; simpa [tlI]using h) bm (λF p cs h=>(hV _ _ _ _).mpr (Zz8 (Zz8 ((⟨rfl,h⟩))))) F m b
 have Zb8:Callee P w K mg base 8 _ _:=Zlx T (CV.mono (by decide)) Dd.ZmM;have Gf_next_costs:Zd8 P w K mg base 9 "next_costs" (Zbo ap):=by obtain⟨f,fd,F,m,b⟩:=Dd.ZmN.ex;exact Zla T (Cup Zb8) F m b
 have ZhM:Callee P w K mg base 1 _ _:=Zpq T Dd.ZqL;have Zg1:Callee P w K mg base 2 _ _:=Znu T (Cup ZhM) Dd.Zpy;have ZcV:Callee P w K mg base 10 _ _:=Znv T (Cup Zg1) (Gf_next_costs.mono (by decide)) Dd.Zpz;have Zg2:Callee P w K mg base 9 _ _:=Znw T (Cup Zb8) (CV.mono (by decide)) Dd.ZpA;have Zg3:Callee P w K mg base 10 _ _:=Znx T (Cup Zg2) (CV.mono (by decide)) Dd.ZpB;have ZdQ:Callee P w K mg base 11 _ _:=ZjL T (Cup ZaW) (Cup Zbm) (Cup Za4) (Cup ZcV) (Cup ZbD) (Cup Zg3) Vff_price_by Vff_bought_step Dd.Zgm;have Z0:Za5 P w K mg base 11 "a_bought_plan" Z0:=by obtain⟨f,fd,F,m,b⟩:=Dd.Zgm.ex;exact Zjl T (Cup ZaW) (Zv.mono (by decide)) F m b
 have Ze4:Callee P w K mg base 11 _ _:=Zny T (Cup ZaW) (Cup Zbm) (Cup ZcV) (Cup Za4) (Cup ZbD) Vff_price_by Dd.ZjZ;have ZaK:Za5 P w K mg base 11 "cheapest" ZaK:=by obtain⟨f,fd,F,m,b⟩:=Dd.ZjZ.ex;exact ZmU T (Cup ZaW) (Zv.mono (by decide)) F m b
 have Ze5:Callee P w K mg base 12 _ _:=Znz T (Cup ZdQ) (Cup Ze4) (Z0.mono (by decide)) (ZaK.mono (by decide)) Dd.ZpC;exact ZuL (k:=12) T (Cup Zgl) (Cup Ze5) (Cup ZaR) Fn
end
theorem all_mk{l:ZEf}{w:World}{K:Zzx}{mg:Str->Option Value}{fa f4:Addr}{od4 an4:Option Addr}{sl4:Array (Option Value)}{oc4 kV4 dc4 pm4 cd4 ct4:Value}(X:K.In h)(G:h.Ns ZAb mg)(hfa:mg "law" = Z (.ref fa))
  (T:Txt K mg) (Dd:Ds K mg) (a4:ZBa K ZAb "law" = Z (Z (.ref f4)))
  (l4:K.lookup f4=Z ⟨oc4,od4,.func (ZAQ "law" "law" (Zb9 Zfh) (ZaA Zfh) (Zh Zfh) .none kV4 dc4 pm4 an4 cd4 ct4),sl4⟩) (c4:ZBD K cd4 "law" = ZEN) (k4:ZAP K (.ref f4)=ZEN) :
  ∃fd:FuncData,(∀(s:Shared) (v:Value),BindsTo s fd ⟨[v],[]⟩ [("_law_script",v)])/\∀base:Heap,K.In base->base.Ns ZAb mg->BMod base mg->ZcY l.prog w K mg base CX0 13 fa fd ["_law_script"] (@spD (fxI K) K 1 (Zf9 ap)):=by
 have e:=hfa.symm.trans (ZBQ X G a4);cases e;have fx0:FX:=FX0;exact⟨_,λs v=>.of_eq rfl,λbase _ _ bm=>@ZwE (fxI K) _ _ _ _ _ T (λ_ _ _ _=>Iff.rfl) rfl Dd bm _ _ (ZnN (st:=Zfh) l4 c4 k4)⟩
theorem walk{l:ZEf}{q:Program}{loose:List Str}{XP:(Str->Option Value)->Heap->Prop}{YP:World->Heap->Prop}{d:DefRec}{K:Params->Zzx}(hn:l.most=Z 63)(hdf:d.params.defaults=[])
  (Zkr:∀ns:List Int,ns.length<=63->(Zf9 ap) [.list (HM.ofInts ns)]=Z (.bool ZEN)) (hY:∀(w:World) (h:Heap),YP w h->(K w.params).In h) (hYT:∀(w:World) (h:Heap),YP w h->∀q∈([(277,273)]:List (Addr × Addr)),h.get? q.2=Z (ZCl #[]))
  (hT:∀(w:World),∀q∈([(277,273)]:List (Addr × Addr)),ZA9 (K w.params) q.1 q.2=ZEN/\(K w.params).lookup q.2=Z_)
  (F:∀(w:World) (mg:Str->Option Value) (fa:Addr) (h:Heap),(K w.params).In h->h.Ns ZAb mg->mg d.name=Z (.ref fa) ->
   ∃fd:FuncData,(∀(s:Shared) (u:Value),BindsTo s fd ⟨[u],[]⟩ [("_law_script",u)])/\∀base:Heap,(K w.params).In base->base.Ns ZAb mg->BMod base mg->ZcY l.prog w (K w.params) mg base CX0 13 fa fd ["_law_script"] (@spD (fxI (K w.params)) (K w.params) 1 (Zf9 ap))) :
  PySem.W.WalkO q loose XP YP l.row.toRowW d [] (λf vs=>PySem.call f vs) :=
 Zud (n:=63) (k:=13) (x:="_law_script") (sp:=λw=>@spD (fxI (K w.params)) (K w.params) 1 (Zf9 ap)) (tabs:=[(277,273)]) hn (by decide) hdf ⟨rfl,by decide,by decide⟩ hY hYT hT F λw H a ns hl hO hS=>@Zxb (fxI (K w.params)) _ _ _ _ _ _ hO (λT q h=>by
  have:∀p∈tlI,p.1∈([(277,273)]:List (Addr × Addr)).map (·.2):=by decide
  exact this _ h) hS (Zkr ns hl)
section
variable{P:Program}{w:World}{K:Zzx}{mg:Str->Option Value}{base:Heap}{k:Nat}
abbrev Zza{K:Zzx}(_:K.In h)(mg:Str->Option Value):Prop:=Ds K mg
abbrev Zx6{K:Zzx}(_:K.In h)(mg:Str->Option Value):Prop:=Txt K mg
theorem int_mk{mg:Str->Option Value}{v:Value}{k:Int}(h:mg n=Z v)(e:∃t,v=.int k t):∃t,mg n=Z (.int k t):=by obtain⟨t,rfl⟩:=e;exact⟨t,h⟩
abbrev ZxD{K:Zzx}(_:K.In h)(a:Addr)(ds:List L2.V):Prop:=HP.Zov K a ds
theorem Zxm{K:Zzx}{mg:Str->Option Value}{y:Str}{a:Addr}{o:Obj}(h:mg n=Z (.ref a))(l:K.lookup a=Z o)(e:∃t m d,o={ cls:=.type "tuple",data:=.seq #[.str y t] m,dict:=d }):∃a,mg n=Z (.ref a)/\HP.Zov K a [.str y]:=by obtain⟨t,m,d,rfl⟩:=e;exact⟨a,h,_,_,_,l,rfl,rfl,(show 1<=sizeLine by decide),.cons ⟨t,rfl⟩ .nil⟩
end
end HT
namespace PySem.W.Fast
theorem tw10133989218374842221:True:=⟨⟩
theorem tw10418942849417902062:True:=⟨⟩
theorem tw12341303046942931536:True:=⟨⟩
theorem tw13427368276000260051:True:=⟨⟩
theorem tw13594107174991724219:True:=⟨⟩
theorem tw14040247589152573899:True:=⟨⟩
theorem tw14641244937420744249:True:=⟨⟩
theorem tw14948859752298456497:True:=⟨⟩
theorem tw15225219443839477423:True:=⟨⟩
theorem tw15241028601774074364:True:=⟨⟩
theorem tw15422612988645485074:True:=⟨⟩
theorem tw1649869745879757295:True:=⟨⟩
theorem tw17767839134706749798:True:=⟨⟩
theorem tw2066891341780719778:True:=⟨⟩
theorem tw2147786945191316285:True:=⟨⟩
theorem tw2292170416326286901:True:=⟨⟩
theorem tw3036487430152524685:True:=⟨⟩
theorem tw4637839404091123754:True:=⟨⟩
theorem tw4670644549796244933:True:=⟨⟩
theorem tw6793021303887577989:True:=⟨⟩
theorem tw7419545909750311180:True:=⟨⟩
theorem tw7702738709094615222:True:=⟨⟩
theorem tw8898311308250112513:True:=⟨⟩
theorem tw8948820542579553767:True:=⟨⟩
theorem tw9336628350695686730:True:=⟨⟩
end PySem.W.Fast
open PySem PySem.W PyProof.Rows
set_option maxRecDepth 100000 in
set_option maxHeartbeats 0 in
theorem PySem.Challenge.cw_halfseen_k25_prices_refused_holds : PySem.Challenge.rw_halfseen_k25_prices_refused.Holds := by
 w_on; o_law; k_head; (case hw=>w_witness2)
 k_fill
 refine HT.walk (l:=PySem.Challenge.rw_halfseen_k25_prices_refused) rfl rfl HG25.Zkr (λw h Y=>PySem.W.km_in_of Y) (λw h Y q hq=>PySem.W.km_tabs_of Y _ (by clear Y; revert q; decide)) ?Tab ?F
 case Tab=>intro w q hq;cases ZzF.mp hq;exact⟨by kernel_rfl,by kernel_rfl⟩
 case F =>
  intro w mg fa h KX G hmg;have fx0:HP.FX:=HP.FX0;have c_DONE:∃a,mg "DONE" = Z (.ref a)/\HT.ZxD KX a [.str "done"]:=by
   refine' HT.Zxm (ZBQ KX G ?z) ?l ?e
   (case z=>k_is)
   (case l=>k_is)
   (case e=>exact⟨_,_,_,rfl⟩)
  have T:HT.Zx6 KX mg:=by
   refine⟨?_,?_,?_,?_,?_,?_,?_,?_,?_,?_,?_,?_,?_,?_,?_,?_,?_,?_,?_,?_,c_DONE,?_⟩
   all_goals first
    | (refine PySem.W.mg_none_of KX G ?z; (case z=>k_is))
    | (refine' HT.int_mk (ZBQ KX G ?z) ?e; (case z=>k_is); (case e=>exact⟨_,rfl⟩))
    | (refine' HP.Zxc KX G ?a ?b ?c ?d ?e; (case a=>k_is); (case b=>k_is); (case c=>k_exc); (case d=>kernel_rfl); (case e=>kernel_rfl))
  have Dd:HT.Zza KX mg:=by
   refine⟨?_,?_,?_,?_,?_,?_,?_,?_,?_,?_,?_,?_,?_,?_,?_,?_,?_,?_,?_,?_,?_,?_,?_,?_,?_,?_,?_,?_,?_,?_,?_,?_,?_,?_,?_,?_,?_,?_,?_,?_,?_,?_,?_,?_,?_,?_,?_,?_,?_⟩
   all_goals first
    | (refine' HT.Zwv KX G ?a ?l ?c ?k ?b; (case a=>k_is); (case l=>k_is); (case c=>k_is); (case k=>k_is); (case b=>first | exact λ_ _ _ _ _ _ us hl=>(match us,hl with | [_],_=>rfl) | exact λ_ _ _ _ _ _ us hl=>(match us,hl with | [_,_],_=>rfl) | exact λ_ _ _ _ _ _ us hl=>(match us,hl with | [_,_,_],_=>rfl) | exact λ_ _ _ _ _ _ us hl=>(match us,hl with | [_,_,_,_],_=>rfl)))
    | (refine' HT.Zvw KX G ?a ?l ?c ?k ?b ?e ?h; (case a=>k_is); (case l=>k_is); (case c=>k_is); (case k=>k_is); (case h=>kernel_rfl); (case e=>exact rfl); (case b=>first | exact λ_ _ _ _ _ _ us hl=>(match us,hl with | [_],_=>rfl) | exact λ_ _ _ _ _ _ us hl=>(match us,hl with | [_,_],_=>rfl) | exact λ_ _ _ _ _ _ us hl=>(match us,hl with | [_,_,_],_=>rfl) | exact λ_ _ _ _ _ _ us hl=>(match us,hl with | [_,_,_,_],_=>rfl)))
    | (refine' HT.Zwo KX G ?z; (case z=>k_is))
  refine' HT.all_mk KX G hmg T Dd ?a4 ?l4 ?c4 ?k4
  (case a4=>k_is); (case l4=>k_is); (case c4=>k_is); (case k4=>k_is)