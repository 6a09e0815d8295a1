import PyProof.Rows.All
import Wide.All
import OpenK.AllK
import Wide.FinOn
import Lean
import PyProof.EqAt
import PyProof.EqKinds
import PyProof.TupleCall
import PyProof.P3Statements
import PyProof.P3Eq
import PyProof.NeData
import PyProof.IsiPairs
import PyProof.IsiHeapPairs
import KE.LcSums
import PyProof.IsiNone
import PyProof.DictRoadsH
import PyProof.Rows.SetFrom
import PyProof.DictWalks
import PyProof.Rows.MinMaxN
import PyProof.Rows.SumAny
import PyProof.WalkInts
import PyProof.Draws
import PyProof.EnumMake
import PyProof.TupleIter
import PySem.Challenge.RW_halfseen_k24_bought_plans
set_option Elab.async false
set_option linter.all false
set_option maxRecDepth 100000
set_option bootstrap.genMatcherCode false
open Option renaming some->Z,none->Z_
open Bool renaming true->ZFt,false->ZFu
open List renaming length_map->ZAl,mem_cons_self->ZAp,mem_cons_of_mem->ZAq,map_cons->ZAt,mem_singleton->ZAu,mem_map->ZAv,range->ZAw,getElem?_eq_getElem->ZAx,mem_cons->ZAy,length_cons->ZAB,getElem?_eq_some_iff->ZAC,length_append->ZAE,all_eq_true->ZAF,map_map->ZAI,size_toArray->ZAJ,mem_append_right->ZAL,map_append->ZAN,getElem?_map->ZAO,mem_of_getElem?->ZAR,mem_append->ZAV,mem_filter->ZAY,getElem?_set_ne->ZAZ,replicate->ZA0,length_filter_le->ZA1,mem_append_left->ZA3,getElem?_append_left->ZA4,mem_range->ZA5,length->ZA8,append_nil->ZBa,getElem?_cons_succ->ZBb,getElem?_append_right->ZBe,nodup_cons->ZBf,length_range->ZBg,length_replicate->ZBi,pairwise_cons->ZBj,getElem?_set_self->ZBl,mem_filterMap->ZBs,foldl_cons->ZBu,find?_cons->ZBv,all_cons->ZBA,filter_cons->ZBC,filter_eq_self->ZBD,append_assoc->ZBE,length_set->ZBH,getElem_mem->ZBJ,filterMap_cons->ZBK,map_congr_left->ZBL,nodup_nil->ZBU,getD->ZBW,length_singleton->ZB0,length_take->ZB1,contains_eq_mem->ZB4,nodup_append->ZB7,replicate_succ->ZB8,any_cons->ZCd,lookup_cons->ZCe,map_nil->ZCl,eq_nil_of_length_eq_zero->ZCs,nil_append->ZCB,min?_eq_none_iff->ZCE,flatten_cons->ZCH,mem_flatMap->ZCQ,getElem_of_mem->ZCS,getElem?_replicate->ZCU,getElem?_cons_zero->ZCV,set_getElem_self->ZC4,min?_eq_some_iff->ZC7,length_drop->ZDa,mergeSort_perm->ZDi,drop_eq_getElem_cons->ZDj,exists_mem_of_ne_nil->ZDk,filter_append->ZDt,append_of_mem->ZDu,pairwise_mergeSort->ZDC,pairwise_map->ZDI,foldl_append->ZDJ,map->ZDP,any_eq_true->ZDS,max?_eq_none_iff->ZDU,set_set->ZDY,pairwise_append->ZD2,length_pos_iff->ZD6,map_eq_nil_iff->ZD7,ne_nil_of_mem->ZEi,nodup_iff_pairwise_ne->ZEn,min?_mem->ZEo,pairwise_iff_getElem->ZEx,mem_of_find?_eq_some->ZEA,getElem?_take_of_lt->ZEC,set_eq_of_length_le->ZED,drop_length->ZEE,cons_append->ZEI,all_nil->ZEJ,length_filterMap_le->ZEK,filter_cons_of_pos->ZEN,filter_cons_of_neg->ZEO,of_mem_zip->ZEP,length_nil->ZEQ,length_pos_of_mem->ZE4,filter_eq_nil_iff->ZE7,getElem?_eq_none->ZE9,max?_eq_some_iff->ZFe,dropLast_eq_take->ZFf
open PySem renaming wpAny_bind->ZAm,wpAny_pure->ZAr,starEach->ZAD,mainGlobals->ZA7,wpAny_newObj_type->ZBn,bootBuiltins->ZBr,compareOp->ZBw,wpAny_call_entry->ZBB,behindInMarks->ZBF,wpAny_holding->ZBG,wpAny_mono->ZBM,foldedSetIterable->ZBN,codeAny_builtin->ZBP,sizeLine_eq->ZBR,mem_of_lookup->ZBX,sysModules->ZBY,wpAny_truthy_bool->ZB5,wpAny_Call_Name_kw->ZCh,codeAny_mono->ZCk,lookup_relabel_local->ZCn,swapsWith->ZCq,attributeBase->ZCr,wpAny_typeNameOfWhole_keyiter->ZCt,assignEach->ZCx,tupleKind_room_in1->ZCz,wpAny_passesOwn->ZCA,wpAny_ite_split->ZCC,plainId_quiet->ZCG,wpAny_setField->ZCM,wpAny_typeNameOf_keyiter->ZCR,firstArgMember->ZC6,wpAny_askSetting->ZDc,sliceBounds->ZDg,keywordEach->ZDh,tupleKind->ZDl,binaryOp->ZDn,wpAny_seqItems->ZDz,wpAny_tryCatch->ZDA,wpAny_dictEntries->ZDD,wpAny_setState_of->ZDF,wpAny_execs_nil->ZDV,letOwnedTupleGo->ZDW,wpAny_newFunctionEnv->ZD1,wpAny_setEntries_of->ZD5,backToKw->ZD8,wpAny_fieldsOf->ZEa,wpAny_of_eq->ZEc,codeAmong->ZEd,wpAny_pyIter_tuple->ZEe,wpAny_attempt->ZEk,wpAny_pyIter_list->ZEr,wpAny_pyIter_slot->ZEs,builtinsNs->ZEt,wpAny_call->ZEu,call_meets->ZEv,wpAny_rule->ZEw,intKind_is->ZEy,wpAny_isInstance->ZEF,numAt_eq->ZEH,pickOrder->ZES,wpAny_dictEpoch->ZET,wpAny_updateSeq->ZEW,subscripted->ZEZ,intItems_at->ZE3,wpAny_letGo->ZE5,wpAny_field->ZE6
open Option renaming map_eq_some_iff->ZAn,isSome_iff_exists->ZAX,isSome_map->ZB6,map->ZCo,isSome->ZDe,bind_eq_some_iff->ZDB
open PySem.W renaming Frag->ZAo,fnOf->ZBO,keepIn->ZBS,codeHdIn->ZB3,nsIn->ZCp,codeIn->ZCv,tabObj->ZC8,mg_of->ZDf,envX->ZDs,kla_obj->ZD3,methodObj->ZEp,OpenLaw->ZEX,cellsFrom_some->ZEY,codeHd_of_K->ZFl,callWith_K->ZFo,FnAt->ZFq,callWith_F->ZFr
open PySem.Heap renaming get?_push_of_some->ZAs,lt_size->ZAG,get?_push_size->ZAH,get?_update_self->ZBt,get?_update_other->ZBT,SameBut->ZB9,size_push->ZCw,get?_push_ne->ZC3,size_update->ZDR
open Nat renaming le_refl->ZAz,ne_of_lt->ZAK,lt_of_lt_of_le->ZAS,le_trans->ZBm,zero_le->ZCa,lt_irrefl->ZCc,le_of_lt->ZCj,lt_trans->ZCm,le_of_not_lt->ZCO,lt_succ_self->ZCP,lt_succ_of_lt->ZC2,pow_le_pow_right->ZDd,ne_of_gt->ZDm,blt_eq->ZDx,le_of_eq->ZD0,min_le_left->ZER,le_succ->ZE2
open PySem.SetTable renaming below->ZAA,insertAt->ZAP,insertAt_perm->ZCb,tooFull->ZDb,toList_insertAt->ZDr,fits->ZDM,fill->ZDN,turns->ZFa,bits->ZFh
open Array renaming length_toList->ZAM,getElem?_toList->ZBo,getD->ZCy,toList_push->ZCI,getElem?_eq_getElem->ZCK,getElem?_eq_none->ZDK,perm_iff_toList_perm->ZEl
open PySem.Str renaming ofString->ZAQ
open Or renaming inr->ZAT,inl->ZBc
open PySem.PyData renaming tuple->ZAU,int->ZA2,eqv->ZA6,bool->ZBQ,canLayAll0->ZC1,depthAll->ZD4,eqvAll->ZEm,list->ZE8
open Bool renaming and_eq_true->ZAW,false_ne_true->ZBd,false_eq_true->ZCi,or_eq_true->ZCY,eq_iff_iff->ZEV
open Option.some renaming inj->ZA9
open PySem.Value renaming ref->ZBh,none->ZBp,int->ZCg,type->ZCJ
open False renaming elim->ZBk
open PySem.Heap.SameBut renaming update->ZBq,refl->ZFs
open Int renaming toNat_natCast->ZBx
open Ne renaming symm->ZBy
open PySem.Around renaming under_plainId->ZBz,frames_deeper->ZFg
open PySem.Obj renaming data_mapFields->ZBI,isFreed_of_fields->ZC5,mapSeq->ZDv,putSet->ZDy,cls_mapFields->ZDG,mapFields->ZFi
open PySem.F renaming plain_min_loop->ZBV,called_set->ZB2,plainAttrs_list->ZCu,plain_list_iadd->ZCW,slot_list_append->ZDp,type_list_append->ZDq,entry_min_loop->ZDL,slot_dict_get->ZDT,slot_dict_setdefault->ZD9,plain_proto_collect->ZEg,args_dict_get_2->ZEL,plainAttrs_dict->ZEM,entry_dict_get->ZE0,plain_set_new->ZFb,slot_set_iter->ZFc
open List.Nodup renaming length_le_of_subset->ZBZ
open Sum renaming inl->ZCf,inr->ZEB
open PyProof.Rows.KeyOrd renaming kle_of_not_klt->ZCD,kle_refl->ZCZ,kle_of_klt->ZDH,kle_trans->ZDQ,kle_antisymm->ZFj
open PySem.NameKind renaming free->ZCF
open PySem.Builtin.SmallTypes renaming nextOf->ZCL
open PySem.Builtin.List renaming listTooLong->ZCN,listLengthHint->ZEf,listExtendWith->ZEh
open PySem.Builtin.Range renaming rangeSize->ZCT,small->ZFk
open PySem.Paired renaming length->ZCX
open PySem.Calls renaming callWith_builtin->ZC0,spliced_cons->ZDo,evalArgs_plain->ZDX,Name_function_global->ZEj,spliced_nil->ZEq,call_function_entry->ZEz
open PyProof.Rows renaming callWith_type1->ZC9,entry_list_sort->ZEU
open True renaming intro->ZDw
open PySem.SetTable.below renaming go->ZDE
open Function renaming comp->ZDO
open ForInStep renaming yield->ZDZ
open PySem.Builtin.Dict_items renaming ownsTuple->ZEb
open PySem.Builtin.Tuple renaming tupleExact->ZEG
open PySem.SeqAt renaming eqOverData->ZE1
open PySem.Builtin.Dict renaming showsAll->ZFd
open PySem.SeqAt.EqAt renaming int_str->ZFm,str_int->ZFn
open PySem.Expr renaming Call->ZFp
noncomputable section
namespace L2
open PySem PySem.Spec PyProof.Rows
abbrev Key:=Sum Int Str
def ZiF:Key->Value->Bool
 | .inl k,v=>Value.isInt k v
 | .inr x,v=>Value.isStrOf x v
def Zz2(w:World):Key->Int
 | .inl k=>hashInt k
 | .inr x=>hashStr w x
theorem Zbk:∀{k:Key} {v:Value},ZiF k v=ZFt->(∃i t,k=ZCf i/\v=ZCg i t)\/(∃x t,k=ZEB x/\v=Value.str x t)
 | .inl i,v,h=>by obtain⟨t,e⟩:=Value.isInt_shape (k:=i) (v:=v) h;exact .inl ⟨i,t,rfl,e⟩
 | .inr x,v,h=>by obtain⟨t,e⟩:=Value.isStrOf_shape (x:=x) (v:=v) h;exact .inr ⟨x,t,rfl,e⟩
theorem Ztr(i:Int)(t:Tok):ZiF (.inl i) (.int i t)=ZFt:=by simp[ZiF,Value.isInt]
theorem ZtL(x:Str)(t:Tok):ZiF (.inr x) (.str x t)=ZFt:=by simp[ZiF,Value.isStrOf]
theorem Zxt(a b:Int):decide ((ZCf a:Key)=ZCf b)=(a==b):=by
 by_cases e:a=b
 ·subst e; simp
 ·have h:¬(ZCf a:Key)=ZCf b:=λq=>e (Sum.inl.inj q)
  rw[decide_eq_false h];exact(beq_eq_false_iff_ne.mpr e).symm
theorem Zyk(a b:Str):decide ((ZEB a:Key)=ZEB b)=decide (a=b):=by
 by_cases e:a=b
 ·subst e; simp
 ·have h:¬(ZEB a:Key)=ZEB b:=λq=>e (Sum.inr.inj q)
  rw[decide_eq_false h,decide_eq_false e]
theorem Zyo(a:Int)(b:Str):decide ((ZCf a:Key)=ZEB b)=ZFu:=decide_eq_false (λq=>nomatch q)
theorem Zyh(a:Str)(b:Int):decide ((ZEB a:Key)=ZCf b)=ZFu:=decide_eq_false (λq=>nomatch q)
def ZaB(prog:Program)(w:World):PySem.KeyKind prog w Key where
 is:=ZiF
 hash:=Zz2 w
 inj:=λv a b ha hb=>by
  rcases Zbk ha with⟨i,t,rfl,rfl⟩ | ⟨x,t,rfl,rfl⟩
  ·rcases Zbk hb with⟨j,u,rfl,e⟩ | ⟨y,u,rfl,e⟩
   ·injection e with e1 _; rw[e1]
   ·exact nomatch e
  ·rcases Zbk hb with⟨j,u,rfl,e⟩ | ⟨y,u,rfl,e⟩
   ·exact nomatch e
   ·injection e with e1 _; rw[e1]
 byValue:=λk v h=>by rcases Zbk h with⟨i,t,rfl,rfl⟩ | ⟨x,t,rfl,rfl⟩<;>rfl
 pyHash:=λhv h=>by
  rcases Zbk hv with⟨i,t,rfl,rfl⟩ | ⟨x,t,rfl,rfl⟩
  ·exact wpAny_pyHash_int h
  ·exact wpAny_pyHash_str h
 eqBool:=λhu hv h=>by
  rcases Zbk hu with⟨i,t,rfl,rfl⟩ | ⟨x,t,rfl,rfl⟩
  ·rcases Zbk hv with⟨j,u,rfl,rfl⟩ | ⟨y,u,rfl,rfl⟩
   ·rw[Zxt]at h; exact wpAny_eqBool_int h
   ·rw[Zyo]at h; exact ZFm i t y u _ _ _ _ h
  ·rcases Zbk hv with⟨j,u,rfl,rfl⟩ | ⟨y,u,rfl,rfl⟩
   ·rw[Zyh]at h; exact ZFn x t j u _ _ _ _ h
   ·rw[Zyk]at h; exact wpAny_eqBool_str h
 «strs»:=λk x t v h=>by
  rcases Zbk h with⟨i,u,rfl,e⟩ | ⟨y,u,rfl,e⟩
  ·exact nomatch e
  ·injection e with e1 _
   subst e1;cases v<;>rfl
theorem Zss(prog:Program)(w:World)(k:Key)(v:Value):(ZaB prog w).is k v=ZiF k v:=rfl
theorem Zrg(prog:Program)(w:World)(i:Int)(t:Tok):(ZaB prog w).is (.inl i) (.int i t)=ZFt:=Ztr i t
theorem ZqZ(prog:Program)(w:World)(x:Str)(t:Tok):(ZaB prog w).is (.inr x) (.str x t)=ZFt:=ZtL x t
end L2
namespace L2
open PySem PySem.Spec PyProof.Rows
variable{a b:Addr}{o:HO}{h:Heap}{H:Hp}
inductive V where
 | non | bl (b:Bool) | int (i:Int) | str (x:Str) | byt (b:Array UInt8) | flt (b:UInt64) | ref (a:Addr) | ty (n:String)
 deriving DecidableEq
def RelV:V->Value->Prop
 | .non,u=>u=ZBp
 | .bl b,u=>u=Value.bool b
 | .int i,u=>∃t,u=ZCg i t
 | .str x,u=>∃t,u=Value.str x t
 | .byt b,u=>∃t,u=Value.bytes b t
 | .flt b,u=>∃t,u=Value.float b t
 | .ref a,u=>u=ZBh a
 | .ty n,u=>u=ZCJ n
abbrev Vals:List V->List Value->Prop:=Paired RelV
theorem Vals.length{xs:List V}{us:List Value}(r:Vals xs us):xs.length=us.length:=ZCX r
theorem Vals.get:∀{xs:List V} {us:List Value} {i:Nat} {x:V},Vals xs us->xs[i]?=Z x->∃u,us[i]?=Z u/\RelV x u
 | _,_,_,_,.nil,e=>by simp at e
 | _,_,0,_,.cons r _,e=>by simp at e; subst e; exact⟨_,rfl,r⟩
 | _,_,i+1,x,.cons _ t,e=>by obtain⟨u,h1,h2⟩:=Vals.get (i:=i) (x:=x) t (by simpa using e);exact⟨u,by simpa using h1,h2⟩
theorem Vals.set{x:V}{u:Value}(r:RelV x u):∀{xs:List V} {us:List Value} (i:Nat),Vals xs us->Vals (xs.set i x) (us.set i u)
 | _,_,_,.nil=>.nil
 | _,_,0,.cons _ t=>.cons r t
 | _,_,i+1,.cons q t=>.cons q (Vals.set r i t)
theorem Vals.append:∀{xs ys:List V} {us ws:List Value},Vals xs us->Vals ys ws->Vals (xs++ys) (us++ws)
 | _,_,_,_,.nil,s=>s
 | _,_,_,_,.cons r t,s=>.cons r (Vals.append t s)
theorem Vals.take:∀{xs:List V} {us:List Value} (n:Nat),Vals xs us->Vals (xs.take n) (us.take n)
 | _,_,0,_=>.nil
 | _,_,_+1,.nil=>.nil
 | _,_,n+1,.cons r t=>.cons r (Vals.take n t)
theorem Vals.drop:∀{xs:List V} {us:List Value} (n:Nat),Vals xs us->Vals (xs.drop n) (us.drop n)
 | _,_,0,r=>r
 | _,_,_+1,.nil=>.nil
 | _,_,n+1,.cons _ t=>Vals.drop n t
def Zgj:Option V->Option Value->Prop
 | some v,Z u=>RelV v u
 | none,Z_=>True
 | _,_=>False
def KV{κ:Type}:List (κ × V)->List (κ × Value)->Prop:=Paired λ(p:κ × V) (q:κ × Value)=>p.1=q.1/\RelV p.2 q.2
def kV:Key->V
 | .inl i=>.int i
 | .inr x=>.str x
inductive HO where
 | lst (xs:List V)
 | tup (xs:List V)
 | dK (kvs:List (Key × V)) | dT (kvs:List (List Key × V))
 | set (S:Int->Bool) (n:Nat)
 | ins (C dx:Addr) (fs:List (Str × V))
 | own (x:Addr)
 | xd (fs:List (Str × V))
 | met (f x:Addr)
 | rng (lo hi:Int)
 | frz (o:Obj) (u:HO)
 | tbl (ps:Array Value)
 | ext (φ:Heap->Prop)
abbrev Hp:=Addr->Option HO
def upd(H:Hp)(a:Addr)(o:HO):Hp:=λb=>if b=a then Z o else H b
theorem ZI:upd H a o a=Z o:=by unfold upd; rw[if_pos rfl]
theorem ZB(h:b≠a):upd H a o b=H b:=by unfold upd; rw[if_neg h]
theorem ZvV{u:HO}(h:H a=Z o)(h':H b=Z u)(d:o≠u):a≠b:=by intro e; subst e; rw[h]at h'; exact d (ZA9 h')
theorem ZaE(h:H a=Z o)(h':H b=Z_):a≠b:=by intro e; subst e; rw[h]at h'; cases h'
section
variable(P:Program)(w:World)
def Zai(H:Hp)(h:Heap)(a:Addr):HO->Prop
 | .lst xs=>xs.length<=sizeLine/\∃(its:List Value) (n:Nat),Vals xs its/\h.get? a=Z { cls:=.type "list",data:=.seq its.toArray n }
 | .tup xs=>xs.length<=sizeLine/\∃its:List Value,Vals xs its/\IsTup h a its.toArray
 | .dK kvs=>kvs.length<=sizeLine/\(a==ZBY)=ZFu/\∃vs,KV kvs vs/\h.DictOf (ZaB P w) a vs
 | .dT kvs=>kvs.length<=sizeLine/\(a==ZBY)=ZFu/\∃xs:List (List Key × Addr × Value),
   Paired (λ(p:List Key × V) (q:List Key × Addr × Value)=>p.1=q.1/\H q.2.1=Z (.tup (p.1.map kV))/\RelV p.2 q.2.2) kvs xs /\
   ∃o es ep,h.get? a=Z o/\o.ExactDict/\o.data=.dict es ep/\es.toList=xs.map (entryOfKey (ZDl (ZaB P w)))/\(xs.map (·.1)).Nodup
 | .set S n=>h.SetOf (intKind P w) a S n
 | .ins C dx fs=>H dx=Z (.own a)/\fs.length<=1000/\dx≠a/\h.get? a=Z (PySem.W.instObj C dx) /\
   ∃mA,h.Ns1 dx mA/\(∀f,Zgj (fs.lookup f) (mA f))/\PySem.Within mA (fs.map (·.1))
 | .own _=>∃o,h.get? a=Z o
 | .xd fs=>∃mA,h.Ns1 a mA/\∀f,Zgj (fs.lookup f) (mA f)
 | .rng lo hi=>∃t u v,h.get? a=Z { cls:=.type "range",data:=.fields #[.int lo t,.int hi u,.int 1 v] }
 | .frz o u=>h.get? a=Z o/\Zai H h a u
 | .tbl ps=>h.get? a=Z { cls:=.none,data:=.fields ps }
 | .met f x=>h.get? a=Z (ZEp (.ref f) (.ref x))
 | .ext φ=>φ h/\(∃o,h.get? a=Z o)/\∀h1 h2:Heap,φ h1->(∀o,h1.get? a=Z o->h2.get? a=Z o)->φ h2
def HOk(H:Hp)(h:Heap):Prop:=∀a o,H a=Z o->Zai P w H h a o
end
section
variable{P:Program}{w:World}{H H':Hp}{h h':Heap}{a:Addr}{o:HO}
theorem Zai.lt(x:Zai P w H h a o):a<h.objs.size:=by
 cases o with
 | lst xs=>obtain⟨_,_,_,_,e⟩:=x; exact ZAG e
 | tup xs=>obtain⟨_,_,_,p⟩:=x; exact p.lt
 | dK kvs=>obtain⟨_,_,_,_,o,_,_,e,_⟩:=x; exact ZAG e
 | dT kvs=>obtain⟨_,_,_,_,o,_,_,e,_⟩:=x; exact ZAG e
 | set S n=>obtain⟨o,_,_,_,e,_⟩:=x; exact ZAG e
 | ins C dx fs=>obtain⟨_,_,_,e,_⟩:=x; exact ZAG e
 | own y=>obtain⟨_,e⟩:=x; exact ZAG e
 | xd fs=>obtain⟨_,⟨_,_,_,e,_⟩,_⟩:=x; exact ZAG e
 | rng lo hi=>obtain⟨_,_,_,e⟩:=x; exact ZAG e
 | frz ob u=>obtain⟨e,_⟩:=x; exact ZAG e
 | tbl ps=>exact ZAG (show h.get? a=Z _ from x)
 | met f y=>exact ZAG (show h.get? a=Z _ from x)
 | ext φ=>obtain⟨_,⟨_,e⟩,_⟩:=x; exact ZAG e
theorem Paired.mapP{α β:Type}{F G:α->β->Prop}:∀{l₁:List α} {l₂:List β},Paired F l₁ l₂->(∀a b,F a b->G a b)->Paired G l₁ l₂
 | _,_,.nil,_=>.nil
 | _,_,.cons r t,f=>.cons (f _ _ r) (Paired.mapP t f)
theorem Zai.stay(x:Zai P w H h a o)(k:∀b u,(b=a\/H b=Z (.own a))->h.get? b=Z u->h'.get? b=Z u)
  (ho:∀b,H b=Z (.own a)->H' b=Z (.own a)) (ht:∀b xs,H b=Z (.tup xs)->H' b=Z (.tup xs)):Zai P w H' h' a o:=by
 induction o with
 | lst xs=>obtain⟨z,its,n,r,e⟩:=x; exact⟨z,its,n,r,k _ _ (.inl rfl) e⟩
 | tup xs=>obtain⟨z,its,r,ob,e,c⟩:=x; exact⟨z,its,r,ob,k _ _ (.inl rfl) e,c⟩
 | dK kvs=>obtain⟨z,y,vs,r,ob,es,ep,e,c⟩:=x; exact⟨z,y,vs,r,ob,es,ep,k _ _ (.inl rfl) e,c⟩
 | dT kvs=>obtain⟨z,y,xs,r,ob,es,ep,e,c⟩:=x;exact⟨z,y,xs,Paired.mapP r λp q z=>⟨z.1,ht _ _ z.2.1,z.2.2⟩,ob,es,ep,k _ _ (.inl rfl) e,c⟩
 | set S n=>obtain⟨ob,es,ep,t,e,c⟩:=x; exact⟨ob,es,ep,t,k _ _ (.inl rfl) e,c⟩
 | ins C dx fs=>obtain⟨d,z,ne,e,mA,⟨od,es,ep,e2,c⟩,r⟩:=x;exact⟨ho _ d,z,ne,k _ _ (.inl rfl) e,mA,⟨od,es,ep,k _ _ (.inr d) e2,c⟩,r⟩
 | own y=>obtain⟨ob,e⟩:=x; exact⟨ob,k _ _ (.inl rfl) e⟩
 | xd fs=>obtain⟨mA,⟨od,es,ep,e,c⟩,r⟩:=x; exact⟨mA,⟨od,es,ep,k _ _ (.inl rfl) e,c⟩,r⟩
 | rng lo hi=>obtain⟨t,u,v,e⟩:=x; exact⟨t,u,v,k _ _ (.inl rfl) e⟩
 | frz ob u ih=>obtain⟨e,q⟩:=x; exact⟨k _ _ (.inl rfl) e,ih q⟩
 | tbl ps=>have e:h.get? a=Z { cls:=.none,data:=.fields ps }:=x;show h'.get? a=Z { cls:=.none,data:=.fields ps };exact k a _ (.inl rfl) e
 | met f y=>have e:h.get? a=Z (ZEp (.ref f) (.ref y)):=x;show h'.get? a=Z (ZEp (.ref f) (.ref y));exact k a _ (.inl rfl) e
 | ext φ=>obtain⟨p,⟨o,e⟩,st⟩:=x; exact⟨st _ _ p λo q=>k _ _ (.inl rfl) q,⟨o,k _ _ (.inl rfl) e⟩,st⟩
theorem HOk.lt(x:HOk P w H h)(e:H a=Z o):a<h.objs.size:=(x a o e).lt
theorem HOk.fresh(x:HOk P w H h)(e:h.objs.size<=a):H a=Z_:=by
 cases q:H a with
 | none=>rfl
 | some u=>exact absurd (ZAS (x.lt q) e) (ZCc _)
theorem HOk.kept(x:HOk P w H h)(k:∀b u,h.get? b=Z u->h'.get? b=Z u):HOk P w H h':=λa o e=>(x a o e).stay (λb u _ q=>k b u q) (λ_ q=>q) λ_ _ q=>q
theorem HOk.laid(x:HOk P w H h)(k:∀b u,h.get? b=Z u->h'.get? b=Z u)(hp:h.objs.size<=a)(new:Zai P w (upd H a o) h' a o):HOk P w (upd H a o) h':=λb u e=>by
 have hn:=x.fresh hp
 by_cases hb:b=a
 ·subst hb; rw[ZI]at e; cases e; exact new
 ·rw[ZB hb]at e
  exact(x b u e).stay (λc v _ q=>k c v q) (λc q=>by rw[ZB (ZaE q hn)]; exact q) λc xs q=>by rw[ZB (ZaE q hn)]; exact q
end
def Rd(H:Hp)(a:Addr)(u:HO):Prop:=H a=Z u\/∃o,H a=Z (.frz o u)
theorem Rd.ok{P:Program}{w:World}{H:Hp}{h:Heap}{a:Addr}{u:HO}(r:Rd H a u)(x:HOk P w H h):Zai P w H h a u:=by
 rcases r with r | ⟨o,r⟩
 ·exact x a u r
 ·obtain⟨_,q⟩:=x a _ r
  exact q
def Mut:Option HO->Prop
 | some (.lst _)=>True
 | some (.dK _)=>True
 | some (.dT _)=>True
 | some (.set _ _)=>True
 | some (.ins _ _ _)=>True
 | some (.ext _)=>True
 | _=>False
section
variable{P:Program}{w:World}{H:Hp}{h h':Heap}{x e:Addr}{o':HO}
theorem HOk.write(ok:HOk P w H h)(mu:Mut (H x))(he:e=x\/H e=Z (.own x))(k:∀b u,b≠e->h.get? b=Z u->h'.get? b=Z u)(heo:∃u,h'.get? e=Z u)
  (new:Zai P w (upd H x o') h' x o'):HOk P w (upd H x o') h':=λb u q=>by
 have nown:∀c y,H c=Z (.own y)->c≠x:=λc y r z=>by subst z; rw[r]at mu; exact mu
 have ntup:∀c xs,H c=Z (.tup xs)->c≠x:=λc xs r z=>by subst z; rw[r]at mu; exact mu
 by_cases hb:b=x
 ·subst hb; rw[ZI]at q; cases q; exact new
 ·rw[ZB hb]at q
  by_cases hbe:b=e
  ·have q':H b=Z (.own x):=by
    rcases he with z | z
    ·exact absurd (hbe.trans z) hb
    ·rw[hbe]; exact z
   rw[q]at q'; cases q';obtain⟨v,hv⟩:=heo;exact⟨v,by rw[hbe]; exact hv⟩
  ·refine(ok b u q).stay (λc v hc r=>k c v ?_ r) (λc r=>by rw[ZB (nown c b r)]; exact r) λc xs r=>by rw[ZB (ntup c xs r)]; exact r
   rcases hc with rfl | hc
   ·exact hbe
   ·rintro rfl
    rcases he with z | z
    ·exact nown c b hc z
    ·rw[hc]at z; cases z; exact hb rfl
end
structure Un(fs ex:List Addr)(H H':Hp)(h h':Heap):Prop where
 keep:∀b o,h.get? b=Z o->H b=Z_->b ∉ fs->b ∉ ex->h'.get? b=Z o
 slot:∀b o,h.get? b=Z o->H b=Z_->b∈fs->b ∉ ex->∃sl,h'.get? b=Z { o with slots:=sl }
 free:∀b o,h.get? b=Z o->H b=Z_->b ∉ ex->H' b=Z_
 there:∀b o,h.get? b=Z o->b ∉ ex->∃o',h'.get? b=Z o'
 tups:∀b xs,H b=Z (.tup xs)->H' b=Z (.tup xs)
 frzs:∀b o u,H b=Z (.frz o u)->H' b=Z (.frz o u)
 tbls:∀b ps,H b=Z (.tbl ps)->∃more,H' b=Z (.tbl (ps++more))
section
variable{fs fs' ex ex':List Addr}{H H1 H2:Hp}{h h1 h2 h':Heap}{a x e:Addr}{o:HO}
theorem Un.any(u:Un fs ex H H1 h h1){ob:Obj}(q:h.get? b=Z ob)(n:H b=Z_)(hx:b ∉ ex):∃sl,h1.get? b=Z { ob with slots:=sl }:=by
 by_cases hb:b∈fs
 ·exact u.slot b ob q n hb hx
 ·exact⟨ob.slots,u.keep b ob q n hb hx⟩
theorem Un.kept(k:∀b u,h.get? b=Z u->h'.get? b=Z u):Un fs ex H H h h' :=
 ⟨λb ob q _ _ _=>k b ob q,λb ob q _ _ _=>⟨ob.slots,k b ob q⟩,λ_ _ _ n _=>n,λb ob q _=>⟨ob,k b ob q⟩,λ_ _ q=>q,λ_ _ _ q=>q,λ_ ps q=>⟨#[],by rw[q]; simp⟩⟩
theorem Un.refl:Un fs ex H H h h:=Un.kept λ_ _ q=>q
theorem Un.laid(k:∀b u,h.get? b=Z u->h'.get? b=Z u)(hp:h.objs.size<=a)(hn:H a=Z_):Un fs ex H (upd H a o) h h' where
 keep:=λb u q _ _ _=>k b u q
 slot:=λb u q _ _ _=>⟨u.slots,k b u q⟩
 free:=λb u q n _=>by rw[ZB (ZAK (ZAS (ZAG q) hp))]; exact n
 there:=λb u q _=>⟨u,k b u q⟩
 tups:=λb xs q=>by rw[ZB (ZaE q hn)]; exact q
 frzs:=λb u xs q=>by rw[ZB (ZaE q hn)]; exact q
 tbls:=λb ps q=>⟨#[],by rw[ZB (ZaE q hn),q]; simp⟩
theorem Un.write(mu:Mut (H x))(he:e=x\/H e=Z (.own x))(k:∀b u,b≠e->h.get? b=Z u->h'.get? b=Z u)(heo:∃u,h'.get? e=Z u):Un fs ex H (upd H x o) h h':=by
 have hx:∀b,H b=Z_->b≠x:=λb n z=>by subst z; rw[n]at mu; exact mu
 have hb:∀b,H b=Z_->b≠e:=λb n z=>by
  subst z;rcases he with r | r
  ·exact hx b n r
  ·rw[n]at r; cases r
 have hm:∀b u,H b=Z u->¬Mut (Z u)->b≠x:=λb u q nm z=>by subst z; rw[q]at mu; exact nm mu
 refine⟨λb u q n _ _=>k b u (hb b n) q,λb u q n _ _=>⟨u.slots,k b u (hb b n) q⟩,λb u q n _=>by rw[ZB (hx b n)]; exact n,λb u q _=>?_,
  λb xs q=>by rw[ZB (hm b _ q λz=>z)]; exact q,λb u xs q=>by rw[ZB (hm b _ q λz=>z)]; exact q,λb ps q=>⟨#[],by rw[ZB (hm b _ q λz=>z),q]; simp⟩⟩
 by_cases hbe:b=e
 ·subst hbe; exact heo
 ·exact⟨u,k b u hbe q⟩
end
def trk(h:Heap)(H:Hp):List Addr:=(ZAw h.objs.size).filter λa=>(H a).isSome
def ZhW(h:Heap)(H:Hp):Heap:=PySem.W.hideAll h (trk h H)
theorem Zti(h:Heap)(H:Hp):(ZhW h H).objs.size=h.objs.size:=PySem.W.hideAll_size _ _
theorem Zve{o:Obj}(e:h.get? b=Z o)(n:H b=Z_):(ZhW h H).get? b=Z o :=
 PySem.W.hideAll_get _ e λhm=>by have q:(H b).isSome=ZFt:=(ZAY.mp hm).2;rw[n]at q; simp at q
theorem Zww{o:Obj}(e:(ZhW h H).get? b=Z o):h.get? b=Z o/\H b=Z_:=by
 have e':h.get? b=Z o:=PySem.W.of_hideAll (trk h H) e;refine⟨e',?_⟩;cases q:H b with
 | none=>rfl
 | some x=>have hm:b∈trk h H:=ZAY.mpr ⟨ZA5.mpr (ZAG e'),by simp[q]⟩;have z:(ZhW h H).get? b=Z_:=PySem.W.hideAll_none (trk h H) hm;rw[z]at e; cases e
end L2
namespace L2
open PySem PySem.Spec PyProof.Rows
variable{A:Around}{ch:List Addr}{i t':Nat}{x:Str}{u:Value}{E:Value->Shared->Prop}
structure Mod(K:ZAo)(mg:Str->Option Value)(base:Heap):Prop where
 kin:K.In base
 glob:base.Ns ZA7 mg
 blt:∃mb,base.Ns ZEt mb/\∀x:Str,x ≠ "__name__"->mb x=ZBr x
 nolimit:base.NoLimit
structure Cx where
 prog:Program
 w:World
 K:ZAo
 mg:Str->Option Value
 base:Heap
 A:Around
 N:List Str
 s₀:Shared
 H₀:Hp
 env:Env
 outer:List Env
 stack:List Env
 ex:List Addr
 fn:Str->Bool
 calm:Bool
 pn:List (Addr × Obj)
 xe:Value->Shared->Prop
def frs(l:List Env):List Addr:=l.filterMap (·.frame)
abbrev Cx.fs(X:Cx):List Addr:=frs X.outer
def Vis(sc:Scope)(x:Str):Prop:=sc.names.lookup x=Z .local\/sc.names.lookup x=Z .cell\/sc.names.lookup x=Z .free
def Loc(sc:Scope)(x:Str):Prop:=sc.names.lookup x=Z .local\/sc.names.lookup x=Z .cell
def Look(env:Env)(h:Heap)(m:Str->Option Value)(x:Str)(u:Value):Prop :=
 (env.kindOf x=Z .local/\m x=Z u)\/((env.kindOf x=Z .cell\/env.kindOf x=Z .free)/\∃c,env.cells.lookup x=Z c/\h.IsCell c (Z u))
structure Cx.Ok(X:Cx):Prop where
 mod:Mod X.K X.mg X.base
 kind:X.env.scope.kind=.function
 glob:X.env.globals=ZA7
 blt:X.env.builtins=ZEt
 above:X.s₀.heap.objs.size<=X.env.locals
 inj:∀x y c,X.env.cells.lookup x=Z c->X.env.cells.lookup y=Z c->x=y
 has:∀x,(X.env.kindOf x=Z .cell\/X.env.kindOf x=Z .free)->∃c,X.env.cells.lookup x=Z c
 cab:∀x c,X.fn x=ZFt->X.env.cells.lookup x=Z c->X.s₀.heap.objs.size<=c
 hd:X.calm=ZFt->X.A.handled=Z_
 frames:X.A.frames=Z X.stack
 stk:X.stack=X.outer\/(X.stack=X.env::X.outer/\X.env.frame=Z X.env.locals)
 exf:∀b∈X.ex,b≠X.env.locals/\∀x c,X.env.cells.lookup x=Z c->c≠b
 bs:∀b o,X.base.get? b=Z o->X.s₀.heap.get? b=Z o/\X.H₀ b=Z_
 bsz:X.base.objs.size<=X.s₀.heap.objs.size
 noex:∀b o,X.base.get? b=Z o->b ∉ X.ex
 exfs:∀b∈X.ex,b ∉ X.fs
 funs:X.s₀.heap.FunFrames X.base X.outer
 frf:∀b∈X.fs,X.H₀ b=Z_
structure Inv(X:Cx)(pins:List (Addr × Obj))(σ:List (Option V))(H:Hp)(s:Shared):Prop where
 ok:X.Ok
 os:s.os=X.s₀.os
 bare:AllBare s.gens
 base:Un X.fs X.ex X.H₀ H X.s₀.heap s.heap
 loc:∃m,s.heap.Ns X.env.locals m/\∀(i:Nat) (x:Str) (v:V),X.N[i]?=Z x->σ[i]?=Z (Z v)->Vis X.env.scope x->∃u,RelV v u/\Look X.env s.heap m x u
 cell:∀x c,X.env.cells.lookup x=Z c->∃v,s.heap.IsCell c v
 free:H X.env.locals=Z_
 freeC:∀x c,X.env.cells.lookup x=Z c->H c=Z_
 pin:∀p∈X.pn++pins,s.heap.get? p.1=Z p.2/\H p.1=Z_/\p.1≠X.env.locals/\p.1 ∉ X.fs/\∀v,p.2.data≠.cell v
 hok:HOk X.prog X.w H s.heap
 len:σ.length=X.N.length
section
variable{X:Cx}{pins:List (Addr × Obj)}{σ:List (Option V)}{H H':Hp}{s:Shared}{h':Heap}
theorem Cx.Ok.nofr(ok:X.Ok){b:Addr}{o:Obj}(e:X.base.get? b=Z o):b ∉ X.fs:=λhb=>by have:=(ok.funs.mem hb).1;rw[e]at this; cases this
theorem Inv.bs(I:Inv X pins σ H s):∀b o,X.base.get? b=Z o->s.heap.get? b=Z o/\H b=Z_:=λb o e=>⟨I.base.keep b o (I.ok.bs b o e).1 (I.ok.bs b o e).2 (I.ok.nofr e) (I.ok.noex b o e),I.base.free b o (I.ok.bs b o e).1 (I.ok.bs b o e).2 (I.ok.noex b o e)⟩
theorem Inv.bk(I:Inv X pins σ H s):∀b o,X.base.get? b=Z o->s.heap.get? b=Z o:=λb o e=>(I.bs b o e).1
theorem Inv.mod(I:Inv X pins σ H s):Mod X.K X.mg X.base:=I.ok.mod
theorem Inv.kIn(I:Inv X pins σ H s):X.K.In s.heap:=I.ok.mod.kin.keeps I.bk
theorem Inv.lt(I:Inv X pins σ H s):X.env.locals<s.heap.objs.size:=let ⟨_,hn,_⟩:=I.loc; hn.lt
theorem Inv.sz(I:Inv X pins σ H s):X.s₀.heap.objs.size<=s.heap.objs.size:=ZBm I.ok.above (ZCj I.lt)
theorem Inv.nofs(I:Inv X pins σ H s){a:Addr}(h:s.heap.objs.size<=a):a ∉ X.fs:=λhb=>by obtain⟨_,o,ho,_⟩:=I.ok.funs.mem hb;exact absurd (ZAS (ZAG ho) (ZBm I.sz h)) (ZCc _)
theorem Inv.cne(I:Inv X pins σ H s):∀x c,X.env.cells.lookup x=Z c->c≠X.env.locals:=λx c e z=>by obtain⟨v,o,ho,hd⟩:=I.cell x c e;obtain⟨m,⟨o',es,ep,ho',hd',_⟩,_⟩:=I.loc;rw[z,ho']at ho; cases ho; rw[hd']at hd; cases hd
theorem Inv.funs(I:Inv X pins σ H s):s.heap.FunFrames X.base X.outer:=by
 have all:∀(l:List Env),(∀b∈frs l,b∈X.fs)->X.s₀.heap.FunFrames X.base l->s.heap.FunFrames X.base l:=by
  intro l
  induction l with
  | nil=>intro _ _; trivial
  | cons env r ih=>intro hs hl;obtain⟨hk,⟨L,o,hf,hn,ho,hd⟩,hr⟩:=hl;have hL:L∈X.fs:=hs L (by unfold frs; rw[ZBK,hf]; exact ZAp);obtain⟨sl,e⟩:=I.base.slot L o ho (I.ok.frf L hL) hL λz=>I.ok.exfs L z hL;exact⟨hk,⟨L,_,hf,hn,e,hd⟩,ih (λb hb=>hs b (by unfold frs; rw[ZBK,hf]; exact ZAq _ hb)) hr⟩
 exact all X.outer (λ_ hb=>hb) I.ok.funs
theorem Inv.stack(I:Inv X pins σ H s):s.heap.FunFrames X.base X.stack:=by
 rcases I.ok.stk with e | ⟨e,hf⟩
 ·rw[e]; exact I.funs
 ·rw[e]
  obtain⟨m,hn,_⟩:=I.loc;refine .cons (by rw[I.ok.kind]; decide) hf hn ?_ I.funs;exact Heap.get?_none_of_le (ZBm I.ok.bsz I.ok.above)
theorem Inv.stkSub(I:Inv X pins σ H s):∀b∈frs X.stack,b∈X.env.locals::X.fs:=λb hb=>by
 rcases I.ok.stk with e | ⟨e,hf⟩
 ·rw[e]at hb; exact ZAq _ hb
 ·rw[e]at hb
  unfold frs at hb;rw[ZBK,hf]at hb;exact hb
theorem Inv.stkFree(I:Inv X pins σ H s):∀b∈frs X.stack,H b=Z_:=λb hb=>by
 rcases ZAy.mp (I.stkSub b hb)with e | hb
 ·rw[e]; exact I.free
 ·obtain⟨_,o,ho,_⟩:=I.ok.funs.mem hb
  exact I.base.free b o ho (I.ok.frf b hb) λz=>I.ok.exfs b z hb
theorem Inv.step{g':Array GenState}{t':Nat}{d':Drawn}{ch:List Addr}(I:Inv X pins σ H s)
  (hch:∀b∈ch,(b∈X.ex\/X.s₀.heap.objs.size<=b)/\b≠X.env.locals/\(∀x c,X.env.cells.lookup x=Z c->c≠b)/\∀p∈X.pn++pins,p.1≠b)
  (keep:∀b o,b≠X.env.locals->b ∉ X.fs->b ∉ ch->s.heap.get? b=Z o->H b=Z_->h'.get? b=Z o)
  (slot:∀b o,b≠X.env.locals->b∈X.fs->b ∉ ch->s.heap.get? b=Z o->H b=Z_->∃sl,h'.get? b=Z { o with slots:=sl }) (free:∀b o,b ∉ ch->s.heap.get? b=Z o->H b=Z_->H' b=Z_)
  (there:∀b o,b ∉ ch->s.heap.get? b=Z o->∃o',h'.get? b=Z o')
  (tups:∀b xs,H b=Z (.tup xs)->H' b=Z (.tup xs)) (frzs:∀b o u,H b=Z (.frz o u)->H' b=Z (.frz o u)) (tbls:∀b ps,H b=Z (.tbl ps)->∃more,H' b=Z (.tbl (ps++more)))
  (ns:∀m,s.heap.Ns X.env.locals m->h'.Ns X.env.locals m) (hok:HOk X.prog X.w H' h') (hg:AllBare g') :
  Inv X pins σ H' { s with heap:=h',gens:=g',drawn:=d',toks:=t' }:=by
 have neL:∀b o,X.s₀.heap.get? b=Z o->b≠X.env.locals:=λb o e=>ZAK (ZAS (ZAG e) I.ok.above);have neC:∀b o,X.s₀.heap.get? b=Z o->b ∉ X.ex->b ∉ ch:=λb o e hx hb=>by
  rcases(hch b hb).1 with z | z
  ·exact hx z
  ·exact absurd (ZAS (ZAG e) z) (ZCc _)
 have cellK:∀x c,X.env.cells.lookup x=Z c->∀v,s.heap.IsCell c v->h'.IsCell c v:=λx c e v ⟨o,ho,hd⟩=>by
  have nch:c ∉ ch:=λz=>(hch c z).2.2.1 x c e rfl
  by_cases hc:c∈X.fs
  ·obtain⟨sl,q⟩:=slot c o (I.cne x c e) hc nch ho (I.freeC x c e)
   exact⟨_,q,hd⟩
  ·exact⟨o,keep c o (I.cne x c e) hc nch ho (I.freeC x c e),hd⟩
 refine⟨I.ok,I.os,hg,⟨λb o e n hb hx=>?_,λb o e n hb hx=>?_,λb o e n hx=>?_,λb o e hx=>?_,λb xs e=>tups b xs (I.base.tups b xs e),λb o xs e=>frzs b o xs (I.base.frzs b o xs e),λb ps e=>?_⟩,?_,λx c e=>?_,?_,λx c e=>?_,λp hp=>?_,hok,I.len⟩
 ·exact keep b o (neL b o e) hb (neC b o e hx) (I.base.keep b o e n hb hx) (I.base.free b o e n hx)
 ·obtain⟨sl,e1⟩:=I.base.slot b o e n hb hx
  obtain⟨sl',e2⟩:=slot b _ (neL b o e) hb (neC b o e hx) e1 (I.base.free b o e n hx);exact⟨sl',e2⟩
 ·obtain⟨o',e1⟩:=I.base.there b o e hx
  exact free b o' (neC b o e hx) e1 (I.base.free b o e n hx)
 ·obtain⟨o',e1⟩:=I.base.there b o e hx
  exact there b o' (neC b o e hx) e1
 ·obtain⟨m1,e1⟩:=I.base.tbls b ps e
  obtain⟨m2,e2⟩:=tbls b _ e1;exact⟨m1++m2,by rw[e2,Array.append_assoc]⟩
 ·obtain⟨m,hn,hl⟩:=I.loc
  refine⟨m,ns m hn,λi x v e1 e2 e3=>?_⟩;obtain⟨u,r,l⟩:=hl i x v e1 e2 e3;refine⟨u,r,?_⟩;rcases l with l | ⟨k,c,e,z⟩
  ·exact .inl l
  ·exact .inr ⟨k,c,e,cellK x c e _ z⟩
 ·obtain⟨v,z⟩:=I.cell x c e
  exact⟨v,cellK x c e v z⟩
 ·obtain⟨m,⟨o,_,_,ho,_⟩,_⟩:=I.loc
  exact free _ o (λz=>(hch _ z).2.1 rfl) ho I.free
 ·obtain⟨v,o,ho,hd⟩:=I.cell x c e
  exact free c o (λz=>(hch c z).2.2.1 x c e rfl) ho (I.freeC x c e)
 ·obtain⟨e,n,ne,nf,d⟩:=I.pin p hp
  have nch:p.1 ∉ ch:=λz=>(hch p.1 z).2.2.2 p hp rfl;exact⟨keep p.1 p.2 ne nf nch e n,free p.1 p.2 nch e n,ne,nf,d⟩
theorem Inv.un(I:Inv X pins σ H s)(u:Un X.fs [] H H' s.heap h')(hok:HOk X.prog X.w H' h'):Inv X pins σ H' { s with heap:=h',toks:=t' }:=by obtain⟨m,⟨o,es,ep,ho,r⟩,_⟩:=id I.loc;obtain⟨sl,hL⟩:=u.any ho I.free (by simp);exact I.step (g':=s.gens) (d':=s.drawn) (ch:=[]) (λ_ z=>nomatch z) (λb o _ hb _ e n=>u.keep b o e n hb (by simp)) (λb o _ hb _ e n=>u.slot b o e n hb (by simp)) (λb o _ e n=>u.free b o e n (by simp)) (λb o _ e=>u.there b o e (by simp)) u.tups u.frzs u.tbls (λm' hm=>by obtain⟨o',es',ep',ho',r'⟩:=hm;rw[ho]at ho'; cases ho';exact⟨_,es',ep',hL,r'⟩) hok I.bare
theorem Inv.call{g':Array GenState}{d':Drawn}(I:Inv X pins σ H s)(u:Un (frs X.stack) ch H H' s.heap h')(hok:HOk X.prog X.w H' h')(hg:AllBare g')
  (hch:∀b∈ch,(b∈X.ex\/X.s₀.heap.objs.size<=b)/\b≠X.env.locals/\(∀x c,X.env.cells.lookup x=Z c->c≠b)/\∀p∈X.pn++pins,p.1≠b) :
  Inv X pins σ H' { s with heap:=h',gens:=g',drawn:=d',toks:=t' }:=by
 obtain⟨m,⟨o,es,ep,ho,r⟩,_⟩:=id I.loc;obtain⟨sl,hL⟩:=u.any ho I.free λz=>(hch _ z).2.1 rfl;exact I.step (ch:=ch) hch (λb o hL hb hc e n=>u.keep b o e n (λz=>(ZAy.mp (I.stkSub b z)).elim hL hb) hc) (λb o _ _ hc e n=>u.any e n hc) (λb o hc e n=>u.free b o e n hc) (λb o hc e=>u.there b o e hc) u.tups u.frzs u.tbls (λm' hm=>by obtain⟨o',es',ep',ho',r'⟩:=hm;rw[ho]at ho'; cases ho';exact⟨_,es',ep',hL,r'⟩) hok hg
theorem Inv.turned{it:Addr}(I:Inv X pins σ H s)(k:∀b o,b≠it->s.heap.get? b=Z o->h'.get? b=Z o)(hn:H it=Z_)(hL:it≠X.env.locals)
  (h1:it∈X.ex\/X.s₀.heap.objs.size<=it) (h2:∀x c,X.env.cells.lookup x=Z c->c≠it) (h3:∀p∈X.pn++pins,p.1≠it):Inv X pins σ H { s with heap:=h',toks:=t' }:=by
 have nit:∀b u,H b=Z u->b≠it:=λb u e z=>by rw[z,hn]at e; cases e
 refine I.step (g':=s.gens) (d':=s.drawn) (ch:=[it]) (λb hb=>?_) (λb o _ _ hc e _=>k b o (λz=>hc (by simp[z])) e) (λb o _ _ hc e _=>⟨o.slots,k b o (λz=>hc (by simp[z])) e⟩) (λ_ _ _ _ n=>n)
  (λb o hc e=>⟨o,k b o (λz=>hc (by simp[z])) e⟩) (λ_ _ e=>e) (λ_ _ _ e=>e) (λb ps e=>⟨#[],by rw[e]; simp⟩) (λm hm=>?_) (λb u e=>?_) I.bare
 ·have e:b=it:=by simpa using hb
  subst e;exact⟨h1,hL,h2,h3⟩
 ·obtain⟨o,es,ep,ho,r⟩:=hm
  exact⟨o,es,ep,k _ o (ZBy hL) ho,r⟩
 ·refine(I.hok b u e).stay (λc v hc q=>k c v ?_ q) (λ_ q=>q) λ_ _ q=>q
  rcases hc with z | z
  ·rw[z]; exact nit b u e
  ·exact nit c _ z
theorem Inv.tok(I:Inv X pins σ H s)(t:Nat):Inv X pins σ H { s with toks:=t }:=I.un (h':=s.heap) (t':=t) Un.refl I.hok
theorem Inv.kept{t':Nat}(I:Inv X pins σ H s)(k:∀b u,s.heap.get? b=Z u->h'.get? b=Z u):Inv X pins σ H { s with heap:=h',toks:=t' }:=I.un (Un.kept k) (I.hok.kept k)
theorem Inv.laid{a:Addr}{o:HO}{t':Nat}(I:Inv X pins σ H s)(k:∀b u,s.heap.get? b=Z u->h'.get? b=Z u)(hp:s.heap.objs.size<=a)(new:Zai X.prog X.w (upd H a o) h' a o) :
  Inv X pins σ (upd H a o) { s with heap:=h',toks:=t' }:=I.un (Un.laid k hp (I.hok.fresh hp)) (I.hok.laid k hp new)
theorem Inv.write{x e:Addr}{o:HO}{t':Nat}(I:Inv X pins σ H s)(mu:Mut (H x))(he:e=x\/H e=Z (.own x))(k:∀b u,b≠e->s.heap.get? b=Z u->h'.get? b=Z u)(heo:∃u,h'.get? e=Z u)
  (new:Zai X.prog X.w (upd H x o) h' x o):Inv X pins σ (upd H x o) { s with heap:=h',toks:=t' }:=I.un (Un.write mu he k heo) (I.hok.write mu he k heo new)
theorem Inv.weak{σ':List (Option V)}(I:Inv X pins σ H s)(hl:σ'.length=σ.length)(w:∀(i:Nat) v,σ'[i]?=Z (Z v)->σ[i]?=Z (Z v)):Inv X pins σ' H s :=
 ⟨I.ok,I.os,I.bare,I.base,let ⟨m,hn,hl'⟩:=I.loc; ⟨m,hn,λi x v e1 e2 e3=>hl' i x v e1 (w i v e2) e3⟩,I.cell,I.free,I.freeC,I.pin,I.hok,hl.trans I.len⟩
theorem Inv.pins_of{pins':List (Addr × Obj)}(I:Inv X pins σ H s)(h:∀p∈pins',s.heap.get? p.1=Z p.2/\H p.1=Z_/\p.1≠X.env.locals/\p.1 ∉ X.fs/\∀v,p.2.data≠.cell v):Inv X pins' σ H s :=
 ⟨I.ok,I.os,I.bare,I.base,I.loc,I.cell,I.free,I.freeC,λp hp=>(ZAV.mp hp).elim (λz=>I.pin p (ZA3 _ z)) (h p),I.hok,I.len⟩
theorem ZpA{N:List Str}(hN:N.Nodup){j:Nat}(a:N[i]?=Z x)(b:N[j]?=Z x):i=j:=by obtain⟨h1,e1⟩:=ZAC.mp a;obtain⟨h2,e2⟩:=ZAC.mp b;exact(List.getElem_inj hN).mp (e1.trans e2.symm)
theorem Zne{M:Model}{v:V}{Q:Unit->Shared->Prop}(I:Inv X pins σ H s)(hN:X.N.Nodup)(hi:X.N[i]?=Z x)(hx:Loc X.env.scope x)(r:RelV v u)
  (h:∀s',Inv X pins (σ.set i (Z v)) H s'->(∃a,ZB9 a s.heap s'.heap/\(a=X.env.locals\/X.env.cells.lookup x=Z a))->Q () s') (hf:X.fn x=ZFt\/X.env.scope.names.lookup x=Z .local:=by first | exact .inl rfl | exact .inr rfl | assumption):wpAny M A (storeName X.env x u) Q E s:=by
 obtain⟨m,hn,hl⟩:=id I.loc;have hcls:(X.env.scope.kind==.class||(X.env.scope.kind==.module&&X.env.locals != X.env.globals))=ZFu:=by rw[I.ok.kind]; rfl
 have hiσ:i<σ.length:=by rw[I.len]; exact(ZAC.mp hi).1
 have cne:=I.cne;have tracked:∀{a:Addr} {h':Heap},(∃o,s.heap.get? a=Z o/\H a=Z_)->ZB9 a s.heap h'->HOk X.prog X.w H h':=λ{a h'} ha hs b ob e=>by
  obtain⟨_,_,hfree⟩:=ha;refine(I.hok b ob e).stay (λc w' hc q=>(hs.2 c ?_).trans q) (λ_ q=>q) λ_ _ q=>q
  rintro rfl
  rcases hc with rfl | hc
  ·rw[hfree]at e; cases e
  ·rw[hfree]at hc; cases hc
 rcases hx with hk | hk
 ·refine wpAny_storeName_local hk hn (λh' hn' hs=>?_) hcls
  obtain⟨oL,_,_,hoL,_⟩:=id hn;refine h _ ⟨I.ok,I.os,I.bare,⟨λb o e n hb hx=>?_,λb o e n hb hx=>?_,I.base.free,λb o e hx=>?_,I.base.tups,I.base.frzs,I.base.tbls⟩,⟨_,hn',λj y v' e1 e2 e3=>?_⟩,λy c e=>?_,I.free,I.freeC,λp hp=>?_,tracked ⟨oL,hoL,I.free⟩ hs,by simpa using I.len⟩ ⟨_,hs,.inl rfl⟩
  ·exact(hs.2 b (ZAK (ZAS (ZAG e) I.ok.above))).trans (I.base.keep b o e n hb hx)
  ·obtain⟨sl,e1⟩:=I.base.slot b o e n hb hx
   exact⟨sl,(hs.2 b (ZAK (ZAS (ZAG e) I.ok.above))).trans e1⟩
  ·obtain⟨o',e1⟩:=I.base.there b o e hx
   exact⟨o',(hs.2 b (ZAK (ZAS (ZAG e) I.ok.above))).trans e1⟩
  ·by_cases hj:j=i
   ·subst hj
    rw[hi]at e1; cases e1;rw[ZBl hiσ]at e2;cases e2;exact⟨u,r,.inl ⟨hk,by simp⟩⟩
   ·rw[ZAZ (ZBy hj)]at e2
    obtain⟨u',r',q⟩:=hl j y v' e1 e2 e3;refine⟨u',r',?_⟩;rcases q with⟨k,e⟩ | ⟨k,c,e,z⟩
    ·refine .inl ⟨k,?_⟩
     have:y≠x:=λe=>hj (ZpA hN e1 (e▸hi));simp[this,e]
    ·exact .inr ⟨k,c,e,z.sameBut hs (cne y c e)⟩
  ·obtain⟨w',z⟩:=I.cell y c e
   exact⟨w',z.sameBut hs (cne y c e)⟩
  ·obtain⟨e,n,ne,nf,d⟩:=I.pin p hp
   exact⟨(hs.2 p.1 ne).trans e,n,ne,nf,d⟩
 ·have hfn:X.fn x=ZFt:=by
   rcases hf with z | z
   ·exact z
   ·rw[z]at hk; cases hk
  obtain⟨c,hc⟩:=I.ok.has x (.inl hk);obtain⟨w',z⟩:=I.cell x c hc;refine wpAny_storeName_cell I.ok.kind hk hc z (λh' hc' hs=>?_);obtain⟨oc,hoc,hocd⟩:=id z;refine h { s with heap:=h' } ⟨I.ok,I.os,I.bare,⟨λb o e n hb hx=>?_,λb o e n hb hx=>?_,I.base.free,λb o e hx=>?_,I.base.tups,I.base.frzs,I.base.tbls⟩,⟨m,hn.sameBut hs (ZBy (cne x c hc)),λj y v' e1 e2 e3=>?_⟩,λy c' e=>?_,I.free,I.freeC,λp hp=>?_,tracked ⟨oc,hoc,I.freeC x c hc⟩ hs,by simpa using I.len⟩ ⟨c,hs,.inr hc⟩
  ·exact(hs.2 b (ZAK (ZAS (ZAG e) (I.ok.cab x c hfn hc)))).trans (I.base.keep b o e n hb hx)
  ·obtain⟨sl,e1⟩:=I.base.slot b o e n hb hx
   exact⟨sl,(hs.2 b (ZAK (ZAS (ZAG e) (I.ok.cab x c hfn hc)))).trans e1⟩
  ·obtain⟨o',e1⟩:=I.base.there b o e hx
   exact⟨o',(hs.2 b (ZAK (ZAS (ZAG e) (I.ok.cab x c hfn hc)))).trans e1⟩
  ·by_cases hj:j=i
   ·subst hj
    rw[hi]at e1; cases e1;rw[ZBl hiσ]at e2;cases e2;exact⟨u,r,.inr ⟨.inl hk,c,hc,hc'⟩⟩
   ·rw[ZAZ (ZBy hj)]at e2
    obtain⟨u',r',q⟩:=hl j y v' e1 e2 e3;refine⟨u',r',?_⟩;rcases q with q | ⟨k,c',e,z'⟩
    ·exact .inl q
    ·refine .inr ⟨k,c',e,z'.sameBut hs ?_⟩
     rintro rfl
     exact hj (ZpA hN e1 (I.ok.inj _ _ _ e hc▸hi))
  ·by_cases hcc:c'=c
   ·subst hcc; exact⟨_,hc'⟩
   ·obtain⟨w2,z2⟩:=I.cell y c' e
    exact⟨w2,z2.sameBut hs hcc⟩
  ·obtain⟨e,n,ne,nf,d⟩:=I.pin p hp
   refine⟨(hs.2 p.1 ?_).trans e,n,ne,nf,d⟩;intro q;rw[q,hoc]at e;have q':oc=p.2:=ZA9 e;exact d w' (by rw[<-q']; exact hocd)
theorem Zqt{M:Model}{v:V}{Q:Unit->Shared->Prop}(I:Inv X pins σ H s)(hN:X.N.Nodup)(hi:X.N[i]?=Z x)(hx:Loc X.env.scope x)(r:RelV v u)
  (h:∀s',Inv X pins (σ.set i (Z v)) H s'->Q () s') (hf:X.fn x=ZFt\/X.env.scope.names.lookup x=Z .local:=by first | exact .inl rfl | exact .inr rfl | assumption):wpAny M A (storeName X.env x u) Q E s :=
 Zne I hN hi hx r (λs' I' _=>h s' I') hf
theorem Inv.call'{s':Shared}(I:Inv X pins σ H s)(ho:s'.os=s.os)(u:Un (frs X.stack) ch H H' s.heap s'.heap)(hok:HOk X.prog X.w H' s'.heap)(hg:AllBare s'.gens)
  (hch:∀b∈ch,(b∈X.ex\/X.s₀.heap.objs.size<=b)/\b≠X.env.locals/\(∀x c,X.env.cells.lookup x=Z c->c≠b)/\∀p∈X.pn++pins,p.1≠b):Inv X pins σ H' s':=by
 obtain⟨h',g',d',t',o'⟩:=s';have e:o'=s.os:=ho;subst e;exact I.call (g':=g') (t':=t') (d':=d') u hok hg hch
end
abbrev XK:=Value->Option Addr->Hp->Prop
abbrev St:=List (Option V)
abbrev VK:=V->Hp->Prop
abbrev TE:=St->Hp->VK->Prop
abbrev TT:=St->Hp->(Bool->Hp->Prop)->Prop
abbrev TA:=St->Hp->(List V->Hp->Prop)->Prop
structure Ends where
 nx:St->Hp->Prop
 rt:VK
 bk:St->Hp->Prop:=λ_ _=>False
 ct:St->Hp->Prop:=λ_ _=>False
abbrev TS:=Ends->St->Hp->Prop
inductive EP(X:Cx)(pins:List (Addr × Obj))(σ:St)(Q:VK)(u:Value)(s':Shared):Prop
 | mk (v:V) (H':Hp) (I:Inv X pins σ H' s') (r:RelV v u) (q:Q v H'):EP X pins σ Q u s'
inductive TP(X:Cx)(pins:List (Addr × Obj))(σ:St)(Q:Bool->Hp->Prop)(b:Bool)(s':Shared):Prop
 | mk (H':Hp) (I:Inv X pins σ H' s') (q:Q b H'):TP X pins σ Q b s'
inductive AP(X:Cx)(pins:List (Addr × Obj))(σ:St)(Q:List V->Hp->Prop)(us:List Value)(s':Shared):Prop
 | mk (vs:List V) (H':Hp) (I:Inv X pins σ H' s') (r:Vals vs us) (q:Q vs H'):AP X pins σ Q us s'
inductive SPn(X:Cx)(pins:List (Addr × Obj))(N:St->Hp->Prop)(s':Shared):Prop
 | mk (σ':St) (H':Hp) (I:Inv X pins σ' H' s') (q:N σ' H'):SPn X pins N s'
inductive SPr(X:Cx)(pins:List (Addr × Obj))(R:V->Hp->Prop)(u:Value)(s':Shared):Prop
 | mk (v:V) (σ':St) (H':Hp) (I:Inv X pins σ' H' s') (r:RelV v u) (q:R v H'):SPr X pins R u s'
def SP(X:Cx)(pins:List (Addr × Obj))(D:Ends)(f:Flow)(s':Shared):Prop :=
 match f with
 | .next=>SPn X pins D.nx s'
 | .brk=>SPn X pins D.bk s'
 | .cont=>SPn X pins D.ct s'
 | .ret u=>SPr X pins D.rt u s'
def PE(X:Cx)(e:Expr)(t:TE):Prop :=
 ∀(pins:List (Addr × Obj)) (s:Shared) (σ:St) (H:Hp) (Q:VK),Inv X pins σ H s->t σ H Q->wpAny (model X.prog X.w) X.A (eval e X.env) (EP X pins σ Q) X.xe s
def PT(X:Cx)(e:Expr)(t:TT):Prop :=
 ∀(pins:List (Addr × Obj)) (s:Shared) (σ:St) (H:Hp) (Q:Bool->Hp->Prop),Inv X pins σ H s->t σ H Q->wpAny (model X.prog X.w) X.A (isTrue e X.env (eval e X.env)) (TP X pins σ Q) X.xe s
def PW(X:Cx)(e:Expr)(t:TT):Prop :=
 ∀(whole:Sem Value) (pins:List (Addr × Obj)) (s:Shared) (σ:St) (H:Hp) (Q:Bool->Hp->Prop),Inv X pins σ H s->t σ H Q->wpAny (model X.prog X.w) X.A (isTrue e X.env whole) (TP X pins σ Q) X.xe s
theorem PW.pt{X:Cx}{e:Expr}{t:TT}(h:PW X e t):PT X e t:=h _
def PA(X:Cx)(es:List Expr)(t:TA):Prop :=
 ∀(pos:Pos) (pins:List (Addr × Obj)) (s:Shared) (σ:St) (H:Hp) (Q:List V->Hp->Prop),Inv X pins σ H s->t σ H Q->wpAny (model X.prog X.w) X.A (spliced (backTo pos (ZAD es X.env))) (AP X pins σ Q) X.xe s
def PS(X:Cx)(st:Stmt)(t:TS):Prop :=
 ∀(pins:List (Addr × Obj)) (s:Shared) (σ:St) (H:Hp) (D:Ends),Inv X pins σ H s->t D σ H->wpAny (model X.prog X.w) X.A (exec st X.env) (SP X pins D) X.xe s
def PSs(X:Cx)(st:List Stmt)(t:TS):Prop :=
 ∀(pins:List (Addr × Obj)) (s:Shared) (σ:St) (H:Hp) (D:Ends),Inv X pins σ H s->t D σ H->wpAny (model X.prog X.w) X.A (execs st X.env) (SP X pins D) X.xe s
theorem thn{α:Type}{t:Sem α}{Q Q':α->Shared->Prop}{M:Model}{s:Shared}(h:wpAny M A t Q E s)(hQ:∀a s,Q a s->Q' a s):wpAny M A t Q' E s:=ZBM h hQ λ_ _ x=>x
end L2
namespace L2
open PySem PySem.Spec PyProof.Rows
variable{H:Hp}{pins:List (Addr × Obj)}{pos:Pos}{s:Shared}{σ:St}{x:Str}{u:Value}{E Q:Value->Shared->Prop}
section
variable{X:Cx}
def ZzY(i:Nat):TE:=λσ H Q=>∃v,σ[i]?=Z (Z v)/\Q v H
noncomputable def tC (v:V):TE:=λ_ H Q=>Q v H
theorem ZbL{i:Nat}(hN:X.N[i]?=Z x)(hv:Vis X.env.scope x)(hd:(x==("__debug__":Str))=ZFu:=by decide)(hcd:(x==("__classdict__":Str))=ZFu:=by decide):PE X (.Name x pos) (ZzY i):=by
 intro pins s σ H Q I h;obtain⟨v,e,h⟩:=h;obtain⟨m,hn,hl⟩:=I.loc;obtain⟨u,r,l⟩:=hl i x v hN e hv;have fin:EP X pins σ Q u s:=⟨v,H,I,r,h⟩;rcases l with⟨hk,hm⟩ | ⟨hk,c,hc,hcell⟩
 ·exact wpAny_Name (wpAny_loadName_local I.ok.kind hk hn hm fin) hd
 ·rcases hk with hk | hk
  ·exact wpAny_Name (wpAny_loadName_cell I.ok.kind hk hc hcell fin) hd
  ·exact wpAny_Name (wpAny_loadName_free I.ok.kind hk hc hcell fin hcd) hd
theorem ZtI{i j pos}:PE X (.Constant (.int i) j pos) (tC (.int i)):=λ_ _ _ H _ I h=>wpAny_Constant_int ⟨.int i,H,I.tok _,⟨_,rfl⟩,h⟩
theorem ZyP{b j pos}:PE X (.Constant (.bool b) j pos) (tC (.bl b)):=λ_ _ _ H _ I h=>Constant_bool ⟨.bl b,H,I,rfl,h⟩
theorem Zuc{j pos}:PE X (.Constant .none j pos) (tC .non):=λ_ _ _ H _ I h=>Constant_none ⟨.non,H,I,rfl,h⟩
theorem ZxV{x j pos}:PE X (.Constant (.str x) j pos) (tC (.str x)):=λ_ _ _ H _ I h=>Calls.Constant_str ⟨.str x,H,I.tok _,⟨_,rfl⟩,h⟩
def Gl(X:Cx)(x:Str):Prop:=X.env.kindOf x=Z .globalImplicit
theorem ZmC(I:Inv X pins σ H s)(hg:Gl X x)(hm:X.mg x=Z u)(h:Q u s)
  (hd:(x==("__debug__":Str))=ZFu:=by decide):wpAny (model X.prog X.w) X.A (eval (.Name x pos) X.env) Q E s :=
 ZEj I.ok.kind hg (Calls.loadGlobal_global (by rw[I.ok.glob]; exact I.mod.glob.keeps I.bk) hm h) hd
theorem Zig(I:Inv X pins σ H s)(hg:Gl X x)(hm:X.mg x=Z_)(hv:ZBr x=Z u)(h:Q u s)
  (hn:x ≠ "__name__":=by decide) (hd:(x==("__debug__":Str))=ZFu:=by decide):wpAny (model X.prog X.w) X.A (eval (.Name x pos) X.env) Q E s:=by
 obtain⟨mb,h1,h2⟩:=I.mod.blt;exact ZEj I.ok.kind hg (Calls.loadGlobal_builtin (by rw[I.ok.glob]; exact I.mod.glob.keeps I.bk) hm (by rw[I.ok.blt]; exact h1.keeps I.bk) ((h2 x hn).trans hv) h) hd
theorem Zmv{v:V}(hg:Gl X x)(hm:X.mg x=Z u)(r:RelV v u)(hd:(x==("__debug__":Str))=ZFu:=by decide):PE X (.Name x pos) (tC v) :=
 λ_ _ _ H _ I h=>ZmC I hg hm ⟨v,H,I,r,h⟩ hd
theorem Zwj{v:V}(hg:Gl X x)(hm:X.mg x=Z_)(hv:ZBr x=Z u)(r:RelV v u)(hn:x ≠ "__name__":=by decide)(hd:(x==("__debug__":Str))=ZFu:=by decide):PE X (.Name x pos) (tC v) :=
 λ_ _ _ H _ I h=>Zig I hg hm hv ⟨v,H,I,r,h⟩ hn hd
variable{a b:Expr}{ta tb:TE}{pos:Pos}
def PC(X:Cx)(op:CmpOp)(a b:Expr)(t:TE):Prop :=
 ∀(pins:List (Addr × Obj)) (s:Shared) (σ:St) (H:Hp) (Q:VK),Inv X pins σ H s->t σ H Q ->
  wpAny (model X.prog X.w) X.A (eval a X.env) (λv s₁=>wpAny (model X.prog X.w) X.A (eval b X.env) (λu s₂=>wpAny (model X.prog X.w) X.A (ZBw op v u) (EP X pins σ Q) X.xe s₂) X.xe s₁) X.xe s
theorem Zli(b:Expr){op:CmpOp}(h:op≠.In)(h2:op≠.NotIn):ZBF op b=ZFu:=by
 have e1:(op==CmpOp.In)=ZFu:=by cases op<;>first | rfl | exact absurd rfl h
 have e2:(op==CmpOp.NotIn)=ZFu:=by cases op<;>first | rfl | exact absurd rfl h2
 cases b<;>simp[ZBF,e1,e2]
def tB(t:TE):TT:=λσ H Q=>t σ H λx H1=>∃c,x=.bl c/\Q c H1
theorem ZpZ{op:CmpOp}{t:TE}(h:PC X op a b t)(h1:ZBF op b=ZFu:=by first | exact Zli _ (by decide) (by decide) | rfl):PT X (.Compare a [op] [b] pos) (tB t):=by intro pins s σ H Q I hw;refine wpAny_isTrue_Compare1 (thn (h pins s σ H _ I hw) λv s1 h1=>thn h1 λu s2 h2=>thn h2 λc s3 ⟨x,H1,I1,r1,q1⟩=>?_) h1;obtain⟨d,rfl,q⟩:=q1;cases r1;exact ZB5 ⟨H1,I1,q⟩
theorem ZxC{e:Expr}{t:TE}(h:PE X e t)(he:∀whole,isTrue e X.env whole=(do let v <-whole; standAt e.pos; holding [v] (truthy v)):=by intro _; rfl):PT X e (tB t):=by intro pins s σ H Q I hw;refine isTrue_plain (thn (h pins s σ H _ I hw) λv s1 ⟨x,H1,I1,r1,q1⟩=>?_) (he _);obtain⟨d,rfl,q⟩:=q1;cases r1;exact ZB5 ⟨H1,I1,q⟩
variable{tA tB':TT}{rest:List Expr}
def ZjH(t u:TT):TT:=λσ H Q=>t σ H λc H1=>if c=ZFt then u σ H1 Q else Q ZFu H1
def tOr(t u:TT):TT:=λσ H Q=>t σ H λc H1=>if c=ZFt then Q ZFt H1 else u σ H1 Q
def ZcW(t:TT):TT:=λσ H Q=>t σ H λc H1=>Q (!c) H1
theorem Zwu(ha:PT X a tA):PW X (.BoolOp .And [a] pos) tA:=by
 intro wh pins s σ H Q I h;refine isTrue_and (thn (ha pins s σ H Q I h) λc s1 e=>?_);cases c with
 | true=>exact isTrue_and_nil e
 | false=>exact e
theorem ZxT(ha:PT X a tA):PW X (.BoolOp .Or [a] pos) tA:=by
 intro wh pins s σ H Q I h;refine isTrue_or (thn (ha pins s σ H Q I h) λc s1 e=>?_);cases c with
 | false=>exact isTrue_or_nil e
 | true=>exact e
theorem ZtZ(ha:PT X a tA)(hb:PW X (.BoolOp .And (b::rest) pos) tB'):PW X (.BoolOp .And (a::b::rest) pos) (ZjH tA tB'):=by
 intro wh pins s σ H Q I h;refine isTrue_and (thn (ha pins s σ H _ I h) λc s1 ⟨H1,I1,q1⟩=>?_);cases c with
 | true=>exact hb wh pins s1 σ H1 Q I1 q1
 | false=>exact⟨H1,I1,q1⟩
theorem ZvQ(ha:PT X a tA)(hb:PW X (.BoolOp .Or (b::rest) pos) tB'):PW X (.BoolOp .Or (a::b::rest) pos) (tOr tA tB'):=by
 intro wh pins s σ H Q I h;refine isTrue_or (thn (ha pins s σ H _ I h) λc s1 ⟨H1,I1,q1⟩=>?_);cases c with
 | true=>exact⟨H1,I1,q1⟩
 | false=>exact hb wh pins s1 σ H1 Q I1 q1
theorem Zyq(ha:PT X a tA):PT X (.UnaryOp .Not a pos) (ZcW tA):=by intro pins s σ H Q I h;exact isTrue_not (thn (ha pins s σ H (λc H1=>Q (!c) H1) I h) λ_ _ ⟨H',I',q'⟩=>⟨H',I',q'⟩)
def Zy2(ta tb:TE):TE:=λσ H Q=>ta σ H λx H1=>∃c,x=.bl c/\if c=ZFt then tb σ H1 Q else Q (.bl ZFu) H1
def ZyS(ta:TE):TE:=λσ H Q=>ta σ H λx H1=>∃c,x=.bl c/\Q (.bl (!c)) H1
theorem ZxR{op}{t:TE}(h:PE X a t):PE X (.BoolOp op [a] pos) t:=λpins s σ H Q I hw=>BoolOp_one (h pins s σ H Q I hw)
theorem Ztk(ha:PE X a ta)(hb:PE X (.BoolOp .And (b::rest) pos) tb):PE X (.BoolOp .And (a::b::rest) pos) (Zy2 ta tb):=by
 intro pins s σ H Q I h;refine BoolOp_and (thn (ha pins s σ H _ I h) λv s1 ⟨x,H1,I1,r1,q1⟩=>?_);obtain⟨c,rfl,q1⟩:=q1;cases r1;refine ZB5 ?_;cases c with
 | true=>exact hb pins s1 σ H1 Q I1 q1
 | false=>exact⟨.bl ZFu,H1,I1,rfl,q1⟩
theorem Zxr(ha:PE X a ta):PE X (.UnaryOp .Not a pos) (ZyS ta):=by intro pins s σ H Q I h;refine UnaryOp_ (thn (ha pins s σ H _ I h) λv s1 ⟨x,H1,I1,r1,q1⟩=>?_);obtain⟨c,rfl,q1⟩:=q1;cases r1;exact not_of (ZB5 ⟨.bl (!c),H1,I1,rfl,q1⟩)
def tIf(t:TT)(ta tb:TE):TE:=λσ H Q=>t σ H λc H1=>if c=ZFt then ta σ H1 Q else tb σ H1 Q
theorem Zqj{c:Expr}(hc:PT X c tA)(ha:PE X a ta)(hb:PE X b tb):PE X (.IfExp c a b pos) (tIf tA ta tb):=by
 intro pins s σ H Q I h;refine wpAny_IfExp (thn (hc pins s σ H _ I h) λd s1 ⟨H1,I1,q1⟩=>?_);cases d with
 | true=>exact ha pins s1 σ H1 Q I1 q1
 | false=>exact hb pins s1 σ H1 Q I1 q1
end
end L2
namespace L2
open PySem PySem.Spec PyProof.Rows
variable{X:Cx}{c tg:Expr}{H:Hp}{pins:List (Addr × Obj)}{es:List Expr}{i:Nat}{P:Program}{K:ZAo}{s:Shared}{σ:St}{x:Str}{u:Value}{E:Value->Shared->Prop}{w:World}
def SqL(K:ZAo)(H:Hp)(a:Addr)(xs:List V):Prop :=
 Rd H a (.lst xs) \/
  ∃(o:Obj) (its:Array Value) (n:Nat),K.lookup a=Z o/\o.cls=.type "list"/\o.dict=Z_/\o.data=.seq its n/\its.size<=sizeLine/\Vals xs its.toList
def SqT(K:ZAo)(H:Hp)(a:Addr)(xs:List V):Prop :=
 Rd H a (.tup xs) \/
  ∃(o:Obj) (its:Array Value) (n:Nat),K.lookup a=Z o/\o.cls=.type "tuple"/\o.data=.seq its n/\its.size<=sizeLine/\Vals xs its.toList
def ZzD:Value->Option V
 | .none=>Z .non
 | .bool b=>Z (.bl b)
 | .int i _=>Z (.int i)
 | .str x _=>Z (.str x)
 | .bytes b _=>Z (.byt b)
 | .float b _=>Z (.flt b)
 | .ref a=>Z (.ref a)
 | .type n=>Z (.ty n)
 | _=>Z_
theorem RelV.abs{x:V}(r:RelV x u):ZzD u=Z x:=by
 cases x with
 | non=>cases r; rfl
 | bl _=>cases r; rfl
 | int _=>obtain⟨t,rfl⟩:=r; rfl
 | str _=>obtain⟨t,rfl⟩:=r; rfl
 | byt _=>obtain⟨t,rfl⟩:=r; rfl
 | flt _=>obtain⟨t,rfl⟩:=r; rfl
 | ref _=>cases r; rfl
 | ty _=>cases r; rfl
theorem RelV.inj{x y:V}{u:Value}(r:RelV x u)(q:RelV y u):x=y:=ZA9 (r.abs.symm.trans q.abs)
theorem Vals.inj:∀{xs ys:List V} {us:List Value},Vals xs us->Vals ys us->xs=ys
 | _,_,_,.nil,.nil=>rfl
 | _,_,_,.cons r t,.cons r' t'=>by rw[r.inj r',Vals.inj t t']
section
variable{X:Cx}{pins:List (Addr × Obj)}{σ:St}{H:Hp}{s:Shared}{a:Addr}{xs ys:List V}
theorem SqL.of(h:H a=Z (.lst xs)):SqL K H a xs:=.inl (.inl h)
theorem SqT.of(h:H a=Z (.tup xs)):SqT K H a xs:=.inl (.inl h)
theorem Inv.list(I:Inv X pins σ H s)(h:SqL X.K H a xs):∃its:List Value,Vals xs its/\PlainL s.heap a its.toArray/\xs.length<=sizeLine:=by
 rcases h with h | ⟨o,its,n,hk,hc,hd,hs,hz,r⟩
 ·obtain⟨z,its,n,r,e⟩:=h.ok I.hok
  exact⟨its,r,⟨_,n,e,rfl,rfl,rfl⟩,z⟩
 ·refine⟨its.toList,r,⟨o,n,I.kIn a o hk,hc,hd,by simpa using hs⟩,?_⟩
  have e:=r.length;simp only[ZAM]at e;omega
theorem Inv.tuple(I:Inv X pins σ H s)(h:SqT X.K H a xs):∃its:List Value,Vals xs its/\IsTup s.heap a its.toArray/\xs.length<=sizeLine:=by
 rcases h with h | ⟨o,its,n,hk,hc,hs,hz,r⟩
 ·obtain⟨z,its,r,p⟩:=h.ok I.hok
  exact⟨its,r,p,z⟩
 ·refine⟨its.toList,r,⟨o,I.kIn a o hk,hc,n,by simpa using hs⟩,?_⟩
  have e:=r.length;simp only[ZAM]at e;omega
theorem Inv.list_inj(I:Inv X pins σ H s)(h:SqL X.K H a xs)(h':SqL X.K H a ys):xs=ys:=by
 obtain⟨its,r,⟨o,n,e,_,_,d⟩,_⟩:=I.list h;obtain⟨its',r',⟨o',n',e',_,_,d'⟩,_⟩:=I.list h';rw[e]at e'; cases e';rw[d]at d';injection d' with d1 _
 have:its=its':=by simpa using congrArg Array.toList d1
 subst this;exact r.inj r'
theorem Inv.tuple_inj(I:Inv X pins σ H s)(h:SqT X.K H a xs)(h':SqT X.K H a ys):xs=ys:=by
 obtain⟨its,r,⟨o,e,_,n,d⟩,_⟩:=I.tuple h;obtain⟨its',r',⟨o',e',_,n',d'⟩,_⟩:=I.tuple h';rw[e]at e'; cases e';rw[d]at d';injection d' with d1 _
 have:its=its':=by simpa using congrArg Array.toList d1
 subst this;exact r.inj r'
end
abbrev Cx.wish(X:Cx)(E:Value->Shared->Prop):Cx:={ X with xe:=E }
abbrev Cx.nox(X:Cx):Cx:=X.wish λ_ _=>False
theorem Cx.Ok.wish{X:Cx}(ok:X.Ok)(E:Value->Shared->Prop):(X.wish E).Ok :=
 ⟨ok.mod,ok.kind,ok.glob,ok.blt,ok.above,ok.inj,ok.has,ok.cab,ok.hd,ok.frames,ok.stk,ok.exf,ok.bs,ok.bsz,ok.noex,ok.exfs,ok.funs,ok.frf⟩
theorem Cx.Ok.unwish(ok:(X.wish E).Ok):X.Ok :=
 ⟨ok.mod,ok.kind,ok.glob,ok.blt,ok.above,ok.inj,ok.has,ok.cab,ok.hd,ok.frames,ok.stk,ok.exf,ok.bs,ok.bsz,ok.noex,ok.exfs,ok.funs,ok.frf⟩
section
variable{X:Cx}{pins:List (Addr × Obj)}{σ:St}{H:Hp}{s:Shared}{E:Value->Shared->Prop}
theorem Inv.wish(I:Inv X pins σ H s)(E:Value->Shared->Prop):Inv (X.wish E) pins σ H s:=⟨I.ok.wish E,I.os,I.bare,I.base,I.loc,I.cell,I.free,I.freeC,I.pin,I.hok,I.len⟩
theorem Inv.unwish(I:Inv (X.wish E) pins σ H s):Inv X pins σ H s:=⟨I.ok.unwish,I.os,I.bare,I.base,I.loc,I.cell,I.free,I.freeC,I.pin,I.hok,I.len⟩
theorem SP.unwish{D:Ends}{f:Flow}{s':Shared}(h:SP (X.wish E) pins D f s'):SP X pins D f s':=by
 cases f with
 | next=>obtain⟨σ',H',I,q⟩:=h; exact⟨σ',H',I.unwish,q⟩
 | brk=>obtain⟨σ',H',I,q⟩:=h; exact⟨σ',H',I.unwish,q⟩
 | cont=>obtain⟨σ',H',I,q⟩:=h; exact⟨σ',H',I.unwish,q⟩
 | ret u=>obtain⟨v,σ',H',I,r,q⟩:=h; exact⟨v,σ',H',I.unwish,r,q⟩
theorem PSs.nox{st:List Stmt}{t:TS}(h:PSs X.nox st t):PSs X st t:=λpins s σ H D I hw=>ZBM (h pins s σ H D (I.wish _) hw) (λ_ _ q=>q.unwish) λ_ _ z=>ZBk z
end
section
variable{X:Cx}{st:Stmt}{rest:List Stmt}{t u:TS}{e:Expr}{te:TE}{pos:Pos}
noncomputable def Zy7:TS:=λD σ H=>D.nx σ H
noncomputable def ZzI (t u:TS):TS:=λD σ H=>t { D with nx:=u D } σ H
theorem Zv9:PSs X [] Zy7:=λ_ _ σ H _ I h=>ZDV ⟨σ,H,I,h⟩
theorem ZiP(h1:PS X st t)(h2:PSs X rest u):PSs X (st::rest) (ZzI t u):=by
 intro pins s σ H D I h;refine wpAny_execs_cons (thn (h1 pins s σ H { D with nx:=u D } I h) λf s1 q=>?_);cases f with
 | next=>obtain⟨σ',H',I',q⟩:=q;exact h2 pins s1 σ' H' D I' q
 | ret v=>exact q
 | brk=>exact q
 | cont=>exact q
theorem Zrm(h1:PS X st t):PSs X [st] t:=by
 intro pins s σ H D I h;refine wpAny_execs_cons (thn (h1 pins s σ H D I h) λf s1 q=>?_);cases f with
 | next=>exact ZDV q
 | ret v=>exact q
 | brk=>exact q
 | cont=>exact q
theorem Inv.quiet(I:Inv X pins σ H s):interactive X.env=ZFu:=by simp[interactive,I.ok.kind]
def Zy4(te:TE):TS:=λD σ H=>te σ H λ_ H1=>D.nx σ H1
theorem Zih(he:PE X e te)(hs:ZCq e Z_ pos.line X.env=pure ZFu:=by rfl):PS X (.Expr e pos) (Zy4 te):=by intro pins s σ H D I h;exact wpAny_Expr_any (thn (he pins s σ H _ I h) λv s1 ⟨x,H1,I1,r1,q1⟩=>⟨σ,H1,I1,q1⟩) I.quiet hs
def ZzB(te:TE):TS:=λD σ H=>te σ H D.rt
theorem Zpq(he:PE X e te):PS X (.Return (Z e) pos) (ZzB te):=by intro pins s σ H D I h;exact wpAny_Return_some (thn (he pins s σ H _ I h) λv s1 ⟨x,H1,I1,r1,q1⟩=>⟨x,σ,H1,I1,r1,q1⟩)
def ZzM(c:TT)(t u:TS):TS:=λD σ H=>c σ H λb H1=>if b=ZFt then t D σ H1 else u D σ H1
theorem ZvS{a b:List Stmt}{tc:TT}(hc:PT X c tc)(ha:PSs X a t)(hb:PSs X b u):PS X (.If c a b pos) (ZzM tc t u):=by
 intro pins s σ H D I h;refine wpAny_If (thn (hc pins s σ H _ I h) λd s1 ⟨H1,I1,q1⟩=>?_);cases d with
 | true=>exact ha pins s1 σ H1 D I1 q1
 | false=>exact hb pins s1 σ H1 D I1 q1
def Zxh:TS:=λ_ _ _=>False
theorem Zhq{sts:List Stmt}:PSs X sts Zxh:=λ_ _ _ _ _ _ h=>h.elim
end
abbrev TG:=V->St->Hp->(St->Hp->Prop)->Prop
abbrev TGs:=List V->St->Hp->(St->Hp->Prop)->Prop
def PG(X:Cx)(target:Expr)(t:TG):Prop :=
 ∀(pins:List (Addr × Obj)) (s:Shared) (σ:St) (H:Hp) (v:V) (u:Value) (Q:St->Hp->Prop),Inv X pins σ H s->RelV v u->t v σ H Q ->
  wpAny (model X.prog X.w) X.A (assign target X.env u) (λ_ s'=>∃σ' H',Inv X pins σ' H' s'/\Q σ' H') X.xe s
def PGs(X:Cx)(ts:List Expr)(t:TGs):Prop :=
 ∀(pins:List (Addr × Obj)) (s:Shared) (σ:St) (H:Hp) (vs:List V) (us:List Value) (Q:St->Hp->Prop),Inv X pins σ H s->Vals vs us->t vs σ H Q ->
  wpAny (model X.prog X.w) X.A (assignInOrder ((ZCx ts X.env).map (·.2)) us) (λ_ s'=>∃σ' H',Inv X pins σ' H' s'/\Q σ' H') X.xe s
abbrev Zvc:=V->V->V->Hp->(Hp->Prop)->Prop
def ZxU(X:Cx)(t:Zvc):Prop :=
 ∀(pins:List (Addr × Obj)) (s:Shared) (σ:St) (H:Hp) (o i v:V) (ov iv u:Value) (Q:Hp->Prop),Inv X pins σ H s->RelV o ov->RelV i iv->RelV v u->t o i v H Q ->
  wpAny (model X.prog X.w) X.A (setItem ov iv u) (λ_ s'=>∃H',Inv X pins σ H' s'/\Q H') X.xe s
section
variable{X:Cx}{pos:Pos}
def Zn6(i:Nat):TG:=λv σ H Q=>Q (σ.set i (Z v)) H
theorem ZgB(hN:X.N.Nodup)(hi:X.N[i]?=Z x)(hx:Loc X.env.scope x)(hf:X.fn x=ZFt\/X.env.scope.names.lookup x=Z .local:=by first | exact .inl rfl | exact .inr rfl | assumption):PG X (.Name x pos) (Zn6 i):=by intro pins s σ H v u Q I r h;exact wpAny_assign_Name (Zqt I hN hi hx r (λs' I'=>⟨_,H,I',h⟩) hf)
def Zx6:TGs:=λvs σ H Q=>vs=[]/\Q σ H
def ZsK(t:TG)(u:TGs):TGs:=λvs σ H Q=>∃v r,vs=v::r/\t v σ H λσ' H'=>u r σ' H' Q
theorem Zrz:PGs X [] Zx6:=by intro pins s σ H vs us Q I r h;obtain⟨e,h⟩:=h;subst e;cases r;exact assignInOrder_nil ⟨σ,H,I,h⟩
theorem ZiU{e:Expr}{t:TG}{u:TGs}(h1:PG X e t)(h2:PGs X es u)
  (hs:(ZCx (e::es) X.env).map (·.2)=assign e X.env::(ZCx es X.env).map (·.2):=by rfl):PGs X (e::es) (ZsK t u):=by
 intro pins s σ H vs us Q I r h;obtain⟨v,vr,e1,h⟩:=h;subst e1;cases r with
 | cons r rr=>rw[hs];refine assignInOrder_cons (thn (h1 pins s σ H _ _ _ I r h) λ_ s1 ⟨σ1,H1,I1,q1⟩=>?_);exact h2 pins s1 σ1 H1 _ _ Q I1 rr q1
def Zxq(K:ZAo)(n:Nat)(t:TGs):TG:=λv σ H Q=>∃a xs,v=.ref a/\SqT K H a xs/\xs.length=n/\t xs σ H Q
theorem Zs7{k:Nat}{t:TGs}{n:Nat}(hc:X.calm=ZFt)(h:PGs X es t)
  (hn:(ZCx es X.env).length=n:=by rfl) (hst:(ZCx es X.env).findIdx? (·.1)=Z_:=by rfl):PG X (.Tuple es k pos) (Zxq X.K n t):=by
 intro pins s σ H v u Q I r hw;obtain⟨a,xs,e1,hq,hl,hw⟩:=hw;subst e1;cases r;obtain⟨its,rv,ht,hz⟩:=I.tuple hq;refine assign_Tuple_tuple (I.ok.hd hc) ht (by simp[hn,<-hl,rv.length]) hst λh' hx=>?_;have I1:Inv X pins σ H { s with heap:=h' }:=I.kept (t':=s.toks) λb o e=>hx b o (ZAK (ZAG e)) e;exact h pins _ σ H xs _ Q I1 (by simpa using rv) hw
def ZmA(to ti:TE)(t:Zvc):TG:=λv σ H Q=>to σ H λo H1=>ti σ H1 λi H2=>t o i v H2 λH3=>Q σ H3
theorem Zyx{o i:Expr}{to ti:TE}{t:Zvc}(ho:PE X o to)(hi:PE X i ti)(hs:ZxU X t)
  (ha:∀v,assign (.Subscript o i pos) X.env v=(do
   let ov <-holding [v] (eval o X.env)
   let iv <-holding [v,ov] (eval i X.env)
   standAt pos
   holding [v,ov,iv] (setItem ov iv v)
   release [v,ov,iv] []):=by intro _; rfl):PG X (.Subscript o i pos) (ZmA to ti t):=by
 intro pins s σ H v u Q I r h;rw[ha];refine ZAm (ZBG (thn (ho pins s σ H _ I h) λov s1 ⟨x,H1,I1,r1,q1⟩=>?_));refine ZAm (ZBG (thn (hi pins s1 σ H1 _ I1 q1) λiv s2 ⟨y,H2,I2,r2,q2⟩=>?_));refine ZAm (wpAny_standAt (ZAm (ZBG (thn (hs pins s2 σ H2 x y v ov iv u _ I2 r1 r2 r q2) λ_ s3 ⟨H3,I3,q3⟩=>?_))));exact wpAny_release ⟨σ,H3,I3,q3⟩
def Zxg(te:TE)(g:TG):TS:=λD σ H=>te σ H λx H1=>g x σ H1 D.nx
theorem Zx3{e:Expr}{te:TE}{g:TG}(he:PE X e te)(hg:PG X tg g)(hs:swapsWithSole [tg] e pos.line X.env=pure ZFu:=by rfl)(hw:swappedStores [tg] e X.env=pure Z_:=by rfl)
  (h1:(ZCx [tg] X.env).map (·.2)=[assign tg X.env]:=by rfl):PS X (.Assign [tg] e pos) (Zxg te g):=by
 intro pins s σ H D I h;refine wpAny_Assign_stores (thn (he pins s σ H _ I h) λv s1 ⟨x,H1,I1,r1,q1⟩=>?_) hs hw;rw[h1];exact thn (hg pins s1 σ H1 x v _ I1 r1 q1) λ_ s2 ⟨σ',H',I',q'⟩=>⟨σ',H',I',q'⟩
theorem ZpT{e:Expr}{te:TE}{pos':Pos}(hN:X.N.Nodup)(hi:X.N[i]?=Z x)(hx:Loc X.env.scope x)(he:PE X e te)(hs:ZCq e (Z (.Name x pos')) pos.line X.env=pure ZFu:=by rfl)(hf:X.fn x=ZFt\/X.env.scope.names.lookup x=Z .local:=by first | exact .inl rfl | exact .inr rfl | assumption) :
  PS X (.Assign [.Name x pos'] e pos) (Zxg te (Zn6 i)):=by
 intro pins s σ H D I h;refine wpAny_Assign_Name (thn (he pins s σ H _ I h) λv s1 ⟨y,H1,I1,r1,q1⟩=>?_) hs;exact Zqt I1 hN hi hx r1 (λs2 I2=>⟨_,H1,I2,q1⟩) hf
end
section
variable{X:Cx}{pos:Pos}
def Zyt(c:TT)(tb:TS):TS:=λD σ H=>∃W:Nat->St->Hp->Prop,(∃m,W m σ H)/\∀m σ H,W m σ H ->
 c σ H λb H1=>if b=ZFt then ∃N:St->Hp->Prop,(∀σ' H',N σ' H'->∃m',m'<m/\W m' σ' H')/\tb { D with nx:=N,ct:=N,bk:=D.nx } σ H1 else D.nx σ H1
theorem Zvq{body:List Stmt}{tc:TT}{tb:TS}(hp:PassesOwn (model X.prog X.w) X.A X.env X.xe)(hc:PT X c tc)(hb:PSs X body tb):PS X (.While c body [] pos) (Zyt tc tb):=by
 intro pins s σ H D I h;obtain⟨W,⟨m0,w0⟩,turn⟩:=h;refine wpAny_While (codeAny_whileLoop (λn s'=>∃σ' H',Inv X pins σ' H' s'/\W n σ' H') ?_ m0 ⟨σ,H,I,w0⟩)
 rintro n s1 ⟨σ1,H1,I1,w1⟩
 refine ZCA hp (thn (hc pins s1 σ1 H1 _ I1 (turn n σ1 H1 w1)) λb s2 ⟨H2,I2,q2⟩=>?_);cases b with
 | true =>
  obtain⟨N,hN,q2⟩:=q2;rw[if_pos rfl];refine ZCA hp (thn (hb pins s2 σ1 H2 _ I2 q2) λf s3 q3=>?_);cases f with
  | next=>obtain⟨σ3,H3,I3,n3⟩:=q3;obtain⟨m',hm,w3⟩:=hN σ3 H3 n3;exact⟨m',hm,σ3,H3,I3,w3⟩
  | cont=>obtain⟨σ3,H3,I3,n3⟩:=q3;obtain⟨m',hm,w3⟩:=hN σ3 H3 n3;exact⟨m',hm,σ3,H3,I3,w3⟩
  | brk=>exact q3
  | ret v=>exact q3
 | false=>rw[if_neg ZBd];exact ZDV ⟨σ1,H2,I2,q2⟩
end
structure It where
 go:Nat->Hp->Prop
 yld:Nat->Hp->V->Hp->Prop
 stop:Nat->Hp->Prop
def Zgk(X:Cx)(pins:List (Addr × Obj))(H:Hp)(b:Addr):Prop :=
 H b=Z_/\b≠X.env.locals/\b ∉ X.fs/\(b∈X.ex\/X.s₀.heap.objs.size<=b)/\(∀x c,X.env.cells.lookup x=Z c->c≠b)/\∀p∈X.pn++pins,p.1≠b
theorem Inv.fpOk{H':Hp}{b:Addr}(I:Inv X pins σ H s)(hb:s.heap.objs.size<=b)(hn:H' b=Z_):Zgk X pins H' b:=by
 refine⟨hn,ZDm (ZAS I.lt hb),I.nofs hb,.inr (ZBm I.sz hb),λx c e z=>?_,λp hp z=>?_⟩
 ·obtain⟨v,q⟩:=I.cell x c e
  exact absurd (ZAS q.lt (by rw[z]; exact hb)) (ZCc _)
 ·exact absurd (ZAS (ZAG (I.pin p hp).1) (by rw[z]; exact hb)) (ZCc _)
structure Turn(P:Program)(w:World)(K:ZAo)(tg:Expr)(J:It)(fp:List Addr)(it:Addr)(tn:Nat->Heap->Prop):Prop where
 mem:it∈fp
 obj:∀i h,tn i h->∀b∈fp,∃o,h.get? b=Z o/\∀v,o.data≠.cell v
 keep:∀i h h',tn i h->(∀b∈fp,∀o,h.get? b=Z o->h'.get? b=Z o)->tn i h'
 item:∀(X:Cx),X.prog=P->X.w=w->X.K=K->X.calm=ZFt->∀(i:Nat) (pins:List (Addr × Obj)) (s:Shared) (σ:St) (H:Hp) (E:Value->Shared->Prop),Inv X pins σ H s->(∀b∈fp,Zgk X pins H b)->tn i s.heap->J.go i H ->
  wpAny (model P w) X.A (pyNext (.ref it)) (λr s1=>∃u,r=Z u /\
   wpAny (model P w) X.A (ZDW tg (.ref it) u) (λ_ s2=>∃x H',Inv X pins σ H' s2/\RelV x u/\J.yld i H x H'/\tn (i+1) s2.heap/\∀b∈fp,H' b=Z_) E s1) E s
 done:∀(X:Cx),X.prog=P->X.w=w->X.K=K->X.calm=ZFt->∀(i:Nat) (pins:List (Addr × Obj)) (s:Shared) (σ:St) (H:Hp) (E:Value->Shared->Prop),Inv X pins σ H s->(∀b∈fp,Zgk X pins H b)->tn i s.heap->J.stop i H ->
  wpAny (model P w) X.A (pyNext (.ref it)) (λr s1=>r=Z_/\Inv X pins σ H s1) E s
 self:∀(A:Around) (i:Nat) (s:Shared) (Q:Value->Shared->Prop) (E:Value->Shared->Prop),tn i s.heap->Q (.ref it) s->wpAny (model P w) A (pyIter (.ref it)) Q E s
abbrev TI:=St->Hp->(It->Hp->Prop)->Prop
def PIE(X:Cx)(pins:List (Addr × Obj))(σ:St)(tg:Expr)(R:It->Hp->Prop)(itv:Value)(s2:Shared):Prop :=
 ∃(it:Addr) (fp:List Addr) (tn:Nat->Heap->Prop) (J:It) (H':Hp),itv=.ref it/\Inv X pins σ H' s2/\Turn X.prog X.w X.K tg J fp it tn/\tn 0 s2.heap/\(∀b∈fp,Zgk X pins H' b)/\R J H'
def PI(X:Cx)(tg iter:Expr)(wi:TI):Prop :=
 ∀(pins:List (Addr × Obj)) (s:Shared) (σ:St) (H:Hp) (R:It->Hp->Prop),Inv X pins σ H s->wi σ H R ->
  wpAny (model X.prog X.w) X.A (eval iter X.env) (λv s1=>wpAny (model X.prog X.w) X.A (pyIter v) (PIE X pins σ tg R) X.xe s1) X.xe s
theorem Zn9{M:Model}{A:Around}{it:Addr}{o:Obj}{n:String}{vs:Array Value}{Q:Unit->Shared->Prop}(ho:s.heap.get? it=Z o)(hc:o.cls=.type n)(hd:o.data=.fields vs)
    (hn:["enumerate","zip","dict_itemiterator","dict_reverseitemiterator","odict_iterator","itertools.zip_longest","itertools.pairwise"].contains n=ZFu) (hQ:Q () s):wpAny M A (ZDW tg (.ref it) u) Q E s:=by
  unfold ZDW
  cases tg<;>first
    | exact ZAr hQ
    | (cases u<;>first
        | exact ZAr hQ
        | (refine ZAm (wpAny_load ho ?_)
           rw [hc, hd]
           show wpAny M A (if (["enumerate", "zip", "dict_itemiterator", "dict_reverseitemiterator", "odict_iterator", "itertools.zip_longest", "itertools.pairwise"].contains n && vs[0]? == Z (rawInt _)) = ZFt then _ else _) Q E s
           rw [if_neg (by intro h; rw [hn, Bool.false_and] at h; cases h)]
           exact ZAr hQ))
def Itl(K:ZAo)(a:Addr):It :=
 ⟨λi H=>∃xs x,SqL K H a xs/\xs[i]?=Z x,λi H x H'=>H'=H/\∀xs,SqL K H a xs->xs[i]?=Z x,λi H=>∃xs,SqL K H a xs/\xs.length<=i⟩
def Itt(K:ZAo)(a:Addr):It :=
 ⟨λi H=>∃xs x,SqT K H a xs/\xs[i]?=Z x,λi H x H'=>H'=H/\∀xs,SqT K H a xs->xs[i]?=Z x,λi H=>∃xs,SqT K H a xs/\xs.length<=i⟩
def Itr(lo:Int)(n:Nat):It:=⟨λi _=>i<n,λi H x H'=>H'=H/\x=.int (lo+i),λi _=>n<=i⟩
theorem ZtE(a it:Addr):Turn P w K tg (Itl K a) [it] it (λi h=>h.IsListIter it a i) where
 mem:=by simp
 obj:=λi h st b hb=>by
  have e:b=it:=by simpa using hb
  subst e;obtain⟨o,e,c,d⟩:=st;exact⟨o,e,λv z=>by rw[d]at z; cases z⟩
 keep:=λi h h' st k=>st.at λo e=>k it (by simp) o e
 item:=by intro X hP hw hK hc i pins s σ H E I hf st hg;subst hP hw hK;obtain⟨xs,x,hq,hx⟩:=hg;obtain⟨its,rv,p,hz⟩:=I.list hq;obtain⟨u,hu,ru⟩:=rv.get hx;obtain⟨f0,f1,f2,f3,f4,f5⟩:=hf it (by simp);refine wpAny_pyNext_list_item st p.isList (x:=u) (by simpa using hu) λh' st' sb=>?_;have I1:Inv X pins σ H { s with heap:=h' }:=I.turned (t':=s.toks) (λb o hb e=>(sb.2 b hb).trans e) f0 f1 f3 f4 f5;obtain⟨o,e,c,d⟩:=id st';exact⟨u,rfl,Zn9 (s:={ s with heap:=h' }) e c d (by decide) ⟨x,H,I1,ru,⟨rfl,λys hy=>by rw[I.list_inj hy hq]; exact hx⟩,st',λb hb=>(hf b hb).1⟩⟩
 done:=by intro X hP hw hK hc i pins s σ H E I hf st hg;subst hP hw hK;obtain⟨xs,hq,hx⟩:=hg;obtain⟨its,rv,p,hz⟩:=I.list hq;obtain⟨f0,f1,f2,f3,f4,f5⟩:=hf it (by simp);have hl:=rv.length;exact wpAny_pyNext_list_end (I.ok.hd hc) st p.isList (by simp; omega) λh' eb=>⟨rfl,I.turned (t':=s.toks) (λb o hb e=>eb b o hb e) f0 f1 f3 f4 f5⟩
 self:=λ_ _ _ _ _ st h=>wpAny_pyIter_listiter st h
theorem ZsB(a it:Addr):Turn P w K tg (Itt K a) [it] it (λi h=>h.IsTupleIter it a i) where
 mem:=by simp
 obj:=λi h st b hb=>by
  have e:b=it:=by simpa using hb
  subst e;obtain⟨o,e,c,d⟩:=st;exact⟨o,e,λv z=>by rw[d]at z; cases z⟩
 keep:=λi h h' st k=>st.at λo e=>k it (by simp) o e
 item:=by intro X hP hw hK hc i pins s σ H E I hf st hg;subst hP hw hK;obtain⟨xs,x,hq,hx⟩:=hg;obtain⟨its,rv,p,hz⟩:=I.tuple hq;obtain⟨u,hu,ru⟩:=rv.get hx;obtain⟨f0,f1,f2,f3,f4,f5⟩:=hf it (by simp);refine wpAny_pyNext_tuple_item st (show s.heap.IsTuple a its.toArray from p) (x:=u) (by simpa using hu) λh' st' sb=>?_;have I1:Inv X pins σ H { s with heap:=h' }:=I.turned (t':=s.toks) (λb o hb e=>(sb.2 b hb).trans e) f0 f1 f3 f4 f5;obtain⟨o,e,c,d⟩:=id st';exact⟨u,rfl,Zn9 (s:={ s with heap:=h' }) e c d (by decide) ⟨x,H,I1,ru,⟨rfl,λys hy=>by rw[I.tuple_inj hy hq]; exact hx⟩,st',λb hb=>(hf b hb).1⟩⟩
 done:=by intro X hP hw hK hc i pins s σ H E I hf st hg;subst hP hw hK;obtain⟨xs,hq,hx⟩:=hg;obtain⟨its,rv,p,hz⟩:=I.tuple hq;obtain⟨f0,f1,f2,f3,f4,f5⟩:=hf it (by simp);have hl:=rv.length;exact wpAny_pyNext_tuple_end (I.ok.hd hc) st (show s.heap.IsTuple a its.toArray from p) (by simp; omega) λh' eb=>⟨rfl,I.turned (t':=s.toks) (λb o hb e=>eb b o hb e) f0 f1 f3 f4 f5⟩
 self:=λ_ _ _ _ _ st h=>wpAny_pyIter_tupleiter st h
theorem Zse(it:Addr)(lo:Int)(n:Nat):Turn P w K tg (Itr lo n) [it] it (λi h=>IsRangeIter h it (lo+(i:Nat)*1) ((n:Int)-(i:Nat)) 1) where
 mem:=by simp
 obj:=λi h st b hb=>by
  have e:b=it:=by simpa using hb
  subst e;exact⟨_,st,λv z=>by have z':Data.fields _=Data.cell v:=z;cases z'⟩
 keep:=λi h h' st k=>k it (by simp) _ st
 item:=by intro X hP hw hK hc i pins s σ H E I hf st hg;subst hP hw hK;obtain⟨f0,f1,f2,f3,f4,f5⟩:=hf it (by simp);have W:=Walks.range (prog:=X.prog) (w:=X.w) (I.ok.hd hc) it lo 1 n;refine W.item i s _ _ hg st λv h' tk hv st' kk=>?_;obtain⟨t,rfl⟩:=hv;have I1:Inv X pins σ H { s with heap:=h',toks:=tk }:=I.turned (λb o hb e=>kk b o (by simpa using hb) e) f0 f1 f3 f4 f5;refine⟨_,rfl,Zn9 (s:={ s with heap:=h',toks:=tk }) (n:="range_iterator") st' rfl rfl (by decide) ⟨.int (lo+i),H,I1,⟨t,?_⟩,⟨rfl,rfl⟩,st',λb hb=>(hf b hb).1⟩⟩;rw[Int.mul_one]
 done:=by intro X hP hw hK hc i pins s σ H E I hf st hg;subst hP hw hK;obtain⟨f0,f1,f2,f3,f4,f5⟩:=hf it (by simp);exact wpAny_pyNext_range_end (I.ok.hd hc) st (by have:n<=i:=hg; omega) λh' eb=>⟨rfl,I.turned (t':=s.toks) (λb o hb e=>eb b o hb e) f0 f1 f3 f4 f5⟩
 self:=λ_ _ _ _ _ st h=>wpAny_pyIter_rangeiter st h
end L2
namespace L2
open PySem PySem.Spec PyProof.Rows
variable{h:Heap}{H:Hp}{pins:List (Addr × Obj)}{fp:List Addr}{pos:Pos}{s:Shared}{σ:St}
section
variable{X:Cx}{tg:Expr}
theorem Zvz{R:It->Hp->Prop}{E:Value->Shared->Prop}{lo hi:Int}{t u v:Tok}{tk:Nat}(I:Inv X pins σ H s)(h1:-(2 ^ 62)<=lo)(h2:lo<2 ^ 62)(h3:-(2 ^ 62)<=hi)(h4:hi<2 ^ 62)
  (q:R (Itr lo (hi-lo).toNat) H):wpAny (model X.prog X.w) X.A (pyIter (.ref s.heap.objs.size)) (PIE X pins σ tg R) E { s with heap:=s.heap.push { cls:=.type "range",data:=.fields #[.int lo t,.int hi u,.int 1 v] },toks:=tk }:=by
 refine wpAny_pyIter_range (IsRange.new ..) (small_one h1 h2 h3 h4) ?_;have I1:Inv X pins σ H { s with heap:=s.heap.push { cls:=.type "range",data:=.fields #[.int lo t,.int hi u,.int 1 v] },toks:=tk }:=I.kept λb o e=>ZAs _ e;refine⟨(s.heap.push { cls:=.type "range",data:=.fields #[.int lo t,.int hi u,.int 1 v] }).objs.size,[(s.heap.push { cls:=.type "range",data:=.fields #[.int lo t,.int hi u,.int 1 v] }).objs.size],_,_,H,rfl,
  I1.kept (t':=tk) λb o e=>ZAs _ e,Zse _ lo (hi-lo).toNat,?_,λb hb=>?_,q⟩
 ·have e1:lo+((0:Nat):Int)*1=lo:=by simp
  have e2:(((hi-lo).toNat:Nat):Int)-((0:Nat):Int)=ZCT lo hi 1:=by rw[rangeSize_one]; split<;>omega
  show IsRangeIter _ _ (lo+((0:Nat):Int)*1) ((((hi-lo).toNat:Nat):Int)-((0:Nat):Int)) 1;rw[e1,e2];exact ZAH _ rfl
 ·have e:b=(s.heap.push { cls:=.type "range",data:=.fields #[.int lo t,.int hi u,.int 1 v] }).objs.size:=by simpa using hb
  subst e;exact I1.fpOk (ZAz _) (I1.hok.fresh (ZAz _))
def ZaU(ta:TA):TI:=λσ H R=>ta σ H λvs H1=>∃j:Int,vs=[.int j]/\-(2 ^ 62)<=j/\j<2 ^ 62/\R (Itr 0 j.toNat) H1
theorem ZtS{a:Expr}{ta:TA}{p:Pos}(hg:Gl X "range")(hm:X.mg "range" = Z_)(ha:PA X [a] ta)(hs:ZAD [a] X.env=[(ZFu,eval a X.env)]:=by rfl):PI X tg (.Call (.Name "range" p) [a] [] pos) (ZaU ta):=by
 intro pins s σ H R I h;refine Call_ (Zig I hg hm boot_range (ZC9 (thn (ha pos pins s σ H _ I h) λus s1 ⟨vs,H1,I1,r1,q1⟩=>?_) hs rfl));obtain⟨j,e,q1,q2,q⟩:=q1;subst e;cases r1 with
 | cons r rr=>cases rr;obtain⟨t,rfl⟩:=r;exact call_range_1 (Zvz I1 (by omega) (by omega) q1 q2 (by simpa using q))
def ZzQ(wi:TI)(g:TG)(tb:TS):TS:=λD σ H=>wi σ H λJ H1=>∃W:Nat->Nat->St->Hp->Prop,(∃m,W 0 m σ H1)/\∀i m σ H,W i m σ H ->
 (J.stop i H/\D.nx σ H)\/(J.go i H/\∃N:St->Hp->Prop,(∀σ' H',N σ' H'->∃m',m'<m/\W (i+1) m' σ' H')/\∀x H',J.yld i H x H'->g x σ H' λσ2 H2=>tb { D with nx:=N,ct:=N,bk:=D.nx } σ2 H2)
def Zkj(fp:List Addr)(h:Heap):List (Addr × Obj):=fp.filterMap λb=>(h.get? b).map λo=>(b,o)
theorem Zgr{b:Addr}{o:Obj}(hb:b∈fp)(e:h.get? b=Z o):(b,o)∈Zkj fp h:=ZBs.mpr ⟨b,hb,by rw[e]; rfl⟩
theorem Zua{p:Addr × Obj}(hp:p∈Zkj fp h):p.1∈fp/\h.get? p.1=Z p.2:=by
 obtain⟨b,hb,e⟩:=ZBs.mp hp;cases q:h.get? b with
 | none=>rw[q]at e; cases e
 | some o=>rw[q]at e;have e':(b,o)=p:=ZA9 e;subst e';exact⟨hb,q⟩
theorem Inv.pinned(I:Inv X pins σ H s)(hf:∀b∈fp,Zgk X pins H b)(ho:∀b∈fp,∃o,s.heap.get? b=Z o/\∀v,o.data≠.cell v):Inv X (pins++Zkj fp s.heap) σ H s :=
 I.pins_of λp hp=>(ZAV.mp hp).elim (λz=>I.pin p (ZAL _ z)) λz=>by obtain⟨hb,e⟩:=Zua z;obtain⟨f0,f1,f2,_⟩:=hf p.1 hb;obtain⟨o,e',d⟩:=ho p.1 hb;rw[e]at e'; cases e';exact⟨e,f0,f1,f2,d⟩
theorem Inv.unpinned{pl:List (Addr × Obj)}(I:Inv X (pins++pl) σ H s):Inv X pins σ H s:=I.pins_of λp hp=>I.pin p (ZAL _ (ZA3 _ hp))
theorem ZtA{iter:Expr}{body:List Stmt}{wi:TI}{g:TG}{tb:TS}(hp:PassesOwn (model X.prog X.w) X.A X.env X.xe)(hc:X.calm=ZFt)(hi:PI X tg iter wi)(hg:PG X tg g)(hb:PSs X body tb)
  (hs:∀x,ZBN iter X.env x=pure x:=by intro _; rfl):PS X (.For tg iter body [] pos) (ZzQ wi g tb):=by
 intro pins s σ H D I h;refine wpAny_For (thn (hi pins s σ H _ I h) λv s1 h1=>thn h1 λitv s2 h2=>?_) hs;obtain⟨it,fp,tn,J,H2,e,I2,T,st2,f2,W,⟨m0,w0⟩,turn⟩:=h2;subst e;have stat:∀{H':Hp},(∀b∈fp,H' b=Z_)->∀b∈fp,Zgk X pins H' b:=λhn b hb=>⟨hn b hb,(f2 b hb).2⟩;refine codeAny_forLoop_any (λn s'=>∃i σ' H',Inv X pins σ' H' s'/\tn i s'.heap/\(∀b∈fp,H' b=Z_)/\W i n σ' H') ?_ m0 ⟨0,σ,H2,I2,st2,λb hb=>(f2 b hb).1,w0⟩
 rintro n s3 ⟨i,σ3,H3,I3,st3,fr3,w3⟩
 rcases turn i n σ3 H3 w3 with⟨stop,qn⟩ | ⟨go,N,hN,step⟩
 ·refine ZCA hp (thn (T.done X rfl rfl rfl hc i pins s3 σ3 H3 X.xe I3 (stat fr3) st3 stop) λr s4 ⟨hr,I4⟩=>?_)
  subst hr;exact ZDV ⟨σ3,H3,I4,qn⟩
 ·refine ZCA hp (thn (T.item X rfl rfl rfl hc i pins s3 σ3 H3 X.xe I3 (stat fr3) st3 go) λr s4 ⟨u,hr,h4⟩=>?_)
  subst hr;refine ZCA hp (thn h4 λ_ s5 ⟨x,H5,I5,r5,y5,st5,fr5⟩=>?_);have I5':=I5.pinned (stat fr5) (T.obj _ _ st5);refine ZCA hp (thn (hg _ s5 σ3 H5 x u _ I5' r5 (step x H5 y5)) λ_ s6 ⟨σ6,H6,I6,q6⟩=>?_);refine ZCA hp (thn (hb _ s6 σ6 H6 _ I6 q6) λf s7 q7=>?_);have again:∀{σ7:St} {H7:Hp},Inv X (pins++Zkj fp s5.heap) σ7 H7 s7->N σ7 H7->∃m,m<n/\∃i σ' H',Inv X pins σ' H' s7/\tn i s7.heap/\(∀b∈fp,H' b=Z_)/\W i m σ' H':=λ{σ7 H7} I7 n7=>by obtain⟨m',hm,w7⟩:=hN σ7 H7 n7;refine⟨m',hm,i+1,σ7,H7,I7.unpinned,T.keep _ _ _ st5 λb hb o e=>(I7.pin (b,o) (ZAL _ (ZAL _ (Zgr hb e)))).1,λb hb=>?_,w7⟩;obtain⟨o,e,d⟩:=T.obj _ _ st5 b hb;exact(I7.pin (b,o) (ZAL _ (ZAL _ (Zgr hb e)))).2.1
  cases f with
  | next=>obtain⟨σ7,H7,I7,n7⟩:=q7; exact again I7 n7
  | cont=>obtain⟨σ7,H7,I7,n7⟩:=q7; exact again I7 n7
  | brk=>obtain⟨σ7,H7,I7,q7⟩:=q7; exact⟨σ7,H7,I7.unpinned,q7⟩
  | ret v=>obtain⟨x7,σ7,H7,I7,r7,q7⟩:=q7; exact⟨x7,σ7,H7,I7.unpinned,r7,q7⟩
end
end L2
namespace L2
open PySem PySem.Spec PyProof.Rows
variable{H:Hp}{g:Int->Int->Int}{pins:List (Addr × Obj)}{us:List Value}{s:Shared}{σ:St}{x:V}
abbrev R2:=V->V->Hp->VK->Prop
def OpR(X:Cx)(f:Value->Value->Sem Value)(r:R2):Prop :=
 ∀(pins:List (Addr × Obj)) (s:Shared) (σ:St) (H:Hp) (x y:V) (v u:Value) (Q:VK),Inv X pins σ H s->RelV x v->RelV y u->r x y H Q ->
  wpAny (model X.prog X.w) X.A (f v u) (EP X pins σ Q) X.xe s
def Za8(X:Cx)(f:Value)(r:List V->Hp->VK->Prop):Prop :=
 ∀(pins:List (Addr × Obj)) (s:Shared) (σ:St) (H:Hp) (xs:List V) (us:List Value) (Q:VK),Inv X pins σ H s->Vals xs us->r xs H Q ->
  wpAny (model X.prog X.w) X.A (call f us) (EP X pins σ Q) X.xe s
def tOp(r:R2)(ta tb:TE):TE:=λσ H Q=>ta σ H λx H1=>tb σ H1 λy H2=>r x y H2 Q
def rI(C:Int->Int->Prop)(g:Int->Int->V):R2:=λx y H Q=>∃i j,x=.int i/\y=.int j/\C i j/\Q (g i j) H
def rI0(g:Int->Int->V):R2:=λx y H Q=>∃i j,x=.int i/\y=.int j/\Q (g i j) H
section
variable{X:Cx}{a b c:Expr}{ta tb tc:TE}{pos:Pos}
theorem ZuS(ha:PE X a ta)(hb:PE X b tb){R:V->V->Hp->Prop}(I:Inv X pins σ H s)
  (h:ta σ H λx H1=>tb σ H1 λy H2=>R x y H2) {Q:Value->Shared->Prop} {f:Value->Value->Sem Value}
  (hf:∀v u s2 x y H2,Inv X pins σ H2 s2->RelV x v->RelV y u->R x y H2->wpAny (model X.prog X.w) X.A (f v u) Q X.xe s2) :
  wpAny (model X.prog X.w) X.A (eval a X.env) (λv s₁=>wpAny (model X.prog X.w) X.A (eval b X.env) (λu s₂=>wpAny (model X.prog X.w) X.A (f v u) Q X.xe s₂) X.xe s₁) X.xe s:=by
 refine thn (ha pins s σ H _ I h) λv s1 ⟨x,H1,I1,r1,q1⟩=>?_;refine thn (hb pins s1 σ H1 _ I1 q1) λu s2 ⟨y,H2,I2,r2,q2⟩=>?_;exact hf v u s2 x y H2 I2 r1 r2 q2
theorem Zoa{op:Operator}{r:R2}(ho:OpR X (ZDn op) r)(ha:PE X a ta)(hb:PE X b tb):PE X (.BinOp a op b pos) (tOp r ta tb):=by intro pins s σ H Q I h;exact wpAny_BinOp (ZuS ha hb I h λv u s2 x y H2 I2 rx ry q=>ho pins s2 σ H2 x y v u Q I2 rx ry q)
theorem opI{f:Value->Value->Sem Value}{C:Int->Int->Prop}
  (rule:∀(i j:Int) (t u:Tok) (s:Shared) (Q:Value->Shared->Prop) (E:Value->Shared->Prop),C i j->Q (.int (g i j) s.toks) { s with toks:=s.toks+1 }->wpAny (model X.prog X.w) X.A (f (.int i t) (.int j u)) Q E s) :
  OpR X f (rI C λi j=>.int (g i j)):=by
 intro pins s σ H x y v u Q I rx ry h;obtain⟨i,j,rfl,rfl,hc,q⟩:=h;obtain⟨t,rfl⟩:=rx;obtain⟨t',rfl⟩:=ry;exact rule i j t t' s _ _ hc ⟨.int (g i j),H,I.tok _,⟨_,rfl⟩,q⟩
theorem Zxl{f:Value->Value->Sem Value}
  (rule:∀(i j:Int) (t u:Tok) (s:Shared) (Q:Value->Shared->Prop) (E:Value->Shared->Prop),Q (.int (g i j) s.toks) { s with toks:=s.toks+1 }->wpAny (model X.prog X.w) X.A (f (.int i t) (.int j u)) Q E s) :
  OpR X f (rI0 λi j=>.int (g i j)):=by
 intro pins s σ H x y v u Q I rx ry h;obtain⟨i,j,rfl,rfl,q⟩:=h;obtain⟨t,rfl⟩:=rx;obtain⟨t',rfl⟩:=ry;exact rule i j t t' s _ _ ⟨.int (g i j),H,I.tok _,⟨_,rfl⟩,q⟩
theorem Zsl{f:Value->Value->Sem Value}{g:Int->Int->Bool}
  (rule:∀(i j:Int) (t u:Tok) (s:Shared) (Q:Value->Shared->Prop) (E:Value->Shared->Prop),Q (.bool (g i j)) s->wpAny (model X.prog X.w) X.A (f (.int i t) (.int j u)) Q E s) :
  OpR X f (rI0 λi j=>.bl (g i j)):=by
 intro pins s σ H x y v u Q I rx ry h;obtain⟨i,j,rfl,rfl,q⟩:=h;obtain⟨t,rfl⟩:=rx;obtain⟨t',rfl⟩:=ry;exact rule i j t t' s _ _ ⟨.bl (g i j),H,I,rfl,q⟩
def Zsd(i j:Int):Prop:=(-(2 ^ 64)<i/\i<2 ^ 64)\/(-(2 ^ 64)<j/\j<2 ^ 64)
theorem Zsd.ok{i j:Int}(h:Zsd i j):IntMulOk i j:=by
 rcases h with⟨h1,h2⟩ | ⟨h1,h2⟩
 ·exact .of_left (intBits_le_64 h1 h2)
 ·exact .of_right (intBits_le_64 h1 h2)
theorem Zx0:OpR X (ZDn .Add) (rI0 λi j=>.int (i+j)):=Zxl λ_ _ _ _ _ _ _ q=>add_int q
theorem ZxZ:OpR X (ZDn .Sub) (rI0 λi j=>.int (i-j)):=Zxl λ_ _ _ _ _ _ _ q=>sub_int q
theorem Zxe:OpR X (ZDn .Mult) (rI Zsd λi j=>.int (i*j)):=opI λ_ _ _ _ _ _ _ hc q=>mul_int q hc.ok
theorem ZxF:OpR X (ZDn .Mod) (rI (λ_ j=>0<j) λi j=>.int (i % j)):=opI λi j _ _ _ _ _ hc q=>by have h1:(0:Int)<j:=hc;exact mod_int' (by omega) (by rw[Int.fmod_eq_emod_of_nonneg i (by omega)]; exact q)
end
section
variable{X:Cx}{a b c:Expr}{ta tb tc:TE}{pos:Pos}
theorem Ztw{Q:VK}{k k':Bool}(I:Inv X pins σ H s)(q:Q (.bl k) H)(e:k=k'):EP X pins σ Q (.bool k') s:=by subst e;exact⟨.bl k,H,I,rfl,q⟩
theorem ZyR:OpR X (ZBw .Lt) (rI0 λi j=>.bl (decide (i<j))):=Zsl λ_ _ _ _ _ _ _ q=>lt_int q
theorem ZyJ:OpR X (ZBw .LtE) (rI0 λi j=>.bl (decide (i<=j))):=Zsl λ_ _ _ _ _ _ _ q=>le_int q
theorem Zze:OpR X (ZBw .Gt) (rI0 λi j=>.bl (decide (j<i))):=Zsl λ_ _ _ _ _ _ _ q=>gt_int q
theorem Zy9:OpR X (ZBw .GtE) (rI0 λi j=>.bl (decide (j<=i))):=Zsl λ_ _ _ _ _ _ _ q=>ge_int q
theorem ZyE:OpR X (ZBw .Is) (λx y H Q=>y=.non/\Q (.bl (decide (x=.non))) H):=by
 intro pins s σ H x y v u Q I rx ry h;obtain⟨rfl,q⟩:=h;cases ry;refine is_none_gen (Ztw I q ?_);cases x<;>first
  | (cases rx; rfl)
  | (obtain⟨t,rfl⟩:=rx; rfl)
theorem ZwP:OpR X (ZBw .IsNot) (λx y H Q=>y=.non/\Q (.bl (!decide (x=.non))) H):=by
 intro pins s σ H x y v u Q I rx ry h;obtain⟨rfl,q⟩:=h;cases ry;refine isnot_none_gen (Ztw I q ?_);cases x<;>first
  | (cases rx; rfl)
  | (obtain⟨t,rfl⟩:=rx; rfl)
theorem ZrC{op:CmpOp}{r:R2}(ho:OpR X (ZBw op) r)(ha:PE X a ta)(hb:PE X b tb)(hm:ZBF op b=ZFu):PE X (.Compare a [op] [b] pos) (tOp r ta tb):=by intro pins s σ H Q I h;exact wpAny_Compare1 (ZuS ha hb I h λv u s2 x y H2 I2 rx ry q=>ho pins s2 σ H2 x y v u Q I2 rx ry q) hm
def Zy0(t:TE):TT:=λσ H Q=>t σ H λx H'=>∃k,x=.bl k/\Q k H'
theorem ZmT{op:CmpOp}{r:R2}(ho:OpR X (ZBw op) r)(ha:PE X a ta)(hb:PE X b tb)(hm:ZBF op b=ZFu):PT X (.Compare a [op] [b] pos) (Zy0 (tOp r ta tb)):=by intro pins s σ H Q I h;refine wpAny_isTrue_Compare1 (thn (ha pins s σ H _ I h) λv s1 ⟨x,H1,I1,r1,q1⟩=>thn (hb pins s1 σ H1 _ I1 q1) λu s2 ⟨y,H2,I2,r2,q2⟩=>thn (ho pins s2 σ H2 x y v u _ I2 r1 r2 q2) λc s3 ⟨z,H3,I3,r3,k,e,q3⟩=>?_) hm;subst e;cases r3;exact ZB5 ⟨H3,I3,q3⟩
def Zyf(r r':R2)(ta tb tc:TE):TE:=λσ H Q=>ta σ H λx H1=>tb σ H1 λy H2=>r x y H2 λz H3=>∃k,z=.bl k /\
 (if k=ZFt then tc σ H3 λw' H4=>r' y w' H4 Q else Q (.bl ZFu) H3)
theorem Zpo{op op':CmpOp}{r r':R2}(ho:OpR X (ZBw op) r)(ho':OpR X (ZBw op') r')(ha:PE X a ta)(hb:PE X b tb)(hc:PE X c tc)
  (hm:lastMarks [op,op'] [b,c]=ZFu:=by with_unfolding_all rfl):PE X (.Compare a [op,op'] [b,c] pos) (Zyf r r' ta tb tc):=by
 intro pins s σ H Q I h;refine Compare_chain (thn (ha pins s σ H _ I h) λv s1 ⟨x,H1,I1,r1,q1⟩=>chain_link (thn (hb pins s1 σ H1 _ I1 q1) λu s2 ⟨y,H2,I2,r2,q2⟩=>thn (ho pins s2 σ H2 x y v u _ I2 r1 r2 q2) λd s3 ⟨z,H3,I3,r3,k,e,q3⟩=>?_)) hm;subst e;cases r3;refine ZB5 ?_;cases k with
 | false=>exact ite_ff ⟨.bl ZFu,H3,I3,rfl,q3⟩
 | true=>exact ite_tt (chain_last (thn (hc pins s3 σ H3 _ I3 q3) λw' s4 ⟨z',H4,I4,r4,q4⟩=>ho' pins s4 σ H4 y z' u w' Q I4 r2 r4 q4))
theorem ZjS:(sizeLine:Nat)<2 ^ 63:=by rw[ZBR]; decide
theorem vals1(r:Vals [x] us):∃u,us=[u]/\RelV x u:=by
 cases r with
 | cons r1 r2=>cases r2; exact⟨_,rfl,r1⟩
theorem vals2{y:V}(r:Vals [x,y] us):∃u w',us=[u,w']/\RelV x u/\RelV y w':=by
 cases r with
 | cons r1 r2 =>
  cases r2 with
  | cons r3 r4=>cases r4; exact⟨_,_,rfl,r1,r3⟩
theorem ZtN(hc:X.calm=ZFt):Za8 X (.builtin "max") (λxs H Q=>∃i j,xs=[.int i,.int j]/\Q (.int (if j > i then j else i)) H):=by
 intro pins s σ H xs us Q I r h;obtain⟨i,j,rfl,q⟩:=h;obtain⟨u,w',rfl,⟨t,rfl⟩,⟨t',rfl⟩⟩:=vals2 r;refine max_two_ints (I.ok.hd hc) λh' tk k=>⟨_,H,I.kept k,?_,q⟩
 by_cases hj:j > i
 ·rw[if_pos hj,if_pos hj]; exact⟨_,rfl⟩
 ·rw[if_neg hj,if_neg hj]; exact⟨_,rfl⟩
theorem ZtX(hc:X.calm=ZFt):Za8 X (.builtin "min") (λxs H Q=>∃i j,xs=[.int i,.int j]/\Q (.int (if j<i then j else i)) H):=by
 intro pins s σ H xs us Q I r h;obtain⟨i,j,rfl,q⟩:=h;obtain⟨u,w',rfl,⟨t,rfl⟩,⟨t',rfl⟩⟩:=vals2 r;refine min_two_ints (I.ok.hd hc) λh' tk k=>⟨_,H,I.kept k,?_,q⟩
 by_cases hj:j<i
 ·rw[if_pos hj,if_pos hj]; exact⟨_,rfl⟩
 ·rw[if_neg hj,if_neg hj]; exact⟨_,rfl⟩
theorem Znr:Za8 X (.type "int") (λxs H Q=>(∃i,xs=[.int i]/\Q (.int i) H)\/∃k,xs=[.bl k]/\Q (.int (if k then 1 else 0)) H):=by
 intro pins s σ H xs us Q I r h;rcases h with⟨i,rfl,q⟩ | ⟨k,rfl,q⟩
 ·obtain⟨u,rfl,t,rfl⟩:=vals1 r
  exact call_int_int ⟨.int i,H,I,⟨_,rfl⟩,q⟩
 ·obtain⟨u,rfl,r1⟩:=vals1 r
  cases r1;exact call_int_bool ⟨.int (if k then 1 else 0),H,I.tok _,⟨_,rfl⟩,q⟩
end
end L2
namespace L2
open PySem PySem.Spec PyProof.Rows
theorem Zgj.some_of{v:V}{o:Option Value}(r:Zgj (Z v) o):∃u,o=Z u/\RelV v u:=by
 cases o with
 | none=>exact(show False from r).elim
 | some u=>exact⟨u,rfl,r⟩
end L2
namespace L2
open PySem PySem.Spec PyProof.Rows
variable{f:Addr}{base:Heap}{H:Hp}{ps:List Str}{vs:List V}{us:List Value}{P:Program}{K:ZAo}{scope:Scope}{s:Shared}{qual:Str}{mg:Str->Option Value}{w:World}
structure Zap(k:Nat)(A:Around):Prop where
 hd:A.handled=Z_
 dp:A.depth+3*k+5<recursionLimit
 un:A.units+16*k+200<cLine
theorem Zap.mono{j k:Nat}{A:Around}(r:Zap k A)(h:j<=k):Zap j A:=⟨r.hd,by have:=r.dp; omega,by have:=r.un; omega⟩
theorem Zap.deeper{k:Nat}{A:Around}(r:Zap (k+1) A)(env:Env):Zap k (A.deeper env) :=
 ⟨r.hd,by have:=r.dp; show A.depth+1+3*k+5<_; omega,by have:=r.un; show A.units+3+16*k+200<_; omega⟩
theorem Zap.depth{k:Nat}{A:Around}(r:Zap k A):A.depth<recursionLimit:=by have:=r.dp; omega
theorem Zap.units{k:Nat}{A:Around}(r:Zap k A):A.units+64<cLine:=by have:=r.un; omega
def Zz3:TA:=λ_ H Q=>Q [] H
def Zzd(ta:TE)(tr:TA):TA:=λσ H Q=>ta σ H λx H1=>tr σ H1 λxs H2=>Q (x::xs) H2
section
variable{X:Cx}{e:Expr}{es:List Expr}{te:TE}{t:TA}{pos:Pos}
theorem ZbT:PA X [] Zz3:=λ_ _ _ _ H Q I h=>ZEq ⟨[],H,I,.nil,h⟩
theorem ZaC(ha:PE X e te)(hr:PA X es t)(hs:ZAD (e::es) X.env=(ZFu,eval e X.env)::ZAD es X.env:=by rfl):PA X (e::es) (Zzd te t):=by intro pos pins s σ H Q I h;rw[hs];show wpAny _ _ (spliced ((ZFu,eval e X.env)::backTo pos (ZAD es X.env))) _ _ s;refine ZDo (thn (ha pins s σ H _ I h) λu s1 ⟨x,H1,I1,r1,q1⟩=>?_);exact thn (hr pos pins s1 σ H1 _ I1 q1) λus s2 ⟨xs,H2,I2,r2,q2⟩=>⟨x::xs,H2,I2,.cons r1 r2,q2⟩
def ZzZ(t:TA):TE:=λσ H Q=>t σ H λxs H1=>xs.length<=sizeLine/\∀p,H1 p=Z_->Q (.ref p) (upd H1 p (.tup xs))
def ZzX(t:TA):TE:=λσ H Q=>t σ H λxs H1=>xs.length<=sizeLine/\∀p,H1 p=Z_->Q (.ref p) (upd H1 p (.lst xs))
theorem ZxE{x1}(h:PA X es t):PE X (.Tuple es x1 pos) (ZzZ t):=by intro pins s σ H Q I hq;refine wpAny_Tuple_spliced (thn (h pos pins s σ H _ I hq) λus s1 ⟨xs,H1,I1,r,z,q⟩=>⟨by rw[<-r.length]; exact z,?_⟩);have hf:H1 s1.heap.objs.size=Z_:=I1.hok.fresh (ZAz _);refine⟨.ref s1.heap.objs.size,upd H1 s1.heap.objs.size (.tup xs),I1.laid (t':=s1.toks) (λb u e=>ZAs _ e) (ZAz _) ?_,rfl,q _ hf⟩;exact⟨z,us,r,⟨_,ZAH _ rfl,rfl,_,rfl⟩⟩
theorem ZxY(h:PA X es t):PE X (.List es pos) (ZzX t):=by intro pins s σ H Q I hq;refine wpAny_List_spliced (thn (h pos pins s σ H _ I hq) λus s1 ⟨xs,H1,I1,r,z,q⟩=>⟨by rw[<-r.length]; exact z,?_⟩);have hf:H1 s1.heap.objs.size=Z_:=I1.hok.fresh (ZAz _);refine⟨.ref s1.heap.objs.size,upd H1 s1.heap.objs.size (.lst xs),I1.laid (t':=s1.toks) (λb u e=>ZAs _ e) (ZAz _) ?_,rfl,q _ hf⟩;exact⟨z,us,0,r,ZAH _ rfl⟩
end
abbrev Sp:=List V->Hp->VK->XK->Prop
abbrev CXT:=List Env->Hp->Shared->XK->Value->Shared->Prop
structure ZfB(P:Program)(w:World)(K:ZAo)(mg:Str->Option Value)(base:Heap)(A:Around)(outer:List Env)(s:Shared)(H:Hp):Prop where
 frames:A.frames=Z outer
 mod:Mod K mg base
 bs:∀b o,base.get? b=Z o->s.heap.get? b=Z o/\H b=Z_
 bsz:base.objs.size<=s.heap.objs.size
 funs:s.heap.FunFrames base outer
 frf:∀b∈frs outer,H b=Z_
 hok:HOk P w H s.heap
 bare:AllBare s.gens
def CE(outer:List Env)(P:Program)(w:World)(H:Hp)(s:Shared)(Q:VK)(u:Value)(s':Shared):Prop :=
 ∃v H',s'.os=s.os/\AllBare s'.gens/\Un (frs outer) [] H H' s.heap s'.heap/\HOk P w H' s'.heap/\RelV v u/\Q v H'
def CR(CX:CXT)(outer:List Env)(P:Program)(w:World)(H:Hp)(s:Shared)(Q:VK)(E:XK)(r:Result)(s':Shared):Prop :=
 match r with
 | .ok (.ret u)=>CE outer P w H s Q u s'
 | .ok _=>False
 | .error e=>CX outer H s E e s'
structure ZdM(P:Program)(w:World)(K:ZAo)(mg:Str->Option Value)(base:Heap)(CX:CXT)(k:Nat)(f:Addr)(fd:FuncData)(ps:List Str)(sp:Sp):Prop where
 len:∀vs H Q E,sp vs H Q E->vs.length=ps.length
 run:∀(A:Around) (outer:List Env) (s:Shared) (H:Hp) (args:Args) (us:List Value) (vs:List V) (Q:VK) (E:XK),Zap k A->ZfB P w K mg base A outer s H->BindsTo s fd args (ps.zip us)->Vals vs us->sp vs H Q E ->
  codeAny (model P w) A (.call (.ref f) args) (CR CX outer P w H s Q E) s
theorem ZdM.mono{P:Program}{w:World}{K:ZAo}{mg:Str->Option Value}{base:Heap}{CX:CXT}{j k:Nat}{f:Addr}{fd:FuncData}{ps:List Str}{sp:Sp}(F:ZdM P w K mg base CX j f fd ps sp)(h:j<=k) :
  ZdM P w K mg base CX k f fd ps sp:=⟨F.len,λA outer s H args us vs Q E hr=>F.run A outer s H args us vs Q E (hr.mono h)⟩
section
variable{X:Cx}{pins:List (Addr × Obj)}{σ:St}{H:Hp}{s s':Shared}
theorem Inv.env0(I:Inv X pins σ H s):ZfB X.prog X.w X.K X.mg X.base X.A X.stack s H :=
 ⟨I.ok.frames,I.ok.mod,I.bs,ZBm I.ok.bsz I.sz,I.stack,I.stkFree,I.hok,I.bare⟩
theorem Inv.after{Q:VK}{u:Value}(I:Inv X pins σ H s)(h:CE X.stack X.prog X.w H s Q u s'):EP X pins σ Q u s':=by obtain⟨v,H',os,bare,un,hok,r,q⟩:=h;obtain⟨hh,g,d,t,os'⟩:=s';obtain rfl:os'=s.os:=os;exact⟨v,H',I.call (h':=hh) (g':=g) (d':=d) (t':=t) (ch:=[]) un hok bare (λb z=>absurd z (by simp)),r,q⟩
end
noncomputable def Zy5 (sp:Sp) (dvs:List V) (E:XK) (t:TA):TE:=λσ H Q=>t σ H λvs H1=>sp (vs++dvs) H1 Q E
def Binds(K:ZAo)(fd:FuncData)(ps:List Str)(ds:List Value):Prop :=
 ∀(s:Shared) (us:List Value),K.In s.heap->(us++ds).length=ps.length->BindsTo s fd ⟨us,[]⟩ (ps.zip (us++ds))
theorem Binds.all{fd:FuncData}(h:∀us:List Value,us.length=ps.length->bindArgs fd ⟨us,[]⟩=pure (ps.zip us)):Binds K fd ps []:=λs us _ hl=>by rw[ZBa]at hl ⊢;exact .of_eq (h us hl)
def Passes(CX:CXT)(X:Cx)(E:XK):Prop:=∀(pins:List (Addr × Obj)) (σ:St) (H:Hp) (s:Shared) (e:Value) (s':Shared),Inv X pins σ H s->CX X.stack H s E e s'->X.xe e s'
section
variable{X:Cx}{CX:CXT}{k:Nat}{f C:Addr}{fd:FuncData}{ps:List Str}{sp:Sp}{dvs:List V}{ds:List Value}{E:XK}{x m:Str}{p pos apos:Pos}{e o:Expr}{es:List Expr}{ta:TE}{t:TA}
theorem ZxL{pins:List (Addr × Obj)}{σ:St}{Q:VK}(F:ZdM X.prog X.w X.K X.mg X.base CX k f fd ps sp)(hr:Zap k X.A)(hb:Binds X.K fd ps ds)(hd:Vals dvs ds)(hx:Passes CX X E)
  (I:Inv X pins σ H s) (r:Vals vs us) (h:sp (vs++dvs) H Q E):wpAny (model X.prog X.w) X.A (call (.ref f) us) (EP X pins σ Q) X.xe s:=by
 have r2:Vals (vs++dvs) (us++ds):=r.append hd;have hl:(us++ds).length=ps.length:=by rw[<-r2.length]; exact F.len _ _ _ _ h
 refine ZEu (ZCk (F.run X.A X.stack s H ⟨us,[]⟩ (us++ds) (vs++dvs) Q E hr I.env0 (hb s us I.kIn hl) r2 h) λr s' hq=>?_);cases r with
 | error e=>exact hx pins σ H s e s' I hq
 | ok fl =>
  cases fl with
  | ret u=>exact I.after hq
  | next=>exact ZBk hq
  | brk=>exact ZBk hq
  | cont=>exact ZBk hq
theorem Zmw(F:ZdM X.prog X.w X.K X.mg X.base CX k f fd ps sp)(hr:Zap k X.A)(hg:Gl X x)(hm:X.mg x=Z (.ref f))(hk:ZBS X.K (.ref f)=ZFt)(hb:Binds X.K fd ps ds)(hd:Vals dvs ds)(hx:Passes CX X E)
  (ha:PA X (e::es) t) (hdb:(x==("__debug__":Str))=ZFu:=by decide) (he:ZAD (e::es) X.env=(ZFu,eval e X.env)::ZAD es X.env:=by rfl) (hpl:(backTo pos (ZAD es X.env)).any (·.1)=ZFu:=by rfl) :
  PE X (.Call (.Name x p) (e::es) [] pos) (Zy5 sp dvs E t):=by
 intro pins s σ H Q I h;refine ZCh (ZmC I hg hm ?_ hdb);refine ZFo (h₀:=X.base) I.ok.mod.kin hk (thn (ha pos pins s σ H _ I h) λus s1 ⟨vs,H1,I1,r,q⟩=>⟨I1.kIn,?_⟩) he hpl;exact ZxL F hr hb hd hx I1 r q
end
structure Zu(N P:List Str)(sc:Scope):Prop where
 kind:sc.kind=.function
 co:sc.isCoroutine=ZFu
 gen:sc.isGenerator=ZFu
 nd:N.Nodup
 pre:N.take P.length=P
 par:∀x∈P,sc.names.lookup x=Z .local\/sc.names.lookup x=Z .cell
 nofree:∀y∈sc.names,y.2≠.free
theorem Zns{kindOf:Str->Option NameKind}{x:Str}:∀{binds:List (Str × Value)} {m:Str->Option Value},(∀v,(x,v) ∉ binds)->bindL kindOf binds m x=m x
 | [],_,_=>rfl
 | (n,v)::r,m,h=>by
  unfold bindL;rw[Zns λw hw=>h w (ZAq _ hw)];split
  ·have:x≠n:=by rintro rfl; exact h v ZAp
   simp[this]
  ·rfl
theorem Zno{kindOf:Str->Option NameKind}{x:Str}:∀{binds:List (Str × Value)} {m:Str->Option Value},(∀v,(x,v) ∉ binds)->bindC kindOf binds m x=m x
 | [],_,_=>rfl
 | (n,v)::r,m,h=>by
  unfold bindC;rw[Zno λw hw=>h w (ZAq _ hw)];split
  ·rfl
  ·have:x≠n:=by rintro rfl; exact h v ZAp
   simp[this]
theorem Znp{kindOf:Str->Option NameKind}{x:Str}{v:Value}:∀{P:List Str} {vs:List Value} {i:Nat} {m:Str->Option Value},P.Nodup->P[i]?=Z x->vs[i]?=Z v->kindOf x=Z .local ->
  bindL kindOf (P.zip vs) m x=Z v
 | [],_,_,_,_,h,_,_=>by simp at h
 | _::_,[],_,_,_,_,h,_=>by simp at h
 | p::P,w::vs,0,m,nd,h1,h2,hk=>by simp at h1 h2; subst h1; subst h2;show bindL kindOf ((p,w)::P.zip vs) m p=_;unfold bindL;rw[Zns λv hv=>(ZBf.mp nd).1 (ZEP hv).1,if_pos hk];simp
 | p::P,w::vs,i+1,m,nd,h1,h2,hk=>by show bindL kindOf ((p,w)::P.zip vs) m x=_;unfold bindL;exact Znp (i:=i) (ZBf.mp nd).2 (by simpa using h1) (by simpa using h2) hk
theorem Znm{kindOf:Str->Option NameKind}{x:Str}{v:Value}:∀{P:List Str} {vs:List Value} {i:Nat} {m:Str->Option Value},P.Nodup->P[i]?=Z x->vs[i]?=Z v->kindOf x≠Z .local ->
  bindC kindOf (P.zip vs) m x=Z v
 | [],_,_,_,_,h,_,_=>by simp at h
 | _::_,[],_,_,_,_,h,_=>by simp at h
 | p::P,w::vs,0,m,nd,h1,h2,hk=>by simp at h1 h2; subst h1; subst h2;show bindC kindOf ((p,w)::P.zip vs) m p=_;unfold bindC;rw[Zno λv hv=>(ZBf.mp nd).1 (ZEP hv).1,if_neg hk];simp
 | p::P,w::vs,i+1,m,nd,h1,h2,hk=>by show bindC kindOf ((p,w)::P.zip vs) m x=_;unfold bindC;exact Znm (i:=i) (ZBf.mp nd).2 (by simpa using h1) (by simpa using h2) hk
def start(N:List Str)(vs:List V):St:=vs.map Z++ZA0 (N.length-vs.length) Z_
def Zge(CX:CXT)(P:Program)(w:World)(K:ZAo)(mg:Str->Option Value)(base:Heap)(N:List Str)(qual:Str)(scope:Scope)(f:Addr)(cd:Value)(A:Around)(outer:List Env)(s:Shared)(H:Hp)(E:XK):Cx where
 prog:=P
 w:=w
 K:=K
 mg:=mg
 base:=base
 A:=A.deeper (envOfC qual scope s.heap.objs.size f cd)
 N:=N
 s₀:=s
 H₀:=H
 env:=envOfC qual scope s.heap.objs.size f cd
 outer:=outer
 stack:=envOfC qual scope s.heap.objs.size f cd::outer
 ex:=[]
 calm:=ZFt
 fn:=λ_=>ZFt
 pn:=[]
 xe:=λe s'=>wpAny (model P w) (A.deeper (envOfC qual scope s.heap.objs.size f cd)) (leaving (envOfC qual scope s.heap.objs.size f cd) e) (λ_ s''=>CX outer H s E e s'') (λe' s''=>CX outer H s E e' s'') s'
theorem Zpy{sc:Scope}{n:Nat}{x:Str}(h:sc.names.lookup x=Z .cell):∃c,(cellsFrom n sc.names []).lookup x=Z c:=by have q:=ZEY sc.names n [] (.inl h);exact ZAX.mp q
theorem ZtO{CX:CXT}{N:List Str}{cd:Value}{A:Around}{outer:List Env}{s1:Shared}{E:XK}
  (S:Zu N ps scope) (hd:A.handled=Z_) (e0:ZfB P w K mg base A outer s H) (hl:vs.length=ps.length) (r:Vals vs us)
  (x:InCallC s s.heap.objs.size (bindL (envOfC qual scope s.heap.objs.size f cd).kindOf (ps.zip us) λ_=>Z_) (cellsFrom (s.heap.objs.size+1) scope.names []) (bindC (envOfC qual scope s.heap.objs.size f cd).kindOf (ps.zip us) λ_=>Z_) s1) :
  Inv (Zge CX P w K mg base N qual scope f cd A outer s H E) [] (start N vs) H s1:=by
 have hpl:ps.length<=N.length:=by have:=congrArg ZA8 S.pre; rw[ZB1]at this; omega
 obtain⟨h1,tk,rfl,hk⟩:=x.done;have noA:∀b:Addr,b ∉ (Zge CX P w K mg base N qual scope f cd A outer s H E).ex:=λb z=>absurd (show b∈([]:List Addr) from z) (by simp);refine⟨⟨e0.mod,S.kind,rfl,rfl,ZAz _,λy z c h1 h2=>?_,λy hy=>?_,λy c _ h=>?_,λ_=>hd,ZFg e0.frames,.inr ⟨rfl,rfl⟩,λb z=>absurd z (noA b),e0.bs,e0.bsz,λb _ _=>noA b,λb z=>absurd z (noA b),e0.funs,e0.frf⟩,
  rfl,e0.bare,Un.kept hk,⟨_,x.toInCall.ns,λi y v h1 h2 h3=>?_⟩,λy c h=>⟨_,x.cell y c h⟩,e0.hok.fresh (ZAz _),λy c h=>?_,λp hp=>absurd (show p∈([]:List (Addr × Obj)) from hp) (by simp),e0.hok.kept hk,?_⟩
 ·exact name_of_addr x.apart (ZBX h1) (ZBX h2)
 ·have hy:scope.names.lookup y=Z .cell\/scope.names.lookup y=Z .free:=hy
  rcases hy with hy | hy
  ·exact Zpy hy
  ·exact absurd rfl (S.nofree _ (ZBX hy))
 ·exact ZCj (x.above y c (ZBX h))
 ·have hi:i<vs.length:=by
   unfold start at h2
   by_cases hi:i<vs.length
   ·exact hi
   ·rw[ZBe (by simpa using hi)]at h2
    rw[ZCU]at h2;split at h2<;>cases h2
  have ha:vs[i]?=Z v:=by
   unfold start at h2;rw[ZA4 (by simpa using hi),ZAO]at h2;cases e:vs[i]? with
   | none=>rw[e]at h2; cases h2
   | some a=>rw[e]at h2; cases h2; rfl
  obtain⟨u,hu,rv⟩:=r.get ha;have hp:ps[i]?=Z y:=by rw[<-S.pre,ZEC (by omega)]; exact h1
  have ndP:ps.Nodup:=by rw[<-S.pre]; exact S.nd.sublist (List.take_sublist _ _)
  refine⟨u,rv,?_⟩;rcases S.par y (ZAR hp)with k | k
  ·exact .inl ⟨k,Znp ndP hp hu k⟩
  ·obtain⟨c,e⟩:=Zpy (n:=s.heap.objs.size+1) k
   refine .inr ⟨.inl k,c,e,?_⟩;have q:=x.cell y c e;rw[Znm ndP hp hu (by show scope.names.lookup y≠_; rw[k]; decide)]at q;exact q
 ·exact e0.hok.fresh (ZCj (x.above y c (ZBX h)))
 ·unfold start
  show _=N.length;rw[ZAE,ZAl,ZBi];omega
theorem ZvR{CX:CXT}{k:Nat}{name:Str}{params:Arguments}{body:List Stmt}{dV kV doc pm cdv ct oc:Value}{an od:Option Addr}
  {osl:Array (Option Value)} {N ps:List Str} {sp:Sp} (lk:K.lookup f=Z ⟨oc,od,.func (ZBO name qual params body scope dV kV doc pm an cdv ct),osl⟩) (hcd:ZCv K cdv qual=ZFt) (S:Zu N ps scope)
  (len:∀vs H Q E,sp vs H Q E->vs.length=ps.length)
  (hbody:∀(A:Around) (outer:List Env) (s:Shared) (H:Hp) (vs:List V) (Q:VK) (E:XK),Zap k (A.deeper (envOfC qual scope s.heap.objs.size f cdv))->sp vs H Q E ->
   ∃t,PSs (Zge CX P w K mg base N qual scope f cdv A outer s H E) body t/\t { nx:=λ_ H'=>Q .non H',rt:=Q } (start N vs) H) :
  ZdM P w K mg base CX (k+1) f (ZBO name qual params body scope dV kV doc pm an cdv ct) ps sp:=by
 refine⟨len,λA outer s H args us vs Q E hr e0 hb r hsp=>?_⟩;have hl:=len _ _ _ _ hsp;have KX:K.In s.heap:=e0.mod.kin.keeps λb o e=>(e0.bs b o e).1;have lim:s.heap.NoLimit:=e0.mod.nolimit.keeps λb o e=>(e0.bs b o e).1;have hkind:∀y∈ps.zip us,scope.names.lookup y.1=Z .local\/(scope.names.lookup y.1=Z .cell/\((cellsFrom (s.heap.objs.size+1) scope.names []).lookup y.1).isSome=ZFt):=λ⟨n,v⟩ hy=>by
  rcases S.par n (ZEP hy).1 with q | q
  ·exact .inl q
  ·exact .inr ⟨q,ZEY _ _ _ (.inl q)⟩
 refine codeAny_call_function hr.depth (KX _ _ lk) rfl S.co S.gen rfl (PySem.W.codeRec_of KX hcd) (hb _ _ _ _ ?_);refine wpAny_newFunctionEnv_cells S.kind hkind λenv he s1 x=>?_;subst he;refine⟨lim.keeps x.toInCall.keep,codeAny_func ?_⟩;obtain⟨t,ht,hq⟩:=hbody A outer s H vs Q E (hr.deeper _) hsp;have I:Inv (Zge CX P w K mg base N qual scope f cdv A outer s H E) [] (start N vs) H s1:=ZtO S hr.hd e0 hl r x;refine ZBM (ht [] s1 (start N vs) H _ I hq) (λfl s' hs=>?_) λe s' hs=>hs;have fin:∀{σ':St} {H':Hp} {v:V} {u:Value},Inv (Zge CX P w K mg base N qual scope f cdv A outer s H E) [] σ' H' s'->RelV v u->Q v H'->CE outer P w H s Q u s' :=
  λ{σ' H' v u} J rv q=>⟨v,H',J.os,J.bare,J.base,J.hok,rv,q⟩
 cases fl with
 | ret u=>obtain⟨v,σ',H',J,rv,q⟩:=hs;exact fin J rv q
 | next=>obtain⟨σ',H',J,q⟩:=hs;exact fin (v:=V.non) (u:=ZBp) J rfl q
 | brk=>obtain⟨_,_,_,q⟩:=hs;exact ZBk q
 | cont=>obtain⟨_,_,_,q⟩:=hs;exact ZBk q
end L2
namespace L2
open PySem PySem.Spec PyProof.Rows
section
variable{X:Cx}{x:Str}{p pos:Pos}{e:Expr}{es:List Expr}{t:TA}{id T:String}{r:List V->Hp->VK->Prop}
def tCB(r:List V->Hp->VK->Prop)(t:TA):TE:=λσ H Q=>t σ H λvs H1=>r vs H1 Q
theorem Zc1(hc:Za8 X (.builtin id) r)(hg:Gl X x)(hm:X.mg x=Z_)(hv:ZBr x=Z (.builtin id))(ha:PA X (e::es) t)(hn:x ≠ "__name__":=by decide)(hdb:(x==("__debug__":Str))=ZFu:=by decide)
  (he:ZAD (e::es) X.env=(ZFu,eval e X.env)::ZAD es X.env:=by rfl) (hpl:(backTo pos (ZAD es X.env)).any (·.1)=ZFu:=by rfl):PE X (.Call (.Name x p) (e::es) [] pos) (tCB r t):=by
 intro pins s σ H Q I h;refine ZCh (Zig I hg hm hv ?_ hn hdb);exact PyProof.Rows.callWith_builtin1 (thn (ha pos pins s σ H _ I h) λus s1 ⟨vs,H1,I1,r1,q1⟩=>hc pins s1 σ H1 vs us Q I1 r1 q1) he hpl
theorem ZdN(hc:Za8 X (.type T) r)(hg:Gl X x)(hm:X.mg x=Z_)(hv:ZBr x=Z (.type T))(ha:PA X (e::es) t)(hn:x ≠ "__name__":=by decide)(hdb:(x==("__debug__":Str))=ZFu:=by decide)
  (he:ZAD (e::es) X.env=(ZFu,eval e X.env)::ZAD es X.env:=by rfl) (hpl:(backTo pos (ZAD es X.env)).any (·.1)=ZFu:=by rfl):PE X (.Call (.Name x p) (e::es) [] pos) (tCB r t):=by
 intro pins s σ H Q I h;refine ZCh (Zig I hg hm hv ?_ hn hdb);exact ZC9 (thn (ha pos pins s σ H _ I h) λus s1 ⟨vs,H1,I1,r1,q1⟩=>hc pins s1 σ H1 vs us Q I1 r1 q1) he hpl
end
end L2
namespace HT
set_option maxHeartbeats 8000000
open PySem PyProof.Rows
section
open PySem.SeqAt
open PySem.AutoSeq1 (wpAny_loadPart')
open PySem.MeetsSeq PySem.MeetsSeq2 PySem.MeetsSeq3
end
section
variable{prog:Program}{w:World}{A:Around}{E:Value->Shared->Prop}{s:Shared}
def sIx(n d:Nat):Option Int->Nat
 | none=>d
 | some v=>if v<0 then(v+(n:Int)).toNat else min v.toNat n
end
end HT
namespace L2
open PySem PySem.Spec PyProof.Rows
abbrev TO:=St->Hp->(Option Int->Hp->Prop)->Prop
def PO(X:Cx)(e:Option Expr)(t:TO):Prop :=
 ∀(pins:List (Addr × Obj)) (s:Shared) (σ:St) (H:Hp) (Q:Option Int->Hp->Prop),Inv X pins σ H s->t σ H Q ->
  wpAny (model X.prog X.w) X.A (evalPart e X.env) (λu s'=>∃o H',Inv X pins σ H' s'/\IsPart u o/\Q o H') X.xe s
def ZwH:TO:=λ_ H Q=>Q Z_ H
def ZyX(t:TE):TO:=λσ H Q=>t σ H λx H1=>∃i,x=.int i/\Q (Z i) H1
section
variable{X:Cx}{e:Expr}{te:TE}{lo hi:Option Expr}{tl th:TO}{pos p2:Pos}
theorem Zwo:PO X Z_ ZwH:=by intro pins s σ H Q I h;rw[evalPart_none];exact ZAr ⟨Z_,H,I,.none,h⟩
theorem Zws(h:PE X e te):PO X (Z e) (ZyX te):=by intro pins s σ H Q I hw;rw[evalPart_some];refine thn (h pins s σ H _ I hw) λu s1 ⟨x,H1,I1,r1,q1⟩=>?_;obtain⟨i,rfl,q⟩:=q1;obtain⟨t,rfl⟩:=r1;exact⟨Z i,H1,I1,.int i t,q⟩
def SlR(X:Cx)(r:V->Option Int->Option Int->Hp->VK->Prop):Prop :=
 ∀(pins:List (Addr × Obj)) (s:Shared) (σ:St) (H:Hp) (x:V) (v vl vu:Value) (lo hi:Option Int) (sl:Addr) (Q:VK),Inv X pins σ H s->RelV x v->s.heap.IsSliceOf sl vl vu .none->IsPart vl lo->IsPart vu hi->r x lo hi H Q ->
  ∃T id,typeLookup (.type T) "__getitem__" = pure (Z (.builtin id))/\s.TypeIs v T/\wpAny (model X.prog X.w) X.A (getItem v (.ref sl)) (EP X pins σ Q) X.xe s
def tSl(r:V->Option Int->Option Int->Hp->VK->Prop)(te:TE)(tl th:TO):TE:=λσ H Q=>te σ H λx H1=>tl σ H1 λl H2=>th σ H2 λu H3=>r x l u H3 Q
theorem Zu2{r:V->Option Int->Option Int->Hp->VK->Prop}(hr:SlR X r)(he:PE X e te)(hl:PO X lo tl)(hu:PO X hi th):PE X (.Subscript e (.Slice lo hi Z_ p2) pos) (tSl r te tl th):=by intro pins s σ H Q I h;refine Subscript_ (thn (he pins s σ H _ I h) λv s1 ⟨x,H1,I1,r1,q1⟩=>?_);refine wpAny_Slice (thn (hl pins s1 σ H1 _ I1 q1) λvl s2 ⟨l,H2,I2,pl,q2⟩=>thn (hu pins s2 σ H2 _ I2 q2) λvu s3 ⟨u,H3,I3,pu,q3⟩=>?_);rw[evalPart_none];refine ZAr ?_;have I4:Inv X pins σ H3 { s3 with heap:=s3.heap.push { cls:=.type "slice",data:=.fields #[vl,vu,.none] } }:=I3.kept (t':=s3.toks) λb ob q=>ZAs _ q;obtain⟨T,id,hT,ht,hg⟩:=hr pins { s3 with heap:=s3.heap.push { cls:=.type "slice",data:=.fields #[vl,vu,.none] } } σ H3 x v vl vu l u s3.heap.objs.size Q I4 r1 (Heap.IsSliceOf.new ..) pl pu q3;show wpAny (model X.prog X.w) X.A (subscriptTail e (.Slice lo hi Z_ p2) v (.ref s3.heap.objs.size)) (EP X pins σ Q) X.xe { s3 with heap:=s3.heap.push { cls:=.type "slice",data:=.fields #[vl,vu,.none] } };exact tail_any (ops:=[.ref s3.heap.objs.size,v]) ht hT hg (by with_unfolding_all rfl)
def Zqh(xs:List V)(lo hi:Option Int):List V:=(xs.drop (HT.sIx xs.length 0 lo)).take (HT.sIx xs.length xs.length hi-HT.sIx xs.length 0 lo)
theorem Zq2(xs:List V)(lo hi:Option Int):(Zqh xs lo hi).length<=xs.length:=by unfold Zqh;rw[ZB1,ZDa];omega
end
end L2
namespace L2
open PySem PySem.Spec PyProof.Rows
variable{H:Hp}{i:Int}{pins:List (Addr × Obj)}{n:Nat}{s:Shared}{σ:St}{x y:V}{u:Value}
def ixN(n:Nat)(i:Int):Option Nat:=if 0<=i then(if i<n then Z i.toNat else Z_)else if -(n:Int)<=i then Z (i+n).toNat else Z_
def atI{α:Type}(xs:List α)(i:Int):Option α:=(ixN xs.length i).bind λj=>xs[j]?
theorem Zrk{j:Nat}(h:ixN n i=Z j):seqIndex? i n=Z j/\j<n/\-(n:Int)<=i/\i<n:=by
 unfold ixN at h
 by_cases h0:0<=i
 ·rw[if_pos h0]at h
  by_cases h1:i<n
  ·rw[if_pos h1]at h
   have e:i.toNat=j:=ZA9 h;exact⟨by rw[seqIndex_of h0 h1,e],by omega,by omega,h1⟩
  ·rw[if_neg h1]at h; cases h
 ·rw[if_neg h0]at h
  by_cases h1:-(n:Int)<=i
  ·rw[if_pos h1]at h
   have e:(i+n).toNat=j:=ZA9 h;exact⟨by rw[seqIndex_neg (by omega) h1,e],by omega,h1,by omega⟩
  ·rw[if_neg h1]at h; cases h
theorem ZmI{α:Type}{xs:List α}{v:α}(h:atI xs i=Z v):∃j,seqIndex? i xs.length=Z j/\xs[j]?=Z v/\j<xs.length/\-(xs.length:Int)<=i/\i<xs.length:=by
 unfold atI at h;cases e:ixN xs.length i with
 | none=>rw[e]at h; cases h
 | some j=>rw[e]at h;obtain⟨h1,h2,h3,h4⟩:=Zrk e;exact⟨j,h1,h,h2,h3,h4⟩
def Zrx(b:Expr):Prop:=∀o i,ZEZ b ZFu o i=operate [o,i] (getItem o i)
def IxR(X:Cx)(r:R2):Prop :=
 ∀(value slice:Expr) (pins:List (Addr × Obj)) (s:Shared) (σ:St) (H:Hp) (x y:V) (v u:Value) (Q:VK),Inv X pins σ H s->RelV x v->RelV y u->r x y H Q ->
  ZEZ slice ZFu v u=operate [v,u] (getItem v u)->wpAny (model X.prog X.w) X.A (subscriptTail value slice v u) (EP X pins σ Q) X.xe s
def MtR(X:Cx)(id:String)(r:V->List V->Hp->VK->Prop):Prop :=
 ∀(pins:List (Addr × Obj)) (s:Shared) (σ:St) (H:Hp) (x:V) (xs:List V) (v:Value) (us:List Value) (Q:VK),Inv X pins σ H s->RelV x v->Vals xs us->r x xs H Q ->
  wpAny (model X.prog X.w) X.A (call (.builtin id) (v::us)) (EP X pins σ Q) X.xe s
section
variable{X:Cx}{a b:Expr}{ta tb:TE}{pos:Pos}
theorem IxR.or{r r':R2}(h:IxR X r)(h':IxR X r'):IxR X (λx y H Q=>r x y H Q\/r' x y H Q):=by
 intro value slice pins s σ H x y v u Q I rx ry q hs;rcases q with q | q
 ·exact h value slice pins s σ H x y v u Q I rx ry q hs
 ·exact h' value slice pins s σ H x y v u Q I rx ry q hs
theorem ZyY{r:R2}(hr:IxR X r)(ha:PE X a ta)(hb:PE X b tb)(hs:Zrx b):PE X (.Subscript a b pos) (tOp r ta tb):=by intro pins s σ H Q I h;exact Subscript_ (ZuS ha hb I h λv u s2 x y H2 I2 rx ry q=>hr a b pins s2 σ H2 x y v u Q I2 rx ry q (hs _ _))
def Zx7(K:ZAo):R2:=λx y H Q=>∃p xs i v,x=.ref p/\y=.int i/\SqL K H p xs/\atI xs i=Z v/\Q v H
def Zxj(K:ZAo):R2:=λx y H Q=>∃p xs i v,x=.ref p/\y=.int i/\SqT K H p xs/\atI xs i=Z v/\Q v H
def Zxx:R2:=λx y H Q=>∃z i c,x=.str z/\y=.int i/\z.length<=sizeLine/\atI z.cps.toList i=Z c/\Q (.str ⟨#[c]⟩) H
theorem ZwG:IxR X (Zx7 X.K):=by
 intro value slice pins s σ H x y v u Q I rx ry h hs;obtain⟨p,xs,i,z,rfl,rfl,hq,he,q⟩:=h;cases rx;obtain⟨t,rfl⟩:=ry;obtain⟨its,r,pl,hz⟩:=I.list hq;obtain⟨j,h1,h2,h3,h4,h5⟩:=ZmI he;obtain⟨w,ew,rw'⟩:=r.get h2;have hl:=r.length;have hn:=ZjS;have fin:EP X pins σ Q w s:=⟨z,H,I,rw',q⟩
 by_cases h0:0<=i
 ·have hj:i.toNat=j:=by
   rw[seqIndex_of h0 h5]at h1;exact ZA9 h1
  exact item_listR pl.isList h0 (by omega) (by rw[hj]; simpa using ew) fin hs
 ·have hj:(i+(its.toArray.size:Int)).toNat=j:=by
   rw[seqIndex_neg (by omega) h4]at h1;rw[ZAJ,<-hl];exact ZA9 h1
  exact subscriptTail_builtinR (x:=w) pl.isList.typeIs slot_list_getitem.lookup
   (wpAny_getItem_list_neg (Q:=λr s'=>r=w/\EP X pins σ Q r s') pl.isList (by omega) (by rw[ZAJ]<;>omega) (by omega) (by rw[hj]; simpa using ew) ⟨rfl,fin⟩) hs
theorem Zyv:IxR X (Zxj X.K):=by
 intro value slice pins s σ H x y v u Q I rx ry h hs;obtain⟨p,xs,i,z,rfl,rfl,hq,he,q⟩:=h;cases rx;obtain⟨t,rfl⟩:=ry;obtain⟨its,r,pl,hz⟩:=I.tuple hq;obtain⟨j,h1,h2,h3,h4,h5⟩:=ZmI he;obtain⟨w,ew,rw'⟩:=r.get h2;have hl:=r.length;have hn:=ZjS;have fin:EP X pins σ Q w s:=⟨z,H,I,rw',q⟩;exact subscriptTail_builtinR (x:=w) pl.typeIs slot_tuple_getitem.lookup
  (getItem_tuple (j:=j) (Q:=λr s'=>r=w/\EP X pins σ Q r s') pl (by omega) (by omega) (by rw[ZAJ,<-hl]; exact h1) (by simpa using ew) ⟨rfl,fin⟩) hs
theorem ZxI:IxR X Zxx:=by
 intro value slice pins s σ H x y v u Q I rx ry h hs;obtain⟨z,i,c,rfl,rfl,hz,he,q⟩:=h;obtain⟨t,rfl⟩:=rx;obtain⟨t',rfl⟩:=ry;obtain⟨j,h1,h2,h3,h4,h5⟩:=ZmI he;have hl:z.cps.toList.length=z.length:=by simp[Str.length]
 rw[hl]at h1 h4 h5;have hn:=ZjS;exact tail_any (typeIs_str s z t) slot_str_getitem.lookup (getItem_str (c:=c) (by have e1:decide (i < -(2 ^ 63:Int))=ZFu:=decide_eq_false (by omega);have e2:decide (i ≥ 2 ^ 63)=ZFu:=decide_eq_false (by omega);rw[e1,e2,Bool.or_false]) (by rw[h1]; simpa using h2) ⟨.str ⟨#[c]⟩,H,I.tok _,⟨_,rfl⟩,q⟩) hs
def rIx(K:ZAo):R2:=λx y H Q=>Zx7 K x y H Q\/Zxj K x y H Q\/Zxx x y H Q
theorem Zx9:IxR X (rIx X.K):=ZwG.or (Zyv.or ZxI)
theorem Zsq(its:List Value)(n j:Nat)(u:Value):ZDv (·.setIfInBounds j u) { cls:=.type "list",data:=.seq its.toArray n }={ cls:=.type "list",data:=.seq (its.set j u).toArray n }:=by simp[ZDv]
theorem Inv.lst{pins:List (Addr × Obj)}{σ:St}{H:Hp}{s:Shared}{p:Addr}{xs:List V}(I:Inv X pins σ H s)(h:H p=Z (.lst xs)) :
  ∃(its:List Value) (n:Nat),Vals xs its/\s.heap.get? p=Z { cls:=.type "list",data:=.seq its.toArray n }/\xs.length<=sizeLine:=by
 obtain⟨z,its,n,r,e⟩:=I.hok p _ h;exact⟨its,n,r,e,z⟩
theorem Inv.lstUpd{p:Addr}{xs ys:List V}{its its':List Value}{n':Nat}{f:Obj->Obj}(I:Inv X pins σ H s)(h:H p=Z (.lst xs))
  (ho:s.heap.get? p=Z { cls:=.type "list",data:=.seq its.toArray n }) (hf:f { cls:=.type "list",data:=.seq its.toArray n }={ cls:=.type "list",data:=.seq its'.toArray n' }) (r:Vals ys its') (hz:ys.length<=sizeLine) (t:Nat) :
  Inv X pins σ (upd H p (.lst ys)) { s with heap:=s.heap.update p f,toks:=t }:=by
 have e:(s.heap.update p f).get? p=Z { cls:=.type "list",data:=.seq its'.toArray n' }:=by rw[ZBt f ho (by rw[hf]<;>rfl),hf]
 refine I.write (x:=p) (e:=p) (by rw[h]; trivial) (.inl rfl) (λb u hb q=>(ZBT _ _ (ZBy hb)).trans q) ⟨_,e⟩ ?_;exact⟨hz,its',n',r,e⟩
def Zy1:V->V->V->Hp->(Hp->Prop)->Prop:=λo i v H Q=>∃p xs k j,o=.ref p/\i=.int k/\H p=Z (.lst xs)/\ixN xs.length k=Z j/\Q (upd H p (.lst (xs.set j v)))
theorem set_list:ZxU X Zy1:=by
 intro pins s σ H o i v ov iv u Q I ro ri rv h;obtain⟨p,xs,k,j,rfl,rfl,hp,hj,q⟩:=h;cases ro;obtain⟨t,rfl⟩:=ri;obtain⟨its,n,r,ho,hz⟩:=I.lst hp;obtain⟨h1,h2,h3,h4⟩:=Zrk hj;have hl:=r.length;have hn:=ZjS;have I':Inv X pins σ (upd H p (.lst (xs.set j v))) { s with heap:=s.heap.update p (ZDv (·.setIfInBounds j u)) } :=
  I.lstUpd hp ho (Zsq its n j u) (r.set rv j) (by rw[ZBH]; exact hz) s.toks
 by_cases h0:0<=k
 ·have hk:k.toNat=j:=by
   rw[seqIndex_of h0 h4]at h1;exact ZA9 h1
  exact PySem.W.ki_setAt ho h0 (by omega) (by rw[ZAJ,<-hl]; exact h4) (by rw[hk]; exact⟨_,I',q⟩)
 ·have hk:(k+(its.toArray.size:Int)).toNat=j:=by
   rw[seqIndex_neg (by omega) h3]at h1;rw[ZAJ,<-hl];exact ZA9 h1
  exact PySem.W.ki_setBack ho (by omega) (by rw[ZAJ,<-hl]; exact h3) (by omega) (by rw[hk]; exact⟨_,I',q⟩)
theorem Zo3(lo hi:Option Int)(n:Nat):(ZDg lo hi Z_ n).1=((HT.sIx n 0 lo:Nat):Int)/\(ZDg lo hi Z_ n).2.1=((HT.sIx n n hi:Nat):Int)/\(ZDg lo hi Z_ n).2.2=1:=by
 refine⟨?_,?_,rfl⟩
 ·cases lo with
  | none=>simp[ZDg,HT.sIx]
  | some i =>
   simp only[ZDg,HT.sIx,Option.getD_none,show(1:Int) > 0 by decide,if_true]
   by_cases h:i<0
   ·simp only[h,if_true]<;>omega
   ·simp only[h,if_false]<;>omega
 ·cases hi with
  | none=>simp[ZDg,HT.sIx]
  | some i =>
   simp only[ZDg,HT.sIx,Option.getD_none,show(1:Int) > 0 by decide,if_true]
   by_cases h:i<0
   ·simp only[h,if_true]<;>omega
   ·simp only[h,if_false]<;>omega
theorem ZnY(its:List Value)(lo hi:Option Int):slicePick its.toArray lo hi Z_=((its.drop (HT.sIx its.length 0 lo)).take (HT.sIx its.length its.length hi-HT.sIx its.length 0 lo)).toArray:=by obtain⟨h1,h2,h3⟩:=Zo3 lo hi its.toArray.size;unfold slicePick;rw[h1,h2,h3];simp only[sliceRange_one,pick_run,ZAJ]<;>rfl
def Zz1(K:ZAo):V->Option Int->Option Int->Hp->VK->Prop:=λx lo hi H Q=>∃a xs,x=.ref a/\SqL K H a xs/\∀p,H p=Z_->Q (.ref p) (upd H p (.lst (Zqh xs lo hi)))
theorem Zw0:SlR X (Zz1 X.K):=by intro pins s σ H x v vl vu lo hi sl Q I rx hs pl pu h;obtain⟨a,xs,rfl,hx,q⟩:=h;cases rx;obtain⟨its,r,ht,hz⟩:=I.list hx;have hlen:=r.length;refine⟨"list",_,slot_list_getitem.lookup,ht.isList.typeIs,?_⟩;refine wpAny_getItem_list_slice ht.isList hs pl pu .none (by simp) ?_ (by rw[ZAJ]<;>omega);rw[ZnY,<-hlen];refine⟨.ref s.heap.objs.size,_,I.laid (t':=s.toks) (o:=.lst (Zqh xs lo hi)) (λb ob q=>ZAs _ q) (ZAz _) ?_,rfl,q _ (I.hok.fresh (ZAz _))⟩;exact⟨ZBm (Zq2 xs lo hi) hz,_,0,(r.drop (HT.sIx xs.length 0 lo)).take (HT.sIx xs.length xs.length hi-HT.sIx xs.length 0 lo),ZAH _ rfl⟩
def Zbf:V->Bool
 | .non=>ZFt
 | .bl _=>ZFt
 | .int _=>ZFt
 | .str _=>ZFt
 | _=>ZFu
def eqV:V->V->Bool
 | .non,.non=>ZFt
 | .bl a,.bl b=>a==b
 | .bl a,.int b=>(if a then 1 else 0)==b
 | .int a,.bl b=>a==(if b then 1 else 0)
 | .int a,.int b=>a==b
 | .str a,.str b=>a==b
 | _,_=>ZFu
theorem Zyl{A:Around}{v:Value}(ry:RelV y u)(rx:RelV x v)(fy:Zbf y=ZFt)(fx:Zbf x=ZFt):SeqAt.EqAt A s u v (eqV y x):=by
 cases y with
 | non =>
  cases ry;cases x with
  | non=>cases rx; exact SeqAt.EqAt.same _
  | bl b=>cases rx; exact SeqAt.EqAt.none_bool b
  | int b=>obtain⟨t,rfl⟩:=rx; exact SeqAt.EqAt.none_int b t
  | str b=>obtain⟨t,rfl⟩:=rx; exact SeqAt.EqAt.none_str b t
  | _=>exact absurd (show ZFu=ZFt from fx) ZBd
 | bl a =>
  cases ry;cases x with
  | non=>cases rx; exact SeqAt.EqAt.bool_none a
  | bl b=>cases rx; exact SeqAt.EqAt.bool_bool a b
  | int b=>obtain⟨t,rfl⟩:=rx; exact SeqAt.EqAt.bool_int a b t
  | str b=>obtain⟨t,rfl⟩:=rx; exact SeqAt.EqAt.bool_str a b t
  | _=>exact absurd (show ZFu=ZFt from fx) ZBd
 | int a =>
  obtain⟨t',rfl⟩:=ry;cases x with
  | non=>cases rx; exact SeqAt.EqAt.int_none a t'
  | bl b=>cases rx; exact SeqAt.EqAt.int_bool a t' b
  | int b=>obtain⟨t,rfl⟩:=rx; exact SeqAt.EqAt.int_int a t' b t
  | str b=>obtain⟨t,rfl⟩:=rx; exact ZFm a t' b t
  | _=>exact absurd (show ZFu=ZFt from fx) ZBd
 | str a =>
  obtain⟨t',rfl⟩:=ry;cases x with
  | non=>cases rx; exact SeqAt.EqAt.str_none a t'
  | bl b=>cases rx; exact SeqAt.EqAt.str_bool a t' b
  | int b=>obtain⟨t,rfl⟩:=rx; exact ZFn a t' b t
  | str b=>obtain⟨t,rfl⟩:=rx; exact SeqAt.EqAt.str_str a t' b t
  | _=>exact absurd (show ZFu=ZFt from fx) ZBd
 | _=>exact absurd (show ZFu=ZFt from fy) ZBd
def eqU(x:V)(u:Value):Bool:=match u with
 | .none=>eqV .non x
 | .bool b=>eqV (.bl b) x
 | .int i _=>eqV (.int i) x
 | .str z _=>eqV (.str z) x
 | _=>ZFu
theorem Zue(r:RelV y u)(f:Zbf y=ZFt):eqU x u=eqV y x:=by
 cases y with
 | non=>cases r; rfl
 | bl b=>cases r; rfl
 | int i=>obtain⟨t,rfl⟩:=r; rfl
 | str z=>obtain⟨t,rfl⟩:=r; rfl
 | _=>exact absurd (show ZFu=ZFt from f) ZBd
theorem Zid{x:V}:∀{xs:List V} {us:List Value},Vals xs us->xs.all Zbf=ZFt->us.any (eqU x)=xs.any λy=>eqV y x
 | _,_,.nil,_=>rfl
 | y::xs,u::us,.cons r t,f=>by rw[ZBA,ZAW]at f;rw[ZCd,ZCd,Zue r f.1,Zid t f.2]
theorem ZgY{A:Around}{s:Shared}{x:V}{v:Value}(rx:RelV x v)(fx:Zbf x=ZFt):∀{xs:List V} {us:List Value},Vals xs us->xs.all Zbf=ZFt->∀u∈us,SeqAt.EqAt A s u v (eqU x u)
 | _,_,.nil,_=>λu hu=>by cases hu
 | y::xs,u::us,.cons r t,f=>λu' hu=>by
  rw[ZBA,ZAW]at f;rcases ZAy.mp hu with rfl | hu
  ·rw[Zue r f.1]; exact Zyl r rx f.1 fx
  ·exact ZgY rx fx t f.2 u' hu
def inV(x:V)(xs:List V):Bool:=xs.any λy=>eqV y x
def rIn(K:ZAo)(neg:Bool):R2:=λx y H Q=>∃p xs,y=.ref p/\(SqL K H p xs\/SqT K H p xs)/\Zbf x=ZFt/\xs.all Zbf=ZFt/\Q (.bl (if neg then !inV x xs else inV x xs)) H
theorem ZtB:OpR X (ZBw .In) (rIn X.K ZFu):=by
 intro pins s σ H x y v u Q I rx ry h;obtain⟨p,xs,rfl,hq,fx,fs,q⟩:=h;cases ry;rcases hq with hq | hq
 ·obtain⟨its,r,pl,hz⟩:=I.list hq
  refine SeqAt.in_listAt (eqU x) pl.isList (λw hw=>ZgY rx fx r fs w (by simpa using hw)) ⟨.bl _,H,I,rfl,?_⟩;rw[show its.toArray.any (eqU x)=its.any (eqU x) by simp,Zid r fs];exact q
 ·obtain⟨its,r,pl,hz⟩:=I.tuple hq
  refine SeqAt.in_tupleAt (eqU x) pl (λw hw=>ZgY rx fx r fs w (by simpa using hw)) ⟨.bl _,H,I,rfl,?_⟩;rw[show its.toArray.any (eqU x)=its.any (eqU x) by simp,Zid r fs];exact q
theorem Zp4:OpR X (ZBw .NotIn) (rIn X.K ZFt):=by
 intro pins s σ H x y v u Q I rx ry h;obtain⟨p,xs,rfl,hq,fx,fs,q⟩:=h;cases ry;rcases hq with hq | hq
 ·obtain⟨its,r,pl,hz⟩:=I.list hq
  refine SeqAt.notIn_listAt (eqU x) pl.isList (λw hw=>ZgY rx fx r fs w (by simpa using hw)) ⟨.bl _,H,I,rfl,?_⟩;rw[show its.toArray.any (eqU x)=its.any (eqU x) by simp,Zid r fs];exact q
 ·obtain⟨its,r,pl,hz⟩:=I.tuple hq
  refine SeqAt.notIn_tupleAt (eqU x) pl (λw hw=>ZgY rx fx r fs w (by simpa using hw)) ⟨.bl _,H,I,rfl,?_⟩;rw[show its.toArray.any (eqU x)=its.any (eqU x) by simp,Zid r fs];exact q
theorem Zpd:Za8 X (.builtin "len") (λxs H Q=>∃p ys,xs=[.ref p]/\(SqL X.K H p ys\/SqT X.K H p ys)/\Q (.int ys.length) H):=by
 intro pins s σ H xs us Q I r h;obtain⟨p,ys,rfl,hq,q⟩:=h;obtain⟨u,rfl,rx⟩:=vals1 r;cases rx;have hn:=ZjS;rcases hq with hq | hq
 ·obtain⟨its,r',pl,hz⟩:=I.list hq
  have hlen:=r'.length;exact Calls.call_len_list pl.isList (by simp only[ZAJ]<;>omega) ⟨.int ys.length,H,I.tok _,⟨s.toks+1,by rw[ZAJ,hlen]⟩,q⟩
 ·obtain⟨its,r',pl,hz⟩:=I.tuple hq
  have hlen:=r'.length;exact len_tuple pl (by simp only[ZAJ]<;>omega) ⟨.int ys.length,H,I.tok _,⟨s.toks+1,by rw[ZAJ,hlen]⟩,q⟩
theorem Za8.or{f:Value}{r r':List V->Hp->VK->Prop}(h:Za8 X f r)(h':Za8 X f r'):Za8 X f (λxs H Q=>r xs H Q\/r' xs H Q):=by
 intro pins s σ H xs us Q I rs q;rcases q with q | q
 ·exact h pins s σ H xs us Q I rs q
 ·exact h' pins s σ H xs us Q I rs q
theorem Zqd:Za8 X (.type "list") (λxs H Q=>∃p ys,xs=[.ref p]/\(SqL X.K H p ys\/SqT X.K H p ys)/\∀l,H l=Z_->Q (.ref l) (upd H l (.lst ys))):=by
 intro pins s σ H xs us Q I r h;obtain⟨p,ys,rfl,hq,q⟩:=h;obtain⟨u,rfl,rx⟩:=vals1 r;cases rx;have fin:∀(its:List Value),Vals ys its->ys.length<=sizeLine->∀(h':Heap) (c':Nat),(∀b o',s.heap.get? b=Z o'->h'.get? b=Z o') ->
   h'.get? s.heap.objs.size=Z { cls:=.type "list",dict:=Z_,data:=.seq its.toArray c',slots:=#[] }->EP X pins σ Q (.ref s.heap.objs.size) { s with heap:=h' }:=λits r' hz h' c' kp e =>
  ⟨.ref s.heap.objs.size,_,I.laid (t':=s.toks) kp (ZAz _) (show Zai X.prog X.w _ h' _ (.lst ys) from⟨hz,its,c',r',e⟩),rfl,q _ (I.hok.fresh (ZAz _))⟩
 rcases hq with hq | hq
 ·obtain⟨its,r',pl,hz⟩:=I.list hq
  have hlen:=r'.length;obtain⟨o,ho,hc,n,hd⟩:=pl.isList;exact call_list_seq p (.inl rfl) ho hc hd (λh' c' kp e=>fin its r' hz h' c' kp e) (by simp only[ZAJ]<;>omega)
 ·obtain⟨its,r',pl,hz⟩:=I.tuple hq
  have hlen:=r'.length;obtain⟨o,ho,hc,n,hd⟩:=pl;exact call_list_seq p (.inr rfl) ho hc hd (λh' c' kp e=>fin its r' hz h' c' kp e) (by simp only[ZAJ]<;>omega)
theorem ZnU:Za8 X (.type "tuple") (λxs H Q=>∃p ys,xs=[.ref p]/\((SqL X.K H p ys/\∀l,H l=Z_->Q (.ref l) (upd H l (.tup ys)))\/(SqT X.K H p ys/\Q (.ref p) H))):=by
 intro pins s σ H xs us Q I r h;obtain⟨p,ys,rfl,h⟩:=h;obtain⟨u,rfl,rx⟩:=vals1 r;cases rx;rcases h with⟨hq,q⟩ | ⟨hq,q⟩
 ·obtain⟨its,r',pl,hz⟩:=I.list hq
  have hlen:=r'.length;refine call_tuple_list pl.isList (λh' kp=>?_) (by simp only[ZAJ]<;>omega);have I1:Inv X pins σ H { s with heap:=h' }:=I.kept (t':=s.toks) kp;have I2:Inv X pins σ (upd H h'.objs.size (.tup ys)) { s with heap:=h'.push { cls:=.type "tuple",data:=.seq its.toArray } } :=
   I1.laid (t':=s.toks) (λb o e=>ZAs _ e) (ZAz _) (show Zai X.prog X.w _ _ _ (.tup ys) from⟨hz,its,r',IsTup.new _ _⟩)
  exact⟨.ref h'.objs.size,_,I2,rfl,q _ (I1.hok.fresh (ZAz _))⟩
 ·obtain⟨its,r',pl,hz⟩:=I.tuple hq
  exact call_tuple_same pl ⟨.ref p,H,I,rfl,q⟩
def tyV(K:ZAo)(T:String)(x:V)(H:Hp):Prop:=match x with
 | .str _=>T = "str"
 | .int _=>T = "int"
 | .ref p=>(T = "list"/\∃xs,SqL K H p xs)\/(T = "tuple"/\∃o,K.lookup p=Z o/\o.cls=.type "tuple"/\o.dict=Z_) \/
   (T = "dict"/\((∃kvs,H p=Z (.dK kvs))\/∃kvs,H p=Z (.dT kvs)))\/(T = "set"/\∃S n,H p=Z (.set S n))
 | _=>False
theorem Zun{T:String}{v:Value}(I:Inv X pins σ H s)(r:RelV x v)(ty:tyV X.K T x H) :
  s.TypeIs v T/\∀a,v=.ref a->∃ob,s.heap.get? a=Z ob/\ob.dict=Z_:=by
 cases x with
 | str z=>obtain⟨t,rfl⟩:=r;cases(show T = "str" from ty);exact⟨typeIs_str s z t,λ_ e=>nomatch e⟩
 | int i=>obtain⟨t,rfl⟩:=r;cases(show T = "int" from ty);exact⟨typeIs_int s i t,λ_ e=>nomatch e⟩
 | ref p =>
  cases r;rcases ty with⟨rfl,xs,hq⟩ | ⟨rfl,o,hk,hc,hd⟩ | ⟨rfl,hk⟩ | ⟨rfl,S,n,hk⟩
  ·obtain⟨its,_,pl,_⟩:=I.list hq
   refine⟨pl.isList.typeIs,λa e=>?_⟩;cases e;obtain⟨o,n,e,c,hd,_⟩:=pl;exact⟨o,e,hd⟩
  ·refine⟨⟨o,I.kIn p o hk,hc⟩,λa e=>?_⟩
   cases e;exact⟨o,I.kIn _ o hk,hd⟩
  ·have z:∃o,s.heap.get? p=Z o/\o.ExactDict:=by
    rcases hk with⟨kvs,hk⟩ | ⟨kvs,hk⟩
    ·obtain⟨_,_,_,_,o,_,_,e,ex,_⟩:=I.hok p _ hk
     exact⟨o,e,ex⟩
    ·obtain⟨_,_,_,_,o,_,_,e,ex,_⟩:=I.hok p _ hk
     exact⟨o,e,ex⟩
   obtain⟨o,e,ex⟩:=z;refine⟨⟨o,e,ex.1⟩,λa e2=>?_⟩;cases e2;exact⟨o,e,ex.2.1⟩
  ·obtain⟨o,_,_,_,e,ex,_⟩:=I.hok p _ hk
   refine⟨⟨o,e,ex.1⟩,λa e2=>?_⟩;cases e2;exact⟨o,e,ex.2.1⟩
 | _=>exact ZBk ty
def ZzU(K:ZAo)(T:String)(r:V->List V->Hp->VK->Prop)(to:TE):TE:=λσ H Q=>to σ H λx H1=>tyV K T x H1/\r x [] H1 Q
def tBM(K:ZAo)(T:String)(r:V->List V->Hp->VK->Prop)(to:TE)(t:TA):TE:=λσ H Q=>to σ H λx H1=>tyV K T x H1/\t σ H1 λxs H2=>r x xs H2 Q
variable{o e:Expr}{es:List Expr}{to:TE}{t:TA}{name:Str}{apos cpos:Pos}{T id:String}{r:V->List V->Hp->VK->Prop}
theorem Zxy(pa:PlainAttrs T)(slot:Slot T name id)(hty:typeOf (.builtin id)=pure (.type "method_descriptor"))(hm:MtR X id r)(ho:PE X o to)
  (hbase:ZCr o name X.env (eval o X.env)=eval o X.env:=by rfl) (hline:(apos.endLine==cpos.line)=ZFt:=by rfl):PE X (.Call (.Attribute o name apos) [] [] cpos) (ZzU X.K T r to):=by
 intro pins s σ H Q I h;refine wpAny_Call_method0_late hbase hline (thn (ho pins s σ H _ I h) λv s1 ⟨x,H1,I1,r1,ty,q1⟩=>?_);obtain⟨h1,h2⟩:=Zun I1 r1 ty;exact⟨T,id,pa,slot,hty,h1,h2,ZC0 rfl (PySem.evalArgs_none (hm pins s1 σ H1 x [] v [] Q I1 r1 .nil q1))⟩
theorem Zn8(pa:PlainAttrs T)(slot:Slot T name id)(hty:typeOf (.builtin id)=pure (.type "method_descriptor"))(hm:MtR X id r)(ho:PE X o to)(ha:PA X (e::es) t)
  (hbase:ZCr o name X.env (eval o X.env)=eval o X.env:=by rfl)
  (hfew:((backTo cpos (ZAD (e::es) X.env)).all (λx=>!x.1)&&(ZD8 cpos (ZDh [] X.env)).all (λx=>x.1.isSome)
   && decide ((e::es).length+([]:List Keyword).length+(if([]:List Keyword).isEmpty then 0 else 1)<30))=ZFt:=by rfl)
  (hline:(apos.endLine==cpos.line)=ZFt:=by rfl) (hs:ZAD (e::es) X.env=(ZFu,eval e X.env)::ZAD es X.env:=by rfl) (hplain:(backTo cpos (ZAD es X.env)).any (·.1)=ZFu:=by rfl) :
  PE X (.Call (.Attribute o name apos) (e::es) [] cpos) (tBM X.K T r to t):=by
 intro pins s σ H Q I h;refine wpAny_Call_method_late hbase hfew hline rfl (thn (ho pins s σ H _ I h) λv s1 ⟨x,H1,I1,r1,ty,q1⟩=>?_);obtain⟨h1,h2⟩:=Zun I1 r1 ty;refine⟨T,id,pa,slot,hty,h1,h2,?_⟩;have hA:=ha cpos pins s1 σ H1 _ I1 q1;rw[hs]at hA ⊢;refine ZC0 (by show(ZFu||(backTo cpos (ZAD es X.env)).any (·.1))=ZFu; rw[hplain]<;>rfl) (ZDX ?_);exact thn hA λus s2 ⟨vs,H2,I2,r2,q2⟩=>hm pins s2 σ H2 x vs v us Q I2 r1 r2 q2
end
end L2
namespace L2
open PySem PySem.Spec PyProof.Rows
variable{its:List Value}{n t':Nat}
def MtM(X:Cx)(id:String)(r:V->List V->Hp->VK->Prop):Prop :=
 ∀(pins:List (Addr × Obj)) (s:Shared) (σ:St) (H:Hp) (x:V) (xs:List V) (v:Value) (us:List Value) (Q:VK),Inv X pins σ H s->RelV x v->Vals xs us->r x xs H Q ->
  wpAny (model X.prog X.w) X.A (call (.builtin id) (v::us)) (EP X pins σ Q) X.xe s
theorem Vals.one:∀{x:V} {us:List Value},Vals [x] us->∃u,us=[u]/\RelV x u
 | _,_,.cons r .nil=>⟨_,rfl,r⟩
theorem Vals.zero:∀{us:List Value},Vals [] us->us=[]
 | _,.nil=>rfl
theorem Vals.dropLast{xs:List V}{us:List Value}(h:Vals xs us):Vals xs.dropLast us.dropLast:=by
 induction h with
 | nil=>exact .nil
 | cons r t ih =>
  cases t with
  | nil=>exact .nil
  | cons q t'=>exact .cons r ih
theorem Vals.rep{xs:List V}{us:List Value}(h:Vals xs us):∀k:Nat,Vals (ZA0 k xs).flatten (ZA0 k us).flatten
 | 0=>.nil
 | k+1=>by rw[ZB8,ZB8,ZCH,ZCH];exact Vals.append h (Vals.rep h k)
theorem Zsv{α:Type}(l:List α):l.eraseIdx (l.length-1)=l.dropLast:=by
 induction l with
 | nil=>rfl
 | cons a r ih =>
  cases r with
  | nil=>rfl
  | cons b r =>
   have e:(a::b::r).length-1=((b::r).length-1)+1:=by have h1:(a::b::r).length=r.length+2:=rfl;have h2:(b::r).length=r.length+1:=rfl;omega
   rw[e,List.eraseIdx_cons_succ,ih]
   all_goals rfl
theorem foldl_rep(its:List Value):∀(k:Nat) (acc:List Value),
  List.foldl (λx1 x2=>x1++x2) acc.toArray (ZA0 k its.toArray)=(acc++(ZA0 k its).flatten).toArray
 | 0,acc=>by simp
 | k+1,acc=>by
  have e:acc.toArray++its.toArray=(acc++its).toArray:=by simp
  have e2:(acc++its)++(ZA0 k its).flatten=acc++(ZA0 (k+1) its).flatten:=by rw[ZB8,ZCH,ZBE]
  rw[<-e2,<-foldl_rep its k (acc++its),<-e,ZB8,ZBu]
section
variable{X:Cx}{pins:List (Addr × Obj)}{σ:St}{H:Hp}{s:Shared}{l b:Addr}{xs ys zs:List V}
theorem Inv.lset{its':List Value}{f:Array Value->Array Value}(I:Inv X pins σ H s)(hH:H l=Z (.lst xs))
  (e:s.heap.get? l=Z { cls:=.type "list",data:=.seq its.toArray n }) (hf:f its.toArray=its'.toArray) (hv:Vals ys its') (hz:ys.length<=sizeLine) :
  Inv X pins σ (upd H l (.lst ys)) { s with heap:=s.heap.update l (ZDv f),toks:=t' }:=by
 have q:=PySem.IsL.update e f;rw[hf]at q;refine I.write (x:=l) (e:=l) (by rw[hH]; exact trivial) (.inl rfl) (λb' u hb hu=>(ZBT s.heap (ZDv f) (ZBy hb)).trans hu) ⟨_,q⟩ ?_;exact⟨hz,its',_,hv,q⟩
theorem Inv.lnew(I:Inv X pins σ H s)(hv:Vals ys its)(hz:ys.length<=sizeLine) :
  Inv X pins σ (upd H s.heap.objs.size (.lst ys)) { s with heap:=s.heap.push { cls:=.type "list",data:=.seq its.toArray },toks:=t' } :=
 I.laid (λ_ _ q=>ZAs _ q) (ZAz _) ⟨hz,its,0,hv,ZAH _ rfl⟩
theorem Inv.fresh(I:Inv X pins σ H s):H s.heap.objs.size=Z_:=I.hok.fresh (ZAz _)
theorem Inv.lstM(I:Inv X pins σ H s)(hH:H l=Z (.lst xs)):xs.length<=sizeLine/\∃(its:List Value) (n:Nat),Vals xs its/\xs.length=its.length/\s.heap.get? l=Z { cls:=.type "list",data:=.seq its.toArray n }:=by obtain⟨z,its,n,r,e⟩:=I.hok l _ hH;exact⟨z,its,n,r,r.length,e⟩
theorem Zp6(h:n<=sizeLine):ZCN n=ZFu:=by unfold ZCN;exact decide_eq_false (by omega)
end
section
variable{X:Cx}
def ZrH:V->List V->Hp->VK->Prop:=λx vs H Q=>∃l xs y,x=.ref l/\vs=[y]/\H l=Z (.lst xs)/\xs.length<sizeLine/\Q .non (upd H l (.lst (xs++[y])))
theorem Zhl:MtM X "list.append" ZrH:=by intro pins s σ H x vs v us Q I rx rv h;obtain⟨l,xs,y,rfl,rfl,hH,hz,q⟩:=h;cases rx;obtain⟨u,rfl,ru⟩:=rv.one;obtain⟨z,its,n,r,hl,e⟩:=I.lstM hH;refine ZEv F.slot_list_append ⟨_,e,rfl⟩ F.entry_list_append (F.args_list_append_2 _ _) (PySem.list_append l its.toArray n u (by rw[ZAJ]; omega)) ⟨e,?_⟩;refine⟨.non,_,I.lset (its':=its++[u]) hH e (by simp) (r.append (.cons ru .nil)) ?_,rfl,q⟩;rw[ZAE,ZB0];omega
def Zwz:V->List V->Hp->VK->Prop:=λx vs H Q=>∃l b xs zs,x=.ref l/\vs=[.ref b]/\H l=Z (.lst xs)/\H b=Z (.lst zs)/\xs.length+zs.length<=sizeLine/\Q .non (upd H l (.lst (xs++zs)))
theorem Ztj:MtM X "list.extend" Zwz:=by
 intro pins s σ H x vs v us Q I rx rv h;obtain⟨l,b,xs,zs,rfl,rfl,hH,hB,hz,q⟩:=h;cases rx;obtain⟨u,rfl,ru⟩:=rv.one;cases ru;obtain⟨z,its,n,r,hl,e⟩:=I.lstM hH;obtain⟨z2,its2,n2,r2,hl2,e2⟩:=I.lstM hB;have hsz:its.toArray.size+its2.toArray.size<=sizeLine:=by rw[ZAJ,ZAJ]; omega
 have hlong:¬(!its.toArray.isEmpty&&ZCN (its.toArray.size+its2.toArray.size))=ZFt:=by rw[Zp6 hsz,Bool.and_false];exact ZBd
 refine ZEv F.slot_list_extend ⟨_,e,rfl⟩ F.entry_list_extend (F.args_list_extend_2 _ _)
  (AutoSeq1.list_extend_list_list_0 l its.toArray n b its2.toArray n2 hlong (by rw[ZAJ]; omega) (by omega)) ⟨e,e2,?_⟩
 refine⟨.non,_,I.lset (its':=its++its2) hH e (by simp) (r.append r2) ?_,rfl,q⟩;rw[ZAE];omega
def Zzz:V->List V->Hp->VK->Prop:=λx vs H Q=>∃l xs y,x=.ref l/\vs=[]/\H l=Z (.lst xs)/\xs[xs.length-1]?=Z y/\Q y (upd H l (.lst xs.dropLast))
theorem ZxQ:MtM X "list.pop" Zzz:=by
 intro pins s σ H x vs v us Q I rx rv h;obtain⟨l,xs,y,rfl,rfl,hH,hy,q⟩:=h;cases rx;have hus:=rv.zero;subst hus;obtain⟨z,its,n,r,hl,e⟩:=I.lstM hH;obtain⟨u,hu,ru⟩:=r.get hy;have hy':its.toArray[its.toArray.size-1]?=Z u:=by show its.toArray[its.length-1]?=Z u;rw[<-ZBo,<-hl];exact hu
 refine ZEv F.slot_list_pop ⟨_,e,rfl⟩ F.entry_list_pop (F.args_list_pop_1 _) (MeetsSeq.list_pop_last l its.toArray n u hy' (by rw[ZAJ]; omega)) ⟨e,?_⟩;refine⟨y,_,I.lset (its':=its.dropLast) hH e ?_ r.dropLast ?_,ru,q⟩
 ·show its.toArray.eraseIdxIfInBounds (its.toArray.size-1)=its.dropLast.toArray
  rw[ZAJ,List.eraseIdxIfInBounds_toArray,Zsv]
 ·rw[List.length_dropLast]
  omega
def ZzG:R2:=λx y H Q=>∃l b xs zs,x=.ref l/\y=.ref b/\H l=Z (.lst xs)/\H b=Z (.lst zs)/\xs.length+zs.length<=sizeLine/\∀p,H p=Z_->Q (.ref p) (upd H p (.lst (xs++zs)))
theorem Zxo:OpR X (ZDn .Add) ZzG:=by
 intro pins s σ H x y v u Q I rx ry h;obtain⟨l,b,xs,zs,rfl,rfl,hH,hB,hz,q⟩:=h;cases rx;cases ry;obtain⟨z,its,n,r,hl,e⟩:=I.lstM hH;obtain⟨z2,its2,n2,r2,hl2,e2⟩:=I.lstM hB;refine PySem.P.add_list e e2 ?_ (by rw[ZAJ,ZAJ]; omega);have ea:its.toArray++its2.toArray=(its++its2).toArray:=by simp
 rw[ea];exact⟨.ref _,_,I.lnew (t':=s.toks) (r.append r2) (by rw[ZAE]; omega),rfl,q _ I.fresh⟩
def ZzO:R2:=λx y H Q=>∃l k xs,x=.ref l/\y=.int k/\H l=Z (.lst xs)/\-(2 ^ 63)<=k/\k<2 ^ 63/\xs.length*k.toNat<=sizeLine /\
 ∀p,H p=Z_->Q (.ref p) (upd H p (.lst (ZA0 k.toNat xs).flatten))
theorem len_rep{α:Type}(xs:List α)(k:Nat):(ZA0 k xs).flatten.length=k*xs.length:=by
 induction k with
 | zero=>simp
 | succ k ih=>rw[ZB8,ZCH,ZAE,ih,Nat.succ_mul,Nat.add_comm]
theorem ZyD:OpR X (ZDn .Mult) ZzO:=by
 intro pins s σ H x y v u Q I rx ry h;obtain⟨l,k,xs,rfl,rfl,hH,h1,h2,hz,q⟩:=h;cases rx;obtain⟨t,rfl⟩:=ry;obtain⟨z,its,n,r,hl,e⟩:=I.lstM hH;have hlen:its.toArray.size*k.toNat<=sizeLine:=by rw[ZAJ,<-hl]; exact hz
 have hcap:¬its.toArray.size*k.toNat > (2 ^ 63-1) / 8:=by
  have:(sizeLine:Nat)<=(2 ^ 63-1) / 8:=by decide
  omega
 have hfit:¬(!Builtin.List.listFitsIndex k)=ZFt:=by rw[fitsIndex_both h1 h2];exact ZBd
 have hlong:¬ZCN (its.toArray.size*k.toNat)=ZFt:=by rw[Zp6 hlen];exact ZBd
 have hnew:List.foldl (λx1 x2=>x1++x2) #[] (ZA0 (if its.toArray.isEmpty=ZFt then 0 else k.toNat) its.toArray)=(ZA0 k.toNat its).flatten.toArray:=by
  have f0:∀m:Nat,List.foldl (λx1 x2=>x1++x2) #[] (ZA0 m its.toArray)=(ZA0 m its).flatten.toArray:=λm=>by have:=foldl_rep its m [];rw[ZCB]at this;exact this
  rw[f0];cases its with
  | nil=>simp
  | cons a r'=>rw[if_neg (by simp)]
 refine wpAny_binaryOp_repeat_ref (T:="list") (U:="int") (by decide) ⟨_,e,rfl⟩ (λs'=>typeIs_int s' k t) noFill_list_mul F.fills_int_mul F.slot_int_rmul repeat_list F.slot_int_index.lookup
  (ZEv F.slot_int_rmul (typeIs_int s k t) F.entry_int_rmul (F.args_int_rmul_2 _ _) (int___rmul___int_list k t l its.toArray n)
   ⟨e,rfl,⟨_,e,rfl⟩,ZEv F.slot_list_mul ⟨_,e,rfl⟩ F.entry_list_mul (F.args_list_mul_2 _ _) (AutoListH.list___mul___list_int_3 l its.toArray n k t hfit hcap hlong) ⟨e,?_⟩⟩)
 rw[hnew];exact⟨.ref _,_,I.lnew (t':=s.toks) (r.rep k.toNat) (by rw[len_rep,Nat.mul_comm]; exact hz),rfl,q _ I.fresh⟩
end
end L2
namespace L2
open PySem PySem.Spec PyProof.Rows
variable{a b:Addr}{X:Cx}{h':Heap}{H H':Hp}{pins:List (Addr × Obj)}{xs:List (List Key × Addr × Value)}{kvs:List (List Key × V)}{o:Option V}{pos:Pos}{P:Program}{s:Shared}{σ:St}{y:V}{u:Value}{Q:Value->Shared->Prop}{w:World}
section
variable{κ:Type}[DecidableEq κ]
def Za3(kvs:List (κ × V))(k:κ):Option V:=(kvs.find? λkv=>decide (kv.1=k)).map (·.2)
def putK(kvs:List (κ × V))(k:κ)(v:V):List (κ × V) :=
 if(kvs.any λkv=>decide (kv.1=k))=ZFt then kvs.map (λkv=>if kv.1=k then(kv.1,v)else kv)else kvs++[(k,v)]
theorem ZeB{p:κ × V}{r:List (κ × V)}{k:κ}(e:p.1=k):Za3 (p::r) k=Z p.2:=by simp[Za3,ZBv,e]
theorem Zev{p:κ × V}{r:List (κ × V)}{k:κ}(e:¬p.1=k):Za3 (p::r) k=Za3 r k:=by simp[Za3,ZBv,e]
theorem Zi5(k:κ):∀kvs:List (κ × V),(kvs.any λkv=>decide (kv.1=k))=(Za3 kvs k).isSome
 | []=>rfl
 | p::r=>by
  rw[ZCd]
  by_cases e:p.1=k
  ·simp only[ZeB e,decide_eq_true e,Bool.true_or,Option.isSome_some]
  ·rw[Zev e,decide_eq_false e,Bool.false_or]; exact Zi5 k r
theorem ZhR(kvs:List (κ × V))(k:κ)(v:V):(putK kvs k v).length<=kvs.length+1:=by
 unfold putK;split
 ·rw[ZAl]; omega
 ·rw[ZAE,ZAB,ZEQ]; omega
theorem Zgj.isSome_eq{u:Option Value}(r:Zgj o u):o.isSome=u.isSome:=by
 cases o with
 | none=>cases u with
  | none=>rfl
  | some _=>exact(show False from r).elim
 | some _=>cases u with
  | none=>exact(show False from r).elim
  | some _=>rfl
theorem Zgj.getD{o:Option V}{u:Option Value}{d:V}{d':Value}(r:Zgj o u)(rd:RelV d d'):RelV (o.getD d) (u.getD d'):=by
 cases o with
 | none=>cases u with
  | none=>exact rd
  | some _=>exact(show False from r).elim
 | some _=>cases u with
  | none=>exact(show False from r).elim
  | some _=>exact r
theorem KV.val{kvs:List (κ × V)}{vs:List (κ × Value)}(r:KV kvs vs)(k:κ):Zgj (Za3 kvs k) (valueAt vs k):=by
 unfold KV at r
 induction r with
 | nil=>exact ZDw
 | @cons p q ps qs h t ih =>
  obtain⟨h1,h2⟩:=h
  by_cases e:p.1=k
  ·have e':q.1=k:=h1.symm.trans e
   have b:valueAt (q::qs) k=Z q.2:=by simp[valueAt,ZBv,e']
   rw[ZeB e,b]; exact h2
  ·have e':¬q.1=k:=λz=>e (h1.trans z)
   have b:valueAt (q::qs) k=valueAt qs k:=by simp[valueAt,ZBv,e']
   rw[Zev e,b]; exact ih
theorem KV.any{kvs:List (κ × V)}{vs:List (κ × Value)}(r:KV kvs vs)(k:κ):(kvs.any λkv=>decide (kv.1=k))=vs.any λkv=>decide (kv.1=k):=by
 unfold KV at r
 induction r with
 | nil=>rfl
 | cons h t ih=>rw[ZCd,ZCd,ih,h.1]
theorem KV.repl{kvs:List (κ × V)}{vs:List (κ × Value)}(r:KV kvs vs)(k:κ)(ry:RelV y u) :
  KV (kvs.map λkv=>if kv.1=k then(kv.1,y)else kv) (vs.map λkv=>if kv.1=k then(kv.1,u)else kv):=by
 unfold KV at r ⊢
 induction r with
 | nil=>exact .nil
 | @cons p q ps qs h t ih =>
  rw[ZAt,ZAt];refine .cons ?_ ih;obtain⟨h1,h2⟩:=h
  by_cases e:p.1=k
  ·rw[if_pos e,if_pos (h1.symm.trans e)]; exact⟨h1,ry⟩
  ·rw[if_neg e,if_neg (λz=>e (h1.trans z))]; exact⟨h1,h2⟩
theorem KV.put{kvs:List (κ × V)}{vs:List (κ × Value)}(r:KV kvs vs)(k:κ)(ry:RelV y u):KV (putK kvs k y) (stored vs k u):=by
 unfold putK stored;rw[r.any k]
 by_cases e:(vs.any λkv=>decide (kv.1=k))=ZFt
 ·rw[if_pos e,if_pos e]; exact r.repl k ry
 ·rw[if_neg e,if_neg e]; exact Paired.snoc r ⟨rfl,ry⟩
theorem KV.length{kvs:List (κ × V)}{vs:List (κ × Value)}(r:KV kvs vs):kvs.length=vs.length:=ZCX r
end
theorem Zi8{k:Key}(r:RelV (kV k) u):(ZaB P w).is k u=ZFt:=by
 cases k with
 | inl i=>obtain⟨t,e⟩:=(show ∃t,u=ZCg i t from r); subst e; exact Zrg P w i t
 | inr x=>obtain⟨t,e⟩:=(show ∃t,u=Value.str x t from r); subst e; exact ZqZ P w x t
theorem Znd{P:Program}{w:World}:∀{ks:List Key} {us:List Value},Vals (ks.map kV) us->ItemsAre (ZaB P w) ks us
 | [],_,r=>by rw[ZCl]at r; cases r; exact .nil
 | k::ks,_,r=>by
  rw[ZAt]at r;cases r with
  | cons h t=>exact .cons (Zi8 h) (Znd t)
abbrev KT(H:Hp):List (List Key × V)->List (List Key × Addr × Value)->Prop:=Paired λp q=>p.1=q.1/\H q.2.1=Z (.tup (p.1.map kV))/\RelV p.2 q.2.2
theorem KT.val(r:KT H kvs xs)(k:List Key):Zgj (Za3 kvs k) ((atKey xs k).map (·.2)):=by
 induction r with
 | nil=>exact ZDw
 | @cons p q ps qs h t ih =>
  obtain⟨h1,_,h2⟩:=h
  by_cases e:p.1=k
  ·have e':q.1=k:=h1.symm.trans e
   have b:atKey (q::qs) k=Z q.2:=by simp[atKey,ZBv,e']
   rw[ZeB e,b]; exact h2
  ·have e':¬q.1=k:=λz=>e (h1.trans z)
   have b:atKey (q::qs) k=atKey qs k:=by simp[atKey,ZBv,e']
   rw[Zev e,b]; exact ih
theorem KT.repl(r:KT H kvs xs)(k:List Key)(ry:RelV y u) :
  KT H (kvs.map λkv=>if kv.1=k then(kv.1,y)else kv) (xs.map (putAt k u)):=by
 induction r with
 | nil=>exact .nil
 | @cons p q ps qs h t ih =>
  rw[ZAt,ZAt];refine .cons ?_ ih;obtain⟨h1,h2,h3⟩:=h;unfold putAt
  by_cases e:p.1=k
  ·rw[if_pos e,if_pos (h1.symm.trans e)]; exact⟨h1,h2,ry⟩
  ·rw[if_neg e,if_neg (λz=>e (h1.trans z))]; exact⟨h1,h2,h3⟩
theorem KT.put(r:KT H kvs xs)(k:List Key)(hb:H b=Z (.tup (k.map kV)))(ry:RelV y u) :
  KT H (putK kvs k y) (storedH xs k b u):=by
 have e:(kvs.any λkv=>decide (kv.1=k))=(atKey xs k).isSome:=by rw[Zi5,(r.val k).isSome_eq,ZB6]
 unfold putK storedH;rw[e]
 by_cases q:(atKey xs k).isSome=ZFt
 ·rw[if_pos q,if_pos q]; exact r.repl k ry
 ·rw[if_neg q,if_neg q]; exact Paired.snoc r ⟨rfl,hb,ry⟩
theorem KT.keeps(r:KT H kvs xs)(ht:∀b ys,H b=Z (.tup ys)->H' b=Z (.tup ys)):KT H' kvs xs :=
 Paired.mapP r λ_ _ z=>⟨z.1,ht _ _ z.2.1,z.2.2⟩
section
variable{P:Program}{w:World}{H:Hp}{h:Heap}{a:Addr}
theorem Zl7{u:HO}(ok:HOk P w H h)(e:Rd H a u):Zai P w H h a u:=e.ok ok
theorem Zhn{kvs:List (Key × V)}(ok:HOk P w H h)(e:Rd H a (.dK kvs)):kvs.length<=sizeLine/\(a==ZBY)=ZFu/\∃vs,KV kvs vs/\h.DictOf (ZaB P w) a vs :=
 show Zai P w H h a (.dK kvs) from Zl7 ok e
theorem Zr7{kvs:List (Key × V)}(ok:HOk P w H h)(e:H a=Z (.dK kvs)):kvs.length<=sizeLine/\(a==ZBY)=ZFu/\∃vs,KV kvs vs/\h.DictOf (ZaB P w) a vs:=Zhn ok (.inl e)
theorem Zhd{ks:List Key}(ok:HOk P w H h)(e:H a=Z (.tup (ks.map kV))):(ZDl (ZaB P w)).is h ks a:=by obtain⟨_,its,r,o,h1,h2,n,h3⟩:=(show Zai P w H h a (.tup (ks.map kV)) from ok a _ e);exact⟨o,its.toArray,n,h1,h2,h3,by simpa using Znd r⟩
theorem ZiR(ok:HOk P w H h)(e:Rd H a (.dT kvs)):kvs.length<=sizeLine/\(a==ZBY)=ZFu /\
  ∃xs,KT H kvs xs/\h.DictOfH (ZDl (ZaB P w)) a xs:=by
 obtain⟨z,y,xs,r,o,es,ep,h1,h2,h3,h4,h5⟩:=(show Zai P w H h a (.dT kvs) from Zl7 ok e);refine⟨z,y,xs,r,o,es,ep,h1,h2,h3,h4,λx hx=>?_,h5⟩;have all:∀{l:List (List Key × V)} {m:List (List Key × Addr × Value)},KT H l m->∀x∈m,(ZDl (ZaB P w)).is h x.1 x.2.1:=by
  intro l m q
  induction q with
  | nil=>intro x hx; exact nomatch hx
  | @cons p q ps qs hq t ih =>
   intro x hx;rcases ZAy.mp hx with e | hx
   ·subst e
    exact Zhd ok (by rw[<-hq.1]; exact hq.2.1)
   ·exact ih x hx
 exact all r x hx
theorem ZvT(ok:HOk P w H h)(e:H a=Z (.dT kvs)):kvs.length<=sizeLine/\(a==ZBY)=ZFu /\
  ∃xs,KT H kvs xs/\h.DictOfH (ZDl (ZaB P w)) a xs:=ZiR ok (.inl e)
end
def Zcc(H:Hp)(a:Addr)(y:V)(r:Option V):Prop :=
 (∃kvs k,Rd H a (.dK kvs)/\y=kV k/\r=Za3 kvs k)\/∃kvs k b,Rd H a (.dT kvs)/\y=.ref b/\H b=Z (.tup (k.map kV))/\r=Za3 kvs k
def ZiS(H:Hp)(a:Addr)(y v:V)(H':Hp):Prop :=
 (∃kvs k,H a=Z (.dK kvs)/\y=kV k/\kvs.length<sizeLine/\H'=upd H a (.dK (putK kvs k v))) \/
 ∃kvs k b,H a=Z (.dT kvs)/\y=.ref b/\H b=Z (.tup (k.map kV))/\kvs.length<sizeLine/\H'=upd H a (.dT (putK kvs k v))
theorem Zcc.k{H:Hp}{a:Addr}{kvs:List (Key × V)}{k:Key}(e:H a=Z (.dK kvs)):Zcc H a (kV k) (Za3 kvs k):=.inl ⟨kvs,k,.inl e,rfl,rfl⟩
theorem Zcc.t{k:List Key}(e:H a=Z (.dT kvs))(eb:H b=Z (.tup (k.map kV))):Zcc H a (.ref b) (Za3 kvs k):=.inr ⟨kvs,k,b,.inl e,rfl,eb,rfl⟩
theorem ZiS.k{H:Hp}{a:Addr}{kvs:List (Key × V)}{k:Key}{v:V}(e:H a=Z (.dK kvs))(hl:kvs.length<sizeLine):ZiS H a (kV k) v (upd H a (.dK (putK kvs k v))):=.inl ⟨kvs,k,e,rfl,hl,rfl⟩
theorem ZiS.t{k:List Key}{v:V}(e:H a=Z (.dT kvs))(eb:H b=Z (.tup (k.map kV)))(hl:kvs.length<sizeLine) :
  ZiS H a (.ref b) v (upd H a (.dT (putK kvs k v))):=.inr ⟨kvs,k,b,e,rfl,eb,hl,rfl⟩
section
variable{X:Cx}{pins:List (Addr × Obj)}{σ:St}{H:Hp}{s:Shared}{a:Addr}{y v:V}{u r:Value}{o:Option V}{A:Around}{E:Value->Shared->Prop}
theorem Inv.big(I:Inv X pins σ H s):ZBY<s.heap.objs.size:=by have h:ZA7<s.heap.objs.size:=(I.mod.glob.keeps I.bk).lt;exact ZCm (by decide) h
theorem Ztp(hu:A.units+1<cLine)(I:Inv X pins σ H s)(g:Zcc H a y (Z v))(ry:RelV y u)(h:∀w' s',Inv X pins σ H s'->RelV v w'->Q w' s') :
  wpAny (model X.prog X.w) A (getItem (.ref a) u) Q E s:=by
 rcases g with⟨kvs,k,e,ey,l⟩ | ⟨kvs,k,b,e,ey,eb,l⟩
 ·subst ey
  obtain⟨z,hd,vs,rel,dd⟩:=Zhn I.hok e;obtain⟨w',hw,rw'⟩:=Zgj.some_of (v:=v) (o:=valueAt vs k) (by rw[l]; exact rel.val k);exact wpAny_getItem_of (Zi8 ry) dd.mapOf hw (h w' _ (I.tok _) rw')
 ·subst ey
  cases(show u=ZBh b from ry);obtain⟨z,hd,xs,rel,dd⟩:=ZiR I.hok e;obtain⟨w',hw,rw'⟩:=Zgj.some_of (v:=v) (o:=(atKey xs k).map (·.2)) (by rw[l]; exact rel.val k);obtain⟨p,hp,hp2⟩:=ZAn.mp hw;refine wpAny_getItem_heap (ZCz hu) (Zhd I.hok eb) dd hp ?_;rw[hp2];exact h w' _ (I.tok _) rw'
theorem Zzy(hu:A.units+1<cLine)(I:Inv X pins σ H s)(g:Zcc H a y o)(ry:RelV y u)(h:∀s',Inv X pins σ H s'->Q (.bool o.isSome) s') :
  wpAny (model X.prog X.w) A (ZBw .In u (.ref a)) Q E s:=by
 rcases g with⟨kvs,k,e,ey,l⟩ | ⟨kvs,k,b,e,ey,eb,l⟩
 ·subst ey
  obtain⟨z,hd,vs,rel,dd⟩:=Zhn I.hok e;refine wpAny_in_of (Zi8 ry) hd dd.mapOf ?_;rw[<-(rel.val k).isSome_eq,<-l];exact h _ (I.tok _)
 ·subst ey
  cases(show u=ZBh b from ry);obtain⟨z,hd,xs,rel,dd⟩:=ZiR I.hok e;refine wpAny_in_heap (ZCz hu) (Zhd I.hok eb) hd dd ?_;have q:=(rel.val k).isSome_eq;rw[ZB6]at q;rw[<-q,<-l];exact h _ (I.tok _)
theorem Zwe(hu:A.units+1<cLine)(I:Inv X pins σ H s)(g:Zcc H a y o)(ry:RelV y u)(h:∀s',Inv X pins σ H s'->Q (.bool (!o.isSome)) s') :
  wpAny (model X.prog X.w) A (ZBw .NotIn u (.ref a)) Q E s:=by
 rcases g with⟨kvs,k,e,ey,l⟩ | ⟨kvs,k,b,e,ey,eb,l⟩
 ·subst ey
  obtain⟨z,hd,vs,rel,dd⟩:=Zhn I.hok e;refine wpAny_notIn_of (Zi8 ry) hd dd.mapOf ?_;rw[<-(rel.val k).isSome_eq,<-l];exact h _ (I.tok _)
 ·subst ey
  cases(show u=ZBh b from ry);obtain⟨z,hd,xs,rel,dd⟩:=ZiR I.hok e;refine wpAny_notIn_heap (ZCz hu) (Zhd I.hok eb) hd dd ?_;have q:=(rel.val k).isSome_eq;rw[ZB6]at q;rw[<-q,<-l];exact h _ (I.tok _)
theorem Zkk{t':Nat}{ob:HO}(I:Inv X pins σ H s)(mu:Mut (H a))(hs:ZB9 a s.heap h')(he:∃q,h'.get? a=Z q)(new:Zai X.prog X.w (upd H a ob) h' a ob) :
  Inv X pins σ (upd H a ob) { s with heap:=h',toks:=t' } :=
 I.write (x:=a) (e:=a) mu (.inl rfl) (λb q hb z=>(hs.2 b hb).trans z) he new
theorem Zug{kvs:List (Key × V)}{vs:List (Key × Value)}(z:kvs.length<=sizeLine)(hd:(a==ZBY)=ZFu)(rel:KV kvs vs)(dd:h'.DictOf (ZaB P w) a vs) :
  Zai P w H' h' a (.dK kvs):=⟨z,hd,vs,rel,dd⟩
theorem Ztd{Q:Unit->Shared->Prop}(hu:A.units+1<cLine)(I:Inv X pins σ H s)(g:ZiS H a y v H')(ry:RelV y u)(rv:RelV v r)(h:∀s',Inv X pins σ H' s'->Q () s') :
  wpAny (model X.prog X.w) A (setItem (.ref a) u r) Q E s:=by
 rcases g with⟨kvs,k,e,ey,l,eH⟩ | ⟨kvs,k,b,e,ey,eb,l,eH⟩
 ·subst ey eH
  obtain⟨z,hd,vs,rel,dd⟩:=Zr7 I.hok e;have hz:vs.length<=sizeLine:=by rw[<-rel.length]; exact z
  have hl:(putK kvs k v).length<=sizeLine:=by have:=ZhR kvs k v; omega
  refine wpAny_setItem_pairs (hsz:=hz) (Zi8 ry) dd λh' dd' hs=>h _ ?_;have he:∃q,h'.get? a=Z q:=let ⟨q,_,_,hq,_⟩:=dd'; ⟨q,hq⟩
  exact Zkk I (by rw[e]; exact ZDw) hs he (Zug hl hd (rel.put k rv) dd')
 ·subst ey eH
  cases(show u=ZBh b from ry);obtain⟨z,hd,xs,rel,dd⟩:=ZvT I.hok e;have hz:xs.length<=sizeLine:=by rw[<-ZCX rel]; exact z
  have hl:(putK kvs k v).length<=sizeLine:=by have:=ZhR kvs k v; omega
  refine wpAny_setItem_heap (hsz:=hz) (ZCz hu) (Zhd I.hok eb) dd λh' dd' hs=>h _ ?_;obtain⟨q,es,ep,hq,h2,h3,h4,_,h5⟩:=dd';refine Zkk I (by rw[e]; exact ZDw) hs ⟨q,hq⟩ ⟨hl,hd,_,(rel.put k eb rv).keeps λc ys ec=>?_,q,es,ep,hq,h2,h3,h4,h5⟩;rw[ZB (ZvV ec e (λz=>nomatch z))];exact ec
end
section
variable{X:Cx}{pins:List (Addr × Obj)}{σ:St}{H:Hp}{s:Shared}{a:Addr}{kvs:List (Key × V)}{k:Key}{u:Value}{A:Around}{E:Value->Shared->Prop}
theorem ZyN(I:Inv X pins σ H s)(e:Rd H a (.dK kvs))(h:∀t s',Inv X pins σ H s'->Q (.int kvs.length t) s'):wpAny (model X.prog X.w) A (call (.builtin "len") [.ref a]) Q E s:=by obtain⟨z,hd,vs,rel,dd⟩:=Zhn I.hok e;refine call_len_dict hd dd (by rw[<-rel.length]; rw[ZBR]at z; omega) ?_;rw[<-rel.length];exact h _ _ (I.tok _)
end
def ZpB(i:Expr):Prop:=∀ov iv,ZEZ i ZFu ov iv=operate [ov,iv] (getItem ov iv)
theorem Zwc{prog:Program}{A:Around}{E:Value->Shared->Prop}{env:Env}{value slice:Expr}{T id:String}
  (hl:typeLookup (.type T) "__getitem__" = pure (Z (.builtin id))) (hs:ZpB slice)
  (h:wpAny (model prog w) A (eval value env) (λo s₁=>wpAny (model prog w) A (eval slice env) (λi s₂=>s₂.TypeIs o T/\wpAny (model prog w) A (getItem o i) Q E s₂) E s₁) E s) :
  wpAny (model prog w) A (eval (.Subscript value slice pos) env) Q E s:=by
 refine Subscript_ (ZBM h (λo s₁ h₁=>ZBM h₁ (λi s₂ h₂=>?_) λ_ _ x=>x) λ_ _ x=>x);obtain⟨hT,h₂⟩:=h₂;unfold subscriptTail;refine ZAm ?_;rw[getitemInPython_of_ne hT.not_modules];refine ZAm (wpAny_specialOf hT hl ?_);have fin:wpAny (model prog w) A (ZEZ slice ZFu o i) (λr s₃=>wpAny (model prog w) A (letTemporaryGo value o r >>= λ_=>pure r) Q E s₃) E s₂:=by rw[hs o i];exact wpAny_operating (ZBM h₂ (λr s₃ h₃=>ZAm (wpAny_letTemporaryGo (ZAr h₃))) λ_ _ x=>x)
 first
  | exact ZAr (ZAm fin)
  | exact ZAm (ZAr (ZAm fin))
  | exact ZAm fin
theorem Zq5(I:Inv X pins σ H s)(g:Zcc H a y o):s.TypeIs (.ref a) "dict":=by
 rcases g with⟨kvs,k,e,_,_⟩ | ⟨kvs,k,b,e,_,_,_⟩
 ·obtain⟨_,_,vs,_,dd⟩:=Zhn I.hok e
  exact dd.typeIs
 ·obtain⟨_,_,xs,_,dd⟩:=ZiR I.hok e
  exact dd.typeIs
def Zzf(td ty:TE):TE:=λσ H Q=>td σ H λx H1=>ty σ H1 λy H2=>∃a v,x=.ref a/\Zcc H2 a y (Z v)/\Q v H2
def Zz0(ty td:TE):TE:=λσ H Q=>ty σ H λy H1=>td σ H1 λx H2=>∃a o,x=.ref a/\Zcc H2 a y o/\Q (.bl o.isSome) H2
def ZwY(ty td:TE):TE:=λσ H Q=>ty σ H λy H1=>td σ H1 λx H2=>∃a o,x=.ref a/\Zcc H2 a y o/\Q (.bl (!o.isSome)) H2
def ZyL(td ty tv:TE):TS:=λD σ H=>tv σ H λv H1=>td σ H1 λx H2=>ty σ H2 λy H3=>∃a H4,x=.ref a/\ZiS H3 a y v H4/\D.nx σ H4
section
variable{X:Cx}{o i e value:Expr}{pos pos' tpos:Pos}{td ty tv:TE}
theorem Zmt(hu:X.A.units+1<cLine)(ho:PE X o td)(hi:PE X i ty)(hs:ZpB i):PE X (.Subscript o i pos) (Zzf td ty):=by intro pins s σ H Q I h;refine Zwc PySem.F.slot_dict_getitem.lookup hs (thn (ho pins s σ H _ I h) λu s1 ⟨x,H1,I1,rx,q1⟩=>thn (hi pins s1 σ H1 _ I1 q1) λiv s2 ⟨y,H2,I2,ry,a,v,ex,g,q2⟩=>?_);subst ex;obtain rfl:u=ZBh a:=rx;exact⟨Zq5 I2 g,Ztp hu I2 g ry λw' s3 I3 rw'=>⟨v,H2,I3,rw',q2⟩⟩
theorem ZxO(hu:X.A.units+1<cLine)(hi:PE X i ty)(ho:PE X o td):PC X .In i o (Zz0 ty td):=by intro pins s σ H Q I h;refine thn (hi pins s σ H _ I h) λiv s1 ⟨y,H1,I1,ry,q1⟩=>thn (ho pins s1 σ H1 _ I1 q1) λu s2 ⟨x,H2,I2,rx,a,ov,ex,g,q2⟩=>?_;subst ex;obtain rfl:u=ZBh a:=rx;exact Zzy hu I2 g ry λs3 I3=>⟨.bl ov.isSome,H2,I3,rfl,q2⟩
theorem Znb(hu:X.A.units+1<cLine)(hi:PE X i ty)(ho:PE X o td):PC X .NotIn i o (ZwY ty td):=by intro pins s σ H Q I h;refine thn (hi pins s σ H _ I h) λiv s1 ⟨y,H1,I1,ry,q1⟩=>thn (ho pins s1 σ H1 _ I1 q1) λu s2 ⟨x,H2,I2,rx,a,ov,ex,g,q2⟩=>?_;subst ex;obtain rfl:u=ZBh a:=rx;exact Zwe hu I2 g ry λs3 I3=>⟨.bl (!ov.isSome),H2,I3,rfl,q2⟩
theorem Zms(hu:X.A.units+1<cLine)(ho:PE X o td)(hi:PE X i ty)(hv:PE X value tv)(hs:ZCq value (Z (.Subscript o i pos')) pos.line X.env=pure ZFu) :
  PS X (.Assign [.Subscript o i pos'] value pos) (ZyL td ty tv):=by
 intro pins s σ H D I h;refine wpAny_Assign_Subscript (thn (hv pins s σ H _ I h) λr s1 ⟨v,H1,I1,rv,q1⟩=>thn (ho pins s1 σ H1 _ I1 q1) λu s2 ⟨x,H2,I2,rx,q2⟩=>thn (hi pins s2 σ H2 _ I2 q2) λiv s3 ⟨y,H3,I3,ry,a,H4,ex,g,q3⟩=>?_) hs;subst ex;obtain rfl:u=ZBh a:=rx;exact Ztd hu I3 g ry rv λs4 I4=>⟨σ,H4,I4,q3⟩
end
theorem Zpl(h:Heap)(hb:ZBY<h.objs.size):Zai P w H (h.push { cls:=.type "dict",data:=.dict #[] }) h.objs.size (.dK []) :=
 ⟨ZCa _,beq_eq_false_iff_ne.mpr (ZBy (ZAK hb)),[],.nil,Heap.DictOf.new h⟩
theorem Zu6(h:Heap)(hb:ZBY<h.objs.size):Zai P w H (h.push { cls:=.type "dict",data:=.dict #[] }) h.objs.size (.dT []) :=
 ⟨ZCa _,beq_eq_false_iff_ne.mpr (ZBy (ZAK hb)),[],.nil,_,#[],0,ZAH _ rfl,⟨rfl,rfl,rfl⟩,rfl,rfl,ZBU⟩
def Zxs:TE:=λ_ H Q=>∀p,H p=Z_->Q (.ref p) (upd H p (.dK []))
def Zyz:TE:=λ_ H Q=>∀p,H p=Z_->Q (.ref p) (upd H p (.dT []))
section
variable{X:Cx}{pos:Pos}
theorem Zu1:PE X (.Dict [] [] pos) Zxs:=λpins s σ H Q I h=>wpAny_Dict_empty ⟨.ref s.heap.objs.size,_,I.laid (a:=s.heap.objs.size) (o:=.dK []) (t':=s.toks) (λ_ _ q=>ZAs _ q) (ZAz _) (Zpl s.heap I.big),rfl,h _ (I.hok.fresh (ZAz _))⟩
theorem Zqi:PE X (.Dict [] [] pos) Zyz:=λpins s σ H Q I h=>wpAny_Dict_empty ⟨.ref s.heap.objs.size,_,I.laid (a:=s.heap.objs.size) (o:=.dT []) (t':=s.toks) (λ_ _ q=>ZAs _ q) (ZAz _) (Zu6 s.heap I.big),rfl,h _ (I.hok.fresh (ZAz _))⟩
end
def ZpY:List (TE × TE)->St->Hp->(List (V × V)->Hp->Prop)->Prop
 | [],_,H,Q=>Q [] H
 | (tk,tv)::r,σ,H,Q=>tk σ H λx H1=>tv σ H1 λy H2=>ZpY r σ H2 λps H3=>Q ((x,y)::ps) H3
abbrev VV:List (V × V)->List (Value × Value)->Prop:=Paired λp q=>RelV p.1 q.1/\RelV p.2 q.2
def PPs(X:Cx)(pos:Pos)(keys:List (Option Expr))(values:List Expr)(trs:List (TE × TE)):Prop :=
 ∀(pins:List (Addr × Obj)) (s:Shared) (σ:St) (H:Hp) (Q:List (V × V)->Hp->Prop),Inv X pins σ H s->ZpY trs σ H Q ->
  wpAny (model X.prog X.w) X.A (evalPairs (pairTrees keys values X.env pos)) (λvs s'=>∃ps H',Inv X pins σ H' s'/\VV ps vs/\Q ps H') X.xe s
theorem ZwI:PPs X pos [] [] []:=λpins s σ H Q I h=>pairTrees_nil_walk ⟨[],H,I,.nil,h⟩
theorem Zvt{k v:Expr}{ks:List (Option Expr)}{vs:List Expr}{tk tv:TE}{trs:List (TE × TE)}(hk:PE X k tk)(hv:PE X v tv)(hr:PPs X pos ks vs trs) :
  PPs X pos (Z k::ks) (v::vs) ((tk,tv)::trs):=λpins s σ H Q I h =>
 pairTrees_cons_walk (thn (hk pins s σ H _ I h) λu s1 ⟨x,H1,I1,rx,q1⟩=>thn (hv pins s1 σ H1 _ I1 q1) λw2 s2 ⟨y,H2,I2,ry,q2⟩=>thn (hr pins s2 σ H2 _ I2 q2) λws s3 ⟨ps,H3,I3,rel,q3⟩=>⟨(x,y)::ps,H3,I3,.cons ⟨rx,ry⟩ rel,q3⟩)
def Zij(kvs more:List (Key × V)):List (Key × V):=more.foldl (λacc kv=>putK acc kv.1 kv.2) kvs
theorem KV.merge:∀{more:List (Key × V)} {rs:List (Key × Value)} {kvs:List (Key × V)} {vs:List (Key × Value)},KV more rs->KV kvs vs->KV (Zij kvs more) (merged vs rs):=by
 intro more rs kvs vs r;unfold KV at r
 induction r generalizing kvs vs with
 | nil=>intro q; exact q
 | @cons p q ps qs h t ih =>
  intro r0;have e:KV (putK kvs p.1 p.2) (stored vs q.1 q.2):=by have:=r0.put p.1 h.2;rw[<-h.1]; exact this
  exact ih e
theorem Zjj:∀(more kvs:List (Key × V)),(Zij kvs more).length<=kvs.length+more.length
 | [],kvs=>by show kvs.length<=kvs.length+0; omega
 | p::r,kvs=>by have h1:=Zjj r (putK kvs p.1 p.2);have h2:=ZhR kvs p.1 p.2;show(Zij (putK kvs p.1 p.2) r).length<=_;rw[ZAB]; omega
theorem Zl4{P:Program}{w:World}:∀{kvs:List (Key × V)} {ws:List (Value × Value)},VV (kvs.map λkv=>(kV kv.1,kv.2)) ws->∃rs,Carries (ZaB P w) ws rs/\KV kvs rs
 | [],_,r=>by rw[ZCl]at r; cases r; exact⟨[],ZDw,.nil⟩
 | p::kvs,_,r=>by
  rw[ZAt]at r;cases r with
  | @cons a b as bs h t=>obtain⟨rs,c,q⟩:=Zl4 (P:=P) (w:=w) t;obtain⟨b1,b2⟩:=b;exact⟨(p.1,b2)::rs,⟨Zi8 h.1,rfl,c⟩,.cons ⟨rfl,h.2⟩ q⟩
def Zy8(trs:List (TE × TE)):TE:=λσ H Q=>∀p,H p=Z_->ZpY trs σ (upd H p (.dK [])) λps H2=>H2 p=Z (.dK [])/\∃kvs:List (Key × V),ps=kvs.map (λkv=>(kV kv.1,kv.2))/\kvs.length<=15/\Q (.ref p) (upd H2 p (.dK (Zij [] kvs)))
theorem ZwA{keys:List (Option Expr)}{values:List Expr}{trs:List (TE × TE)}(h:PPs X pos keys values trs)(hall:keys.all (·.isSome)=ZFt)(hl:keys.length=values.length)(h0:keys≠[])
  (h15:keys.length<=15):PE X (.Dict keys values pos) (Zy8 trs):=by
 intro pins s σ H Q I q;have hn:=I.hok.fresh (ZAz s.heap.objs.size);have I1:=I.laid (a:=s.heap.objs.size) (o:=.dK []) (h':=s.heap.push { cls:=.type "dict",data:=.dict #[] }) (t':=s.toks) (λ_ _ q=>ZAs _ q) (ZAz _) (Zpl s.heap I.big);refine wpAny_Dict_walk (knd:=ZaB X.prog X.w) hall hl h0 h15 (thn (h pins _ σ _ _ I1 (q _ hn)) λws s2 ⟨ps,H2,I2,rel,e,kvs,ep,lk,q2⟩=>?_);subst ep;obtain⟨rs,c,rk⟩:=Zl4 (P:=X.prog) (w:=X.w) rel;obtain⟨z,hd,vs0,r0,dd⟩:=Zr7 I2.hok e;cases r0;refine⟨rs,c,dd,λh' dd' hs=>⟨.ref s.heap.objs.size,_,?_,rfl,q2⟩⟩;have hz:(Zij [] kvs).length<=sizeLine:=by have h1:=Zjj kvs [];rw[ZEQ]at h1;rw[ZBR]; omega
 have he:∃q,h'.get? s.heap.objs.size=Z q:=let ⟨q,_,_,hq,_⟩:=dd'; ⟨q,hq⟩
 exact Zkk I2 (by rw[e]; exact ZDw) hs he (Zug hz hd (rk.merge .nil) dd')
structure M1(X:Cx)(o:Expr)(m:Str)(apos:Pos)(e:Expr)(cpos:Pos):Prop where
 base:ZCr o m X.env (eval o X.env)=eval o X.env
 few:((backTo cpos (ZAD [e] X.env)).all (λx=>!x.1)&&(ZD8 cpos (ZDh [] X.env)).all (λx=>x.1.isSome)
  && decide (([e]:List Expr).length+([]:List Keyword).length+(if([]:List Keyword).isEmpty then 0 else 1)<30))=ZFt
 line:(apos.endLine==cpos.line)=ZFt
 trees:backTo cpos (ZAD [e] X.env)=[(ZFu,eval e X.env)]
structure M2(X:Cx)(o:Expr)(m:Str)(apos:Pos)(e f:Expr)(cpos:Pos):Prop where
 base:ZCr o m X.env (eval o X.env)=eval o X.env
 few:((backTo cpos (ZAD [e,f] X.env)).all (λx=>!x.1)&&(ZD8 cpos (ZDh [] X.env)).all (λx=>x.1.isSome)
  && decide (([e,f]:List Expr).length+([]:List Keyword).length+(if([]:List Keyword).isEmpty then 0 else 1)<30))=ZFt
 line:(apos.endLine==cpos.line)=ZFt
 trees:backTo cpos (ZAD [e,f] X.env)=[(ZFu,eval e X.env),(ZFu,eval f X.env)]
def IsD(H:Hp)(a:Addr):Prop:=(∃kvs,Rd H a (.dK kvs))\/∃kvs,Rd H a (.dT kvs)
theorem ZtF(I:Inv X pins σ H s)(d:IsD H a) :
  s.TypeIs (.ref a) "dict"/\(∀b,ZBh a=.ref b->∃ob,s.heap.get? b=Z ob/\ob.dict=Z_)/\(a==ZBY)=ZFu:=by
 rcases d with⟨kvs,e⟩ | ⟨kvs,e⟩
 ·obtain⟨_,hd,vs,_,dd⟩:=Zhn I.hok e
  refine⟨dd.typeIs,λb q=>?_,hd⟩;cases q;obtain⟨ob,_,_,h1,h2,_⟩:=dd;exact⟨ob,h1,h2.2.1⟩
 ·obtain⟨_,hd,xs,_,dd⟩:=ZiR I.hok e
  refine⟨dd.typeIs,λb q=>?_,hd⟩;cases q;obtain⟨ob,_,_,h1,h2,_⟩:=dd;exact⟨ob,h1,h2.2.1⟩
section
variable{X:Cx}{pins:List (Addr × Obj)}{σ:St}{H:Hp}{s:Shared}{a:Addr}{y d:V}{u r:Value}{o:Option V}{A:Around}{E:Value->Shared->Prop}
theorem Zyr(hu:A.units+1<cLine)(I:Inv X pins σ H s)(g:Zcc H a y o)(ry:RelV y u)(h:∀w' s',Inv X pins σ H s'->RelV (o.getD .non) w'->Q w' s') :
  wpAny (model X.prog X.w) A (call (.builtin "dict.get") [.ref a,u]) Q E s:=by
 rcases g with⟨kvs,k,e,ey,l⟩ | ⟨kvs,k,b,e,ey,eb,l⟩
 ·subst ey
  obtain⟨z,hd,vs,rel,dd⟩:=Zhn I.hok e;refine call_meetsIn ZDT dd.typeIs ZE0 (ZEL _ _) (meets_dict_get (ZaB X.prog X.w) a (Zi8 ry) hd) ⟨_,dd.mapOf,h _ _ (I.tok _) ?_⟩;rw[l];exact(rel.val k).getD rfl
 ·subst ey
  cases(show u=ZBh b from ry);obtain⟨z,hd,xs,rel,dd⟩:=ZiR I.hok e;refine call_meetsIn ZDT dd.typeIs ZE0 (ZEL _ _) (meetsH_dict_get (ZDl (ZaB X.prog X.w)) a b hd) ⟨ZCz hu,k,xs,Zhd I.hok eb,dd,h _ _ (I.tok _) ?_⟩;rw[l];exact(rel.val k).getD rfl
end
def Zyn(td ty:TE):TE:=λσ H Q=>td σ H λx H1=>∃a,x=.ref a/\IsD H1 a/\ty σ H1 λy H2=>∃o,Zcc H2 a y o/\Q (o.getD .non) H2
section
variable{X:Cx}{o e f:Expr}{apos cpos:Pos}{td ty tx:TE}
theorem ZvA(hu:X.A.units+1<cLine)(ho:PE X o td)(he:PE X e ty)(m:M1 X o "get" apos e cpos):PE X (.Call (.Attribute o "get" apos) [e] [] cpos) (Zyn td ty):=by intro pins s σ H Q I h;refine wpAny_Call_method m.base m.few m.line ZEM ZDT PySem.F.type_dict_get (thn (ho pins s σ H _ I h) λu s1 ⟨x,H1,I1,rx,a,ex,d,q1⟩=>?_);subst ex;obtain rfl:u=ZBh a:=rx;obtain⟨t1,t2,_⟩:=ZtF I1 d;refine⟨t1,t2,?_⟩;rw[m.trees];refine ZC0 rfl (ZDX (ZDo (thn (he pins s1 σ H1 _ I1 q1) λiv s2 ⟨y,H2,I2,ry,ov,g,q2⟩=>ZEq ?_)));exact Zyr hu I2 g ry λw' s3 I3 rw'=>⟨_,H2,I3,rw',q2⟩
end
end L2
namespace Att
open PySem PySem.W PySem.Calls PyProof.Rows
variable{h:Heap}{n:Nat}
theorem Zme{P:Params}:∀(ns:List Int) (vs:List Value),WellAll P h vs (ns.map WData.int)->IntsAre vs ns:=by
 intro ns
 induction ns with
 | nil=>intro vs w;rw[ZCl]at w;cases w;exact .nil
 | cons n ns ih =>
  intro vs w;rw[ZAt]at w;cases w with
  | cons a b=>cases a;exact .cons _ _ (ih _ b)
theorem ZtW{l:OpenLaw}(hn:l.most=Z n){P:Params}{args:List WData}{vals:List Value}
  (hpre:l.row.toRowW.claim.pre args=ZFt) (hwl:WellAll P h vals args) :
  ∃a vs ns,vals=[ZBh a]/\args=[WData.list (ns.map WData.int)]/\h.get? a=Z { cls:=.type "list",data:=.seq vs.toArray }/\IntsAre vs ns/\ns.length<=n:=by
 have hsh:WShape.hasAll [] args [.list .int]=ZFt:=(pre_splitW hpre).1;have hc:l.pre.holds [] { args:=args }=ZFt:=(pre_splitW hpre).2;obtain⟨d,r,rfl,h1,h2⟩:=hasAllW_cons hsh;obtain rfl:=hasAllW_nil h2;obtain⟨xs,rfl,h3⟩:=hasW_list h1;obtain⟨ns,rfl⟩:=items_int h3;have hlen:ns.length<=n:=by
  unfold OpenLaw.pre at hc;have h4:(WTm.not (.lt (.lit (.int (n:Int))) (.len (.arg 0)))).holds [] { args:=[.list (ns.map .int)] }=ZFt:=by have h4:=(holds_andW hc).1;rw[hn]at h4;exact h4
  have h5:=condW_of h4 (w_not (w_lt w_lit (w_len_list (w_arg rfl))));rw[ZAl]at h5;refine ZCO λq=>?_;have q':(n:Int)<((ns.length:Nat):Int):=by omega
  first
   | (rw[decide_eq_true q']at h5; exact absurd h5 (by decide))
   | (simp at h5; omega)
 cases hwl with
 | cons w1 w2 =>
  cases w2;cases w1 with
  | list ho hall=>exact⟨_,_,ns,rfl,rfl,ho,Zme ns _ hall,hlen⟩
theorem Zta(l:OpenLaw)(args:List WData):l.row.toRowW.claim.post args (.bool ZFt) args=ZFt :=
 postW_of (r:=l.row.toRowW) (X:=(ZFt==ZFt))
  (show WShape.has [] (.bool ZFt) .bool=ZFt by first | rfl | decide | simp[WShape.has,WShape.arms,WShape.armsAll])
  (show(WTm.eq .res (.lit (.bool ZFt))).value [] { args:=args,res:=Z (.bool ZFt),after:=args }=Z (.bool (ZFt==ZFt)) from w_eq_bool (w_res rfl) w_lit) rfl
theorem Zq1{l:OpenLaw}{q:Program}{loose:List Str}{XP:(Str->Option Value)->Heap->Prop}{YP:World->Heap->Prop}{d:DefRec}
  (hn:l.most=Z n) (hdf:d.params.defaults=[])
  (call:∀(w:World) (s₀ s₁:Shared) (mg mb:Str->Option Value) (fa:Addr) (o:Obj) (pm cd doc:Value) (a:Addr) (vs:List Value) (ns:List Int),
   Ground q loose [] XP w s₀ mg mb s₁.heap->YP w s₁.heap ->
   s₁.heap.get? fa=Z o->o.data=.func (docDef d.name d.params d.body d.scope pm cd doc)->s₁.heap.CodeRec cd d.name->mg d.name=Z (.ref fa) ->
   s₁.heap.get? a=Z { cls:=.type "list",data:=.seq vs.toArray }->IntsAre vs ns->ns.length<=n->s₁.gens=#[] ->
   codeAny (model l.prog w) callerA (.call (.ref fa) ⟨[.ref a],[]⟩) (λr s'=>r=.ok (.ret (.bool ZFt))/\OldK s₁.heap s'.heap/\s'.os=s₁.os/\AllBare s'.gens) s₁) :
  WalkO q loose XP YP l.row.toRowW d [] (λf vs=>PySem.call f vs):=by
 intro w s₀ s₁ mg mb G Y fa o pm cd doc dV kV ho hd hcd hD hmg hg args vals as hpre hlay hrd hwl hlo;obtain rfl:dV=.none:=Dflts.none hD hdf;obtain rfl:kV=.none:=Dflts.noKw hD;obtain⟨a,vs,ns,rfl,rfl,hobj,hints,hlen⟩:=ZtW hn hpre hwl;refine enter_call (ZCk (call w s₀ s₁ mg mb fa o pm cd doc a vs ns G Y ho (fd_plain hd) hcd hmg hobj hints hlen hg) λr s' hq=>?_);obtain⟨rfl,h2,h3,h4⟩:=hq;exact⟨.inl ⟨.bool ZFt,.bool ZFt,[],rfl,λ_=>rfl,.bool ZFt,Zta l _,λ_=>⟨List.Pairwise.nil,λ_ hm=>(nomatch hm)⟩⟩,h2,h3,h4⟩
end Att
namespace L2
open PySem PySem.Spec PyProof.Rows
theorem Zm4:∀{vs:List Value} {ns:List Int},IntsAre vs ns->Vals (ns.map V.int) vs
 | _,_,.nil=>.nil
 | _,_,.cons n t h=>.cons ⟨t,rfl⟩ (Zm4 h)
end L2
namespace L2
open PySem PySem.Spec PyProof.Rows
end L2
namespace L2
open PySem PySem.Spec PyProof.Rows
variable{f:Addr}{H H':Hp}{A:Prop}{st:Stmt}{qual x:Str}
def Zch(s:Stmt):Arguments:=match s with
 | .FunctionDef _ a _ _ _ _ _ _ _ _=>a
 | _=>{ posonlyargs:=[],args:=[],vararg:=Z_,kwonlyargs:=[],kw_defaults:=[],kwarg:=Z_,defaults:=[] }
def ZaZ(s:Stmt):List Stmt:=match s with
 | .FunctionDef _ _ b _ _ _ _ _ _ _=>b
 | _=>[]
def Zf(s:Stmt):Scope:=match s with
 | .FunctionDef _ _ _ _ _ _ sc _ _ _=>sc
 | _=>{ kind:=.function,names:=[],isGenerator:=ZFu,isCoroutine:=ZFu }
abbrev CX0:CXT:=λ_ _ _ _ _ _=>False
abbrev E0:XK:=λ_ _ _=>False
theorem Zsr{X:Cx}:Passes CX0 X E0:=λ_ _ _ _ _ _ _ h=>h.elim
structure Fun(K:ZAo)(x qual:Str)(st:Stmt)(f:Addr)(fd:FuncData):Prop where
 ex:∃(oc:Value) (od:Option Addr) (kV doc pm:Value) (an:Option Addr) (cdv ct:Value) (osl:Array (Option Value)),
  fd=ZBO x qual (Zch st) (ZaZ st) (Zf st) .none kV doc pm an cdv ct/\K.lookup f=Z ⟨oc,od,.func fd,osl⟩/\ZCv K cdv qual=ZFt
 kp:ZBS K (.ref f)=ZFt
section
variable{P:Program}{w:World}{K:ZAo}{mg:Str->Option Value}{base:Heap}
theorem Fun.ok{x qual:Str}{st:Stmt}{f:Addr}{fd:FuncData}{N ps:List Str}{k:Nat}{sp:Sp}(F:Fun K x qual st f fd)(S:Zu N ps (Zf st))(len:∀vs H Q E,sp vs H Q E->vs.length=ps.length)
  (hbody:∀(cdv:Value) (A:Around) (outer:List Env) (s:Shared) (H:Hp) (vs:List V) (Q:VK) (E:XK),Zap k (A.deeper (envOfC qual (Zf st) s.heap.objs.size f cdv))->sp vs H Q E ->
   ∃t,PSs (Zge CX0 P w K mg base N qual (Zf st) f cdv A outer s H E).nox (ZaZ st) t/\t { nx:=λ_ H'=>Q .non H',rt:=Q } (start N vs) H):ZdM P w K mg base CX0 (k+1) f fd ps sp:=by
 obtain⟨oc,od,kV,doc,pm,an,cdv,ct,osl,rfl,lk,hcd⟩:=F.ex;refine ZvR lk hcd S len λA outer s H vs Q E hr hsp=>?_;obtain⟨t,h,q⟩:=hbody cdv A outer s H vs Q E hr hsp;exact⟨t,h.nox,q⟩
theorem Fun.binds{fd:FuncData}{ps:List Str}(F:Fun K x qual st f fd)
  (h:∀(kV doc pm:Value) (an:Option Addr) (cdv ct:Value) (us:List Value),us.length=ps.length->bindArgs (ZBO x qual (Zch st) (ZaZ st) (Zf st) .none kV doc pm an cdv ct) ⟨us,[]⟩=pure (ps.zip us)):Binds K fd ps []:=by
 obtain⟨oc,od,kV,doc,pm,an,cdv,ct,osl,rfl,lk,hcd⟩:=F.ex;exact .all (h kV doc pm an cdv ct)
theorem ZpG{oc:Value}{od an:Option Addr}{osl:Array (Option Value)}{kV doc pm cdv ct:Value}(l:K.lookup f=Z ⟨oc,od,.func (ZBO x qual (Zch st) (ZaZ st) (Zf st) .none kV doc pm an cdv ct),osl⟩)
  (c:ZCv K cdv qual=ZFt) (k:ZBS K (.ref f)=ZFt):Fun K x qual st f (ZBO x qual (Zch st) (ZaZ st) (Zf st) .none kV doc pm an cdv ct):=⟨⟨oc,od,kV,doc,pm,an,cdv,ct,osl,rfl,l,c⟩,k⟩
end
theorem Zdv{A:Around}{k:Nat}(hr:Zap k A):A.units+1<cLine:=Nat.lt_of_le_of_lt (Nat.add_le_add_left (by decide:1<=64) _) hr.units
theorem ZmD{B:Prop}(h:B):if ZFu=ZFt then A else B:=by rw[if_neg ZBd];exact h
theorem ZmW{B:Prop}(h:A):if ZFt=ZFt then A else B:=by rw[if_pos rfl];exact h
def Zs(H H':Hp):Prop:=∀b o,H b=Z o->H' b=Z o
theorem Zs.refl(H:Hp):Zs H H:=λ_ _ h=>h
theorem Zs.trans{H1 H2:Hp}(a:Zs H H1)(b:Zs H1 H2):Zs H H2:=λc o h=>b c o (a c o h)
theorem Zs.free(e:Zs H H'){l:Addr}(h:H' l=Option.none):H l=Option.none:=by
 cases q:H l with
 | none=>rfl
 | some o=>rw[e l o q]at h;cases h
theorem Zs.seq{K:ZAo}{a:Addr}{xs:List V}(e:Zs H H')(h:SqL K H a xs):SqL K H' a xs:=by
 rcases h with(h | ⟨o,h⟩) | h
 ·exact .inl (.inl (e _ _ h))
 ·exact .inl (.inr ⟨o,e _ _ h⟩)
 ·exact .inr h
end L2
namespace L2
open PySem PySem.Spec PyProof.Rows
section
variable{X:Cx}
theorem ZtC:Za8 X (.builtin "len") (λxs H Q=>∃a kvs,xs=[V.ref a]/\H a=Z (.dK kvs)/\Q (.int kvs.length) H):=by intro pins s σ H xs us Q I r h;obtain⟨a,kvs,rfl,ha,q⟩:=h;obtain⟨u,rfl,ru⟩:=vals1 r;cases ru;exact ZyN I (.inl ha) λt s' I'=>⟨.int kvs.length,H,I',⟨t,rfl⟩,q⟩
end
end L2
namespace HM
open PySem
abbrev D:=PyData
abbrev Ky:=Sum Int Str
inductive B where
 | pl (d:D)
 | ol (ds:List D)
 | ok (kvs:List (Ky × D))
 | ot (kvs:List (List Ky × D))
 | otl (kvs:List (List Ky × List D))
 | hd (es:List (D × D))
abbrev Env:=List (Option B)
inductive Out where
 | nx (r:Env)
 | rt (d:D)
 | bk (r:Env)
 | ct (r:Env)
abbrev EF:=Env->Option D
abbrev BF:=Env->Option B
abbrev TF:=Env->Option Bool
abbrev IF:=Env->Option (List D)
abbrev AF:=Env->Option (List D)
abbrev SF:=Env->Option Out
@[simp] def big:Nat:=1000000
@[simp] noncomputable def Zb (i:Nat):EF:=λr=>match r[i]? with
 | some (Z (.pl d))=>Z d
 | _=>Z_
@[simp] noncomputable def Ze (i:Nat):BF:=λr=>match r[i]? with
 | some (Z b)=>Z b
 | _=>Z_
@[simp] noncomputable def bOf (f:EF):BF:=λr=>(f r).map B.pl
def ZaV:Ky->D
 | .inl i=>.int i
 | .inr x=>.str x
noncomputable def Zh (kvs:List (List Ky × D)):List (D × D):=kvs.map λp=>(.tuple (p.1.map ZaV),p.2)
@[simp] noncomputable def frz:B->Option D
 | .pl d=>Z d
 | .ol ds=>Z (.list ds)
 | .ot kvs=>Z (.dict (Zh kvs))
 | .hd es=>Z (.dict es)
 | _=>Z_
@[simp] def eOf(f:BF):EF:=λr=>(f r).bind frz
@[simp] noncomputable def eC (d:D):EF:=λ_=>Z d
@[simp] noncomputable def op2 (g:D->D->Option D) (a b:EF):EF:=λr=>match a r with
 | some x=>match b r with
  | some y=>g x y
  | none=>Z_
 | none=>Z_
@[simp] noncomputable def Zfw (g:Int->Int->Option D):D->D->Option D
 | .int i,.int j=>g i j
 | _,_=>Z_
def Z8(i:Int):Bool:=Nat.blt i.natAbs 18446744073709551616
@[simp] def Zaz(x y:D):Option D:=Zfw (λi j=>Z (.int (i+j))) x y
@[simp] def ZmA(x y:D):Option D:=Zfw (λi j=>Z (.int (i-j))) x y
@[simp] def Zcx(x y:D):Option D:=Zfw (λi j=>if Z8 i||Z8 j then Z (.int (i*j))else Z_) x y
@[simp] def ZuL(x y:D):Option D:=Zfw (λi j=>if 0<j then Z (.int (i % j))else Z_) x y
@[simp] def gLt(x y:D):Option D:=Zfw (λi j=>Z (.bool (decide (i<j)))) x y
@[simp] def gLe(x y:D):Option D:=Zfw (λi j=>Z (.bool (decide (i<=j)))) x y
@[simp] def gGt(x y:D):Option D:=Zfw (λi j=>Z (.bool (decide (j<i)))) x y
@[simp] def gGe(x y:D):Option D:=Zfw (λi j=>Z (.bool (decide (j<=i)))) x y
def Z2(d:D):Bool:=d.canLay0&&decide (d.depth<=60)
@[simp] def gEq(a b:D):Option D:=if Z2 a&&Z2 b then Z (.bool (ZA6 a b))else Z_
@[simp] def gNe(a b:D):Option D:=if Z2 a&&Z2 b then Z (.bool (!PyData.eqv a b))else Z_
@[simp] def ZiL(a b:D):Option D:=match b with
 | .none=>match a with
  | .none=>Z (.bool ZFt)
  | _=>Z (.bool ZFu)
 | _=>Z_
@[simp] def Zhp(a b:D):Option D:=match b with
 | .none=>match a with
  | .none=>Z (.bool ZFu)
  | _=>Z (.bool ZFt)
 | _=>Z_
@[simp] def Zl9(g g':D->D->Option D)(a b c:EF):EF:=λr=>match a r with
 | some x=>match b r with
  | some y=>match g x y with
   | some (.bool ZFt)=>match c r with
    | some z=>g' y z
    | none=>Z_
   | some (.bool ZFu)=>Z (.bool ZFu)
   | _=>Z_
  | none=>Z_
 | none=>Z_
@[simp] def Zvm(a:EF):EF:=λr=>match a r with
 | some (.bool b)=>Z (.bool (!b))
 | _=>Z_
@[simp] def ZfF(a b:EF):EF:=λr=>match a r with
 | some (.bool ZFt)=>b r
 | some (.bool ZFu)=>Z (.bool ZFu)
 | _=>Z_
@[simp] noncomputable def tV (a:EF):TF:=λr=>match a r with
 | some (.bool b)=>Z b
 | _=>Z_
@[simp] def ZcW(a:TF):TF:=λr=>(a r).map (!·)
@[simp] def ZjH(a b:TF):TF:=λr=>match a r with
 | some ZFt=>b r
 | some ZFu=>Z ZFu
 | none=>Z_
@[simp] def tOr(a b:TF):TF:=λr=>match a r with
 | some ZFt=>Z ZFt
 | some ZFu=>b r
 | none=>Z_
@[simp] def eIf(c:TF)(a b:EF):EF:=λr=>match c r with
 | some ZFt=>a r
 | some ZFu=>b r
 | none=>Z_
@[simp] noncomputable def ZcM:B->Option (List D)
 | .pl (.tuple ds)=>Z ds
 | .pl (.list ds)=>Z ds
 | .ol ds=>Z ds
 | _=>Z_
def ixN(n:Nat)(i:Int):Option Nat :=
 if 0<=i then(if i<n then Z i.toNat else Z_)else(if -(n:Int)<=i then Z (i+n).toNat else Z_)
noncomputable def atD (ds:List D) (i:Int):Option D:=match ixN ds.length i with
 | some j=>ds[j]?
 | none=>Z_
@[simp] def eIx(a:BF)(b:EF):EF:=λr=>match a r with
 | some x=>match ZcM x with
  | some ds=>match b r with
   | some (.int i)=>atD ds i
   | _=>Z_
  | none=>Z_
 | none=>Z_
@[simp] def ZzS:B->Option Nat
 | .pl (.tuple ds)=>Z ds.length
 | .pl (.list ds)=>Z ds.length
 | .ol ds=>Z ds.length
 | .ok kvs=>Z kvs.length
 | _=>Z_
@[simp] def Z6(a:BF):EF:=λr=>match a r with
 | some x=>(ZzS x).map λ(n:Nat)=>ZA2 (n:Int)
 | none=>Z_
@[simp] def Z1(a:BF):EF:=λr=>match a r with
 | some x=>(ZcM x).map λds=>.tuple ds
 | none=>Z_
@[simp] def Zh8(a:BF):BF:=λr=>match a r with
 | some x=>(ZcM x).map λds=>.ol ds
 | none=>Z_
def Zfh:List D->Option (List Bool)
 | []=>Z []
 | .bool b::r=>(Zfh r).map (b::·)
 | _::_=>Z_
@[simp] noncomputable def Zi1:B->Option (List D)
 | .pl (.list ds)=>Z ds
 | .ol ds=>Z ds
 | _=>Z_
@[simp] def ZiX(a:BF):EF:=λr=>match a r with
 | some x=>match Zi1 x with
  | some ds=>(Zfh ds).map λbs=>.bool (bs.all id)
  | none=>Z_
 | none=>Z_
@[simp] def Zk:AF:=λ_=>Z []
@[simp] def Za(a:EF)(b:AF):AF:=λr=>match a r with
 | some x=>(b r).map (x::·)
 | none=>Z_
@[simp] def Zaf(a:AF):EF:=λr=>(a r).map λds=>.tuple ds
@[simp] def Zdl(a:AF):BF:=λr=>(a r).map λds=>.ol ds
inductive Ty where
 | bool | int | str | tuple | list | dict
@[simp] noncomputable def Zj7:Ty->D->Bool
 | .bool,.bool _=>ZFt
 | .int,.int _=>ZFt
 | .int,.bool _=>ZFt
 | .str,.str _=>ZFt
 | .tuple,.tuple _=>ZFt
 | .list,.list _=>ZFt
 | .dict,.dict _=>ZFt
 | _,_=>ZFu
@[simp] def Zey(a:EF)(t:Ty):EF:=λr=>match a r with
 | some (.dict _)=>Z_
 | some d=>Z (.bool (Zj7 t d))
 | none=>Z_
@[simp] def Zym(x y:D):Option D:=Zfw (λi j=>Z (.int (if j > i then j else i))) x y
@[simp] def ZxM(x y:D):Option D:=Zfw (λi j=>Z (.int (if j<i then j else i))) x y
@[simp] def Zqb(a:EF):EF:=λr=>match a r with
 | some (.int i)=>Z (.int i)
 | some (.bool b)=>Z (.int (if b then 1 else 0))
 | _=>Z_
@[simp] def ZmH(a b:BF):BF:=λr=>match a r with
 | some (.ol xs)=>match b r with
  | some (.ol ys)=>if xs.length+ys.length<big then Z (.ol (xs++ys))else Z_
  | _=>Z_
 | _=>Z_
@[simp] def ZuR(a:BF)(b:EF):BF:=λr=>match a r with
 | some (.ol xs)=>match b r with
  | some (.int k)=>if decide (k.natAbs<1000)&&decide (xs.length<1000)then Z (.ol (ZA0 k.toNat xs).flatten)else Z_
  | _=>Z_
 | _=>Z_
def sIx(n d:Nat):Option Int->Nat
 | none=>d
 | some v=>if v<0 then(v+(n:Int)).toNat else min v.toNat n
noncomputable def cutD (xs:List D) (lo hi:Option Int):List D:=(xs.drop (sIx xs.length 0 lo)).take (sIx xs.length xs.length hi-sIx xs.length 0 lo)
@[simp] def Zr6(a:Option EF)(r:Env):Option (Option Int):=match a with
 | none=>Z Z_
 | some f=>match f r with
  | some (.int i)=>Z (Z i)
  | _=>Z_
@[simp] def Zu0(a:BF)(lo hi:Option EF):BF:=λr=>match a r with
 | some x=>match Zi1 x with
  | some xs=>match Zr6 lo r with
   | some l=>match Zr6 hi r with
    | some h=>Z (.ol (cutD xs l h))
    | none=>Z_
   | none=>Z_
  | none=>Z_
 | none=>Z_
noncomputable def Zax:List D->Option (List Int)
 | []=>Z []
 | .int i::r=>(Zax r).map (i::·)
 | _::_=>Z_
def Zko:List D->Option (List (List Int))
 | []=>Z []
 | .tuple ds::r=>match Zax ds with
  | some ns=>(Zko r).map (ns::·)
  | none=>Z_
 | _::_=>Z_
def lexLt:List Int->List Int->Bool
 | [],[]=>ZFu
 | [],_::_=>ZFt
 | _::_,[]=>ZFu
 | a::r,b::q=>if a=b then lexLt r q else decide (a<b)
noncomputable def sortI (ns:List Int):List Int:=ns.mergeSort λa b=>decide (a<=b)
def Zem(ts:List (List Int)):List (List Int):=ts.mergeSort λa b=>!lexLt b a
def ofInts(ns:List Int):List D:=ns.map λi=>ZA2 i
def Zf5(ts:List (List Int)):List D:=ts.map λt=>ZAU (ofInts t)
def ZfT(ds:List D):Option (List D) :=
 if ds.length<64 then match Zax ds with
  | some ns=>Z (ofInts (sortI ns))
  | none=>match Zko ds with
   | some ts=>if ds.length<2||ts.all (λt=>!t.isEmpty)then Z (Zf5 (Zem ts))else Z_
   | none=>Z_
 else Z_
@[simp] noncomputable def ZvX:B->Option (List D)
 | .pl (.tuple ds)=>Z ds
 | .pl (.list ds)=>Z ds
 | .ol ds=>Z ds
 | .ok kvs=>Z (kvs.map λp=>ZaV p.1)
 | .ot kvs=>Z (kvs.map λp=>.tuple (p.1.map ZaV))
 | .otl kvs=>Z (kvs.map λp=>.tuple (p.1.map ZaV))
 | _=>Z_
@[simp] def ZgC(a:BF):BF:=λr=>match a r with
 | some x=>match ZvX x with
  | some ds=>(ZfT ds).map λds=>.ol ds
  | none=>Z_
 | none=>Z_
noncomputable def dedup:List Int->List Int->List Int
 | acc,[]=>acc
 | acc,i::r=>if acc.contains i then dedup acc r else dedup (acc++[i]) r
def ZsE(ns:List Int):Bool:=ns.all λn=>decide (0<=n)&&decide (n<8)
@[simp] def Zgx(a:BF):BF:=λr=>match a r with
 | some x=>match Zi1 x with
  | some ds=>match Zax ds with
   | some ns=>if ZsE ns then Z (.ol (ofInts (sortI (dedup [] ns))))else Z_
   | none=>Z_
  | none=>Z_
 | none=>Z_
@[simp] def Zn(m:List D->Option D)(a:AF):EF:=λr=>match a r with
 | some ds=>m ds
 | none=>Z_
@[simp] def ZJ(a:BF):IF:=λr=>match a r with
 | some x=>ZcM x
 | none=>Z_
noncomputable def Zc7 (lo:Int) (n:Nat):List D:=(ZAw n).map λ(k:Nat)=>ZA2 (lo+(k:Int))
def okR(j:Int):Bool:=Nat.blt j.natAbs 1000000
@[simp] def ZaU(a:EF):IF:=λr=>match a r with
 | some (.int j)=>if okR j then Z (Zc7 0 j.toNat)else Z_
 | _=>Z_
@[simp] def Zlb(i:IF):EF:=λr=>match i r with
 | some ds=>if ds.length<big then Z (.tuple ds)else Z_
 | none=>Z_
noncomputable def Zak (c:TF) (e:EF) (r:Env):List D->Option (List D)
 | []=>Z []
 | x::xs=>match c (Z (.pl x)::r)with
  | some ZFt=>match e (Z (.pl x)::r)with
   | some y=>(Zak c e r xs).map (y::·)
   | none=>Z_
  | some ZFu=>Zak c e r xs
  | none=>Z_
@[simp] def ZE:TF:=λ_=>Z ZFt
@[simp] def ZF(i:IF)(c:TF)(e:EF):BF:=λr=>match i r with
 | some xs=>if xs.length<big then(Zak c e r xs).map λys=>.ol ys else Z_
 | none=>Z_
@[simp] def Zr(a b:SF):SF:=λr=>match a r with
 | some (.nx r')=>b r'
 | some (.rt d)=>Z (.rt d)
 | some (.bk r')=>Z (.bk r')
 | some (.ct r')=>Z (.ct r')
 | none=>Z_
@[simp] noncomputable def Zab:SF:=λr=>Z (.nx r)
@[simp] def Zii:SF:=λ_=>Z_
@[simp] noncomputable def ZD (a:EF):SF:=λr=>(a r).map Out.rt
@[simp] def Z0(i:Nat)(a:EF):SF:=λr=>(a r).map λd=>.nx (r.set i (Z (.pl d)))
@[simp] def ZU(i:Nat)(a:BF):SF:=λr=>(a r).map λb=>.nx (r.set i (Z b))
@[simp] def Zmd(i:Nat)(r:Env):Env:=match r[i]? with
 | some (Z (.ol ds))=>r.set i (Z (.pl (.list ds)))
 | some (Z (.ot kvs))=>r.set i (Z (.pl (.dict (Zh kvs))))
 | _=>r
@[simp] def Zd5(i:Nat):SF->SF:=λa r=>a (Zmd i r)
@[simp] def Zsk(a:EF):SF:=λr=>(a r).map λ_=>.nx r
@[simp] def sIf(c:TF)(a b:SF):SF:=λr=>match c r with
 | some ZFt=>a r
 | some ZFu=>b r
 | none=>Z_
noncomputable def ZaO (i:Nat) (body:SF):List D->Env->Option Out
 | [],r=>Z (.nx r)
 | x::xs,r=>match body (r.set i (Z (.pl x)))with
  | some (.nx r')=>ZaO i body xs r'
  | some (.ct r')=>ZaO i body xs r'
  | some (.bk r')=>Z (.nx r')
  | some (.rt d)=>Z (.rt d)
  | none=>Z_
@[simp] def ZaS(i:Nat)(it:IF)(body:SF):SF:=λr=>match it r with
 | some xs=>if xs.length<big then ZaO i body xs r else Z_
 | none=>Z_
noncomputable def ZaY (c:TF) (body:SF):Nat->Env->Option Out
 | 0,_=>Z_
 | n+1,r=>match c r with
  | some ZFt=>match body r with
   | some (.nx r')=>ZaY c body n r'
   | some (.ct r')=>ZaY c body n r'
   | some (.bk r')=>Z (.nx r')
   | some (.rt d)=>Z (.rt d)
   | none=>Z_
  | some ZFu=>Z (.nx r)
  | none=>Z_
@[simp] def Zdf(i:Nat)(a:EF):SF:=λr=>match r[i]? with
 | some (Z (.ol ds))=>match a r with
  | some d=>if ds.length<big then Z (.nx (r.set i (Z (.ol (ds++[d])))))else Z_
  | none=>Z_
 | _=>Z_
@[simp] def Zsu(i:Nat)(k v:EF):SF:=λr=>match v r with
 | some d=>match r[i]? with
  | some (Z (.ol ds))=>match k r with
   | some (.int n)=>match ixN ds.length n with
    | some j=>Z (.nx (r.set i (Z (.ol (ds.set j d)))))
    | none=>Z_
   | _=>Z_
  | _=>Z_
 | none=>Z_
noncomputable def putD {k v:Type} [DecidableEq k] (kvs:List (k × v)) (x:k) (y:v):List (k × v) :=
 if(kvs.any λp=>decide (p.1=x))=ZFt then kvs.map (λp=>if p.1=x then(p.1,y)else p)else kvs++[(x,y)]
noncomputable def Zi {k v:Type} [DecidableEq k] (kvs:List (k × v)) (x:k):Option v:=(kvs.find? λp=>decide (p.1=x)).map (·.2)
@[simp] def ZiW:D->Option Ky
 | .int i=>Z (.inl i)
 | .str x=>Z (.inr x)
 | _=>Z_
def Zhu:List D->Option (List Ky)
 | []=>Z []
 | d::r=>match ZiW d with
  | some k=>(Zhu r).map (k::·)
  | none=>Z_
noncomputable def tkL:D->Option (List Ky)
 | .tuple ds=>Zhu ds
 | _=>Z_
def ZmM:List D->Option (List Ky)
 | []=>Z []
 | .int i::r=>(ZmM r).map (ZCf i::·)
 | _::_=>Z_
def ZaT:D->Option (List Ky)
 | .tuple ds=>ZmM ds
 | _=>Z_
@[simp] def Zgh(i:Nat)(k v:EF):SF:=λr=>match v r with
 | some d=>match k r with
  | some x=>match r[i]? with
   | some (Z (.ok kvs))=>match ZiW x with
    | some y=>if kvs.length<big then Z (.nx (r.set i (Z (.ok (putD kvs y d)))))else Z_
    | none=>Z_
   | some (Z (.ot kvs))=>match ZaT x with
    | some y=>if kvs.length<big then Z (.nx (r.set i (Z (.ot (putD kvs y d)))))else Z_
    | none=>Z_
   | _=>Z_
  | none=>Z_
 | none=>Z_
@[simp] def fDk:BF:=λ_=>Z (.ok [])
@[simp] def fDt:BF:=λ_=>Z (.ot [])
@[simp] def ZuZ:BF:=λ_=>Z (.otl [])
@[simp] def Zqo(k v:EF):BF:=λr=>match k r with
 | some x=>match v r with
  | some d=>match ZiW x with
   | some y=>Z (.ok [(y,d)])
   | none=>Z_
  | none=>Z_
 | none=>Z_
def ZbN{k v:Type}[DecidableEq k](kvs:List (k × List v))(x:k):List (k × List v):=match Zi kvs x with
 | some _=>kvs
 | none=>kvs++[(x,[])]
def ZdS{k v:Type}[DecidableEq k]:List (k × List v)->k->v->List (k × List v)
 | [],_,_=>[]
 | (x,ds)::r,y,d=>if x=y then(x,ds++[d])::r else(x,ds)::ZdS r y d
@[simp] def Zpt(i:Nat)(k v:EF):SF:=λr=>match k r with
 | some x=>match r[i]? with
  | some (Z (.otl kvs))=>match ZaT x with
   | some y=>if kvs.length<big then
     match v (r.set i (Z (.otl (ZbN kvs y))))with
     | some d=>match Zi (ZbN kvs y) y with
      | some ds=>if ds.length<big then Z (.nx (r.set i (Z (.otl (ZdS (ZbN kvs y) y d)))))else Z_
      | none=>Z_
     | none=>Z_
    else Z_
   | none=>Z_
  | _=>Z_
 | none=>Z_
@[simp] def ZmE(i:Nat)(k:EF):SF:=λr=>match k r with
 | some x=>match r[i]? with
  | some (Z (.otl kvs))=>match ZaT x with
   | some y=>if kvs.length<big then
     match Zi kvs y with
     | none=>Z (.nx (r.set i (Z (.otl (kvs++[(y,[])])))))
     | some _=>Z_
    else Z_
   | none=>Z_
  | _=>Z_
 | none=>Z_
@[simp] def Zqm(i:Nat)(k v:EF):SF:=λr=>match k r with
 | some x=>match r[i]? with
  | some (Z (.otl kvs))=>match ZaT x with
   | some y=>match v r with
    | some d=>match Zi kvs y with
     | some ds=>if ds.length<big then Z (.nx (r.set i (Z (.otl (ZdS kvs y d)))))else Z_
     | none=>Z_
    | none=>Z_
   | none=>Z_
  | _=>Z_
 | none=>Z_
@[simp] def hasB(b:B)(x:D):Option Bool:=match b with
 | .ok kvs=>(ZiW x).map λy=>(Zi kvs y).isSome
 | .ot kvs=>(ZaT x).map λy=>(Zi kvs y).isSome
 | .otl kvs=>(ZaT x).map λy=>(Zi kvs y).isSome
 | _=>Z_
@[simp] def ZlS(k:EF)(a:BF):EF:=λr=>match k r with
 | some x=>match a r with
  | some b=>(hasB b x).map λc=>.bool (!c)
  | none=>Z_
 | none=>Z_
@[simp] def ZpN(i:Nat)(k:EF):BF:=λr=>match k r with
 | some x=>match r[i]? with
  | some (Z (.ok kvs))=>match ZiW x with
   | some y=>(Zi kvs y).map B.pl
   | none=>Z_
  | some (Z (.ot kvs))=>match ZaT x with
   | some y=>(Zi kvs y).map B.pl
   | none=>Z_
  | some (Z (.otl kvs))=>match ZaT x with
   | some y=>(Zi kvs y).map B.ol
   | none=>Z_
  | _=>Z_
 | none=>Z_
abbrev fnD(t:Nat)(cs:List D):D:=.dict [(.none,.int (Int.ofNat t)),(.none,.list cs)]
@[simp] noncomputable def Zfl (n:Nat) (ds:List D):Env:=ds.map (λd=>Z (B.pl d))++ZA0 (n-ds.length) Z_
@[simp] noncomputable def fnOf (k n:Nat) (m:SF):List D->Option D:=λds =>
 if ds.length=k then match m (Zfl n ds)with
  | some (.nx _)=>Z .none
  | some (.rt d)=>Z d
  | _=>Z_
 else Z_
end HM
namespace HM
open PySem
def Zdh(c:TF)(e:EF)(r:Env):List D->Option (List D)
 | []=>Z []
 | .tuple [x,y]::xs=>match c (Z (.pl x)::Z (.pl y)::r)with
  | some ZFt=>match e (Z (.pl x)::Z (.pl y)::r)with
   | some z=>(Zdh c e r xs).map (z::·)
   | none=>Z_
  | some ZFu=>Zdh c e r xs
  | none=>Z_
 | _=>Z_
@[simp] def Za2(i:IF)(c:TF)(e:EF):BF:=λr=>match i r with
 | some xs=>if xs.length<big then(Zdh c e r xs).map λys=>.ol ys else Z_
 | none=>Z_
def ZpH(ds:List D)(i:Int):Option Bool:=(Zax ds).map λns=>ns.contains i
@[simp] def Zo5(k:EF)(a:BF):EF:=λr=>match k r with
 | some (.int i)=>match a r with
  | some b=>match ZcM b with
   | some ds=>(ZpH ds i).map λc=>.bool c
   | none=>Z_
  | none=>Z_
 | _=>Z_
@[simp] def Zic(k:EF)(a:BF):EF:=λr=>match k r with
 | some (.int i)=>match a r with
  | some b=>match ZcM b with
   | some ds=>(ZpH ds i).map λc=>.bool (!c)
   | none=>Z_
  | none=>Z_
 | _=>Z_
end HM
namespace HM
open PySem
@[simp] def Zh9(n:Nat)(c:TF)(body:SF):SF:=λr=>ZaY c body n r
def Zee(i j:Nat)(body:SF):List D->Env->Option Out
 | [],r=>Z (.nx r)
 | .tuple [x,y]::xs,r=>match body ((r.set i (Z (.pl x))).set j (Z (.pl y)))with
  | some (.nx r')=>Zee i j body xs r'
  | some (.ct r')=>Zee i j body xs r'
  | some (.bk r')=>Z (.nx r')
  | some (.rt d)=>Z (.rt d)
  | none=>Z_
 | _,_=>Z_
@[simp] def ZiQ(i j:Nat)(it:IF)(body:SF):SF:=λr=>match it r with
 | some xs=>if xs.length<big then Zee i j body xs r else Z_
 | none=>Z_
end HM
namespace HM
open PySem
def ZoX(ds:List D)(x:D):Option Bool:=if Z2 x&&ds.all Z2 then Z (ds.any λd=>ZA6 d x)else Z_
@[simp] def Zil(k:EF)(a:BF):EF:=λr=>match k r with
 | some x=>match a r with
  | some b=>match ZcM b with
   | some ds=>(ZoX ds x).map λc=>.bool (!c)
   | none=>Z_
  | none=>Z_
 | none=>Z_
end HM
namespace HM
open PySem
noncomputable def ZfD:List (D × D)->Option (List (List Ky × D))
 | []=>Z []
 | (k,v)::r=>match tkL k with
  | some ks=>(ZfD r).map ((ks,v)::·)
  | none=>Z_
@[simp] def Zlr:B->Option (List (List Ky × D))
 | .ot kvs=>Z kvs
 | .pl (.dict es)=>ZfD es
 | .hd es=>ZfD es
 | _=>Z_
@[simp] def Zps(k:EF)(a:BF):EF:=λr=>match k r with
 | some x=>match a r with
  | some b=>match Zlr b with
   | some kvs=>(ZaT x).map λy=>.bool (Zi kvs y).isSome
   | none=>Z_
  | none=>Z_
 | none=>Z_
@[simp] def ZbP(k:EF)(a:BF):EF:=λr=>match k r with
 | some x=>match a r with
  | some b=>match Zlr b with
   | some kvs=>(ZaT x).map λy=>.bool (!(Zi kvs y).isSome)
   | none=>Z_
  | none=>Z_
 | none=>Z_
@[simp] def Z5(a:BF)(k:EF):EF:=λr=>match a r with
 | some b=>match Zlr b with
  | some kvs=>match k r with
   | some x=>match ZaT x with
    | some y=>Zi kvs y
    | none=>Z_
   | none=>Z_
  | none=>Z_
 | none=>Z_
@[simp] def ZlW:D->Bool
 | .none=>ZFt
 | .bool _=>ZFt
 | .int _=>ZFt
 | .str _=>ZFt
 | _=>ZFu
@[simp] def ZiO(f:BF):EF:=λr=>(f r).bind frz
theorem ZwM(ks:List Ky):tkL (.tuple (ks.map ZaV))=Z ks:=by
 show Zhu (ks.map ZaV)=Z ks
 induction ks with
 | nil=>rfl
 | cons k ks ih=>show(match ZiW (ZaV k)with | some q=>(Zhu (ks.map ZaV)).map (q::·) | none=>Z_)=_;rw[ih];cases k<;>rfl
theorem dec_enc(kvs:List (List Ky × D)):ZfD (Zh kvs)=Z kvs:=by
 induction kvs with
 | nil=>rfl
 | cons p kvs ih=>obtain⟨k,d⟩:=p;show(match tkL (.tuple (k.map ZaV))with | some ks=>(ZfD (Zh kvs)).map ((ks,d)::·) | none=>Z_)=_;rw[ZwM,ih];rfl
end HM
namespace HM
open PySem
@[simp] def Zd0(a:BF):EF:=λr=>match a r with
 | some x=>match Zi1 x with
  | some ds=>match Zax ds with
   | some ns=>ns.max?.map λi=>ZA2 i
   | none=>Z_
  | none=>Z_
 | none=>Z_
end HM
namespace HM
open PySem
@[simp] def Zl1(a:BF):EF:=λr=>match a r with
 | some x=>match Zi1 x with
  | some ds=>match Zax ds with
   | some ns=>ns.min?.map λi=>ZA2 i
   | none=>Z_
  | none=>Z_
 | none=>Z_
end HM
namespace HM
open PySem
@[simp] def Zkw(i:Nat)(f:BF):SF:=λr=>match r[i]? with
 | some (Z (.ol ds))=>match f r with
  | some (.ol es)=>if ds.length+es.length<big then Z (.nx (r.set i (Z (.ol (ds++es)))))else Z_
  | _=>Z_
 | _=>Z_
@[simp] def ZuJ(i j:Nat):SF:=λr=>match r[j]? with
 | some (Z (.ol ds))=>match ds[ds.length-1]? with
  | some d=>Z (.nx ((r.set j (Z (.ol ds.dropLast))).set i (Z (.pl d))))
  | none=>Z_
 | _=>Z_
@[simp] def Zj5(m:List D->Option D)(a:AF):BF:=λr=>match a r with
 | some ds=>match m ds with
  | some (.list ys)=>Z (.ol ys)
  | _=>Z_
 | none=>Z_
def Zbc:Option B->Bool
 | some (.hd _)=>ZFt
 | _=>ZFu
@[simp] def Zfj(i:Nat)(g:SF):SF:=λr=>match r[i]? with
 | some (Z (.pl (.dict es)))=>if r.all (λq=>!Zbc q)then match g (r.set i (Z (.hd es)))with
   | some (.nx r')=>match r'[i]? with
    | some (Z (.hd es'))=>if(r'.set i Z_).all (λq=>!Zbc q)then Z (.nx (r'.set i (Z (.pl (.dict es')))))else Z_
    | _=>Z_
   | some (.rt d)=>Z (.rt d)
   | _=>Z_
  else Z_
 | _=>g r
@[simp] def Za0(i:Nat):IF:=λr=>match r[i]? with
 | some (Z (.pl (.tuple ds)))=>Z ds
 | some (Z (.pl (.list ds)))=>Z ds
 | some (Z (.hd es))=>(ZfD es).map λkvs=>kvs.map λp=>.tuple (p.1.map ZaV)
 | _=>Z_
@[simp] def eHd(i:Nat):EF:=λr=>match r[i]? with
 | some (Z (.pl d))=>Z d
 | some (Z (.hd es))=>Z (.dict es)
 | _=>Z_
end HM
namespace HM
open PySem
@[simp] def Zh7(a:BF)(k:EF):EF:=λr=>match a r with
 | some b=>match Zlr b with
  | some kvs=>match k r with
   | some x=>match ZaT x with
    | some y=>Z ((Zi kvs y).getD .none)
    | none=>Z_
   | none=>Z_
  | none=>Z_
 | none=>Z_
end HM
namespace HM
open PySem
noncomputable def ZfS:Nat->D->Bool
 | _,.none=>ZFt
 | _,.bool _=>ZFt
 | _,.int _=>ZFt
 | _,.str _=>ZFt
 | n+1,.tuple ds=>ds.all (ZfS n)
 | _,_=>ZFu
@[simp] def Zmy(a b:D):Option D:=if a.canLay0&&Z2 b then Z (.bool (ZA6 a b))else Z_
end HM
namespace HM
open PySem
abbrev AP:=Nat->List D->List D->Option D
noncomputable def ZiY:D->Option (Nat × List D)
 | .dict [(.none,.int (Int.ofNat t)),(.none,.list cs)]=>Z (t,cs)
 | _=>Z_
@[simp] def Zc8(ap:AP)(i:Nat)(a:AF):EF:=λr=>match r[i]? with
 | some (Z (.pl d))=>match ZiY d with
  | some (t,cs)=>match a r with
   | some ds=>ap t cs ds
   | none=>Z_
  | none=>Z_
 | _=>Z_
noncomputable def noF:Nat->D->Bool
 | _,.none=>ZFt
 | _,.bool _=>ZFt
 | _,.int _=>ZFt
 | _,.str _=>ZFt
 | n+1,.tuple ds=>ds.all (noF n)
 | n+1,.list ds=>ds.all (noF n)
 | n+1,.dict es=>es.all λp=>(match p.1 with | .none=>ZFu | _=>ZFt)&&noF n p.2
 | _,_=>ZFu
def ZlZ:List Nat->Env->Option (List D)
 | [],_=>Z []
 | i::is,r=>match r[i]? with
  | some (Z (.pl d))=>(ZlZ is r).map (d::·)
  | _=>Z_
@[simp] def Zi6(m:List D->Option D)(t:Nat)(is:List Nat)(a:EF):EF:=λr=>match a r with
 | some d1=>match ZlZ is r with
  | some cs=>if cs.all (noF 20)then match m [d1,fnD t cs]with
    | some d=>if noF 20 d then Z d else Z_
    | none=>Z_
   else Z_
  | none=>Z_
 | none=>Z_
def Zkv(n m:Nat)(e:EF):List D->List D->Option D:=λcs ds=>if ds.length=n/\cs.length=m/\ds.all (noF 20)=ZFt then e ((ds++cs).map λd=>Z (B.pl d))else Z_
@[simp] def Zgw(a:BF):EF:=λr=>match a r with
 | some x=>match Zi1 x with
  | some ds=>match Zax ds with
   | some ns=>Z (match ns.min? with | some i=>.int i | none=>.none)
   | none=>Z_
  | none=>Z_
 | none=>Z_
abbrev NF:=Env->Option (List (List Ky × D))
@[simp] def Zlm(a:SF)(m:NF):NF:=λr=>match a r with
 | some (.nx r')=>m r'
 | _=>Z_
@[simp] def Zpw(j:Nat):NF:=λr=>match r[j]? with
 | some (Z (.ot kvs))=>Z kvs
 | _=>Z_
def newOf(k n:Nat)(m:NF):List D->Option (List (List Ky × D)):=λds=>if ds.length=k then m (Zfl n ds)else Z_
@[simp] def Zj6(m:List D->Option (List (List Ky × D)))(a:AF):BF:=λr=>match a r with
 | some ds=>match m ds with
  | some kvs=>if kvs.all (λp=>ZlW p.2)then Z (.ot kvs)else Z_
  | none=>Z_
 | none=>Z_
end HM
namespace HM
open PySem
end HM
namespace HM
open PySem
@[simp] def ZgA(ap:AP)(i:Nat)(a:AF):EF:=λr=>match r[i]? with
 | some (Z (.pl d))=>match ZiY d with
  | some (t,cs)=>match a r with
   | some ds=>match ap t cs ds with
    | some z=>if ZfS 400 z then Z z else Z_
    | none=>Z_
   | none=>Z_
  | none=>Z_
 | _=>Z_
end HM
namespace HM
open PySem
end HM
namespace HM
open PySem
end HM
namespace HM
open PySem
end HM
namespace HM
open PySem
end HM
namespace HM
open PySem
def Zjc(n:Nat):List D->List D
 | []=>[]
 | d::ds=>.tuple [.int n,d]::Zjc (n+1) ds
@[simp] def Zn7(a:EF):IF:=λr=>match a r with
 | some (.tuple ds)=>Z (Zjc 0 ds)
 | _=>Z_
@[simp] def ZsT(a b:BF):BF:=λr=>match a r with
 | some x=>match Zi1 x with
  | some xs=>match b r with
   | some y=>match Zi1 y with
    | some ys=>if xs.length+ys.length<big then Z (.ol (xs++ys))else Z_
    | none=>Z_
   | none=>Z_
  | none=>Z_
 | none=>Z_
end HM
namespace HP
open PySem PySem.Spec PyProof.Rows L2
variable{a b l p:Addr}{o ob u:HO}{F F' H H' H1:Hp}{vvs:List (List Key × V)}{fp':List Addr}
@[reducible] def Zds(H':Hp)(b:Addr):HO->Prop
 | .tbl _=>∃ps',H' b=Z (.tbl ps')
 | o=>H' b=Z o
def ZaQ(H H':Hp):Prop:=∀b o,H b=Z o->Zds H' b o
theorem Zds.of(h:H' b=Z o):Zds H' b o:=by cases o<;>first | exact h | exact⟨_,h⟩
theorem Zds.ex(h:Zds H' b o):∃u,H' b=Z u:=by cases o<;>first | exact⟨_,h⟩ | (obtain⟨ps,e⟩:=h; exact⟨_,e⟩)
theorem Zds.no(h:Zds H' b o)(n:∀ps,o≠.tbl ps):H' b=Z o:=by cases o<;>first | exact h | exact absurd rfl (n _)
theorem ZaQ.of{H H':Hp}(s:Zs H H'):ZaQ H H':=λb o h=>.of (s b o h)
theorem ZaQ.refl(H:Hp):ZaQ H H:=.of (.refl H)
theorem ZaQ.trans{H2:Hp}(a:ZaQ H H1)(b:ZaQ H1 H2):ZaQ H H2:=λc o h=>by have h1:=a c o h;cases o<;>first | exact b c _ h1 | (obtain⟨ps,e⟩:=h1; exact(show ∃ps',H2 c=Z (.tbl ps') from b c _ e))
theorem ZaQ.free(e:ZaQ H H')(h:H' l=Z_):H l=Z_:=by
 cases q:H l with
 | none=>rfl
 | some o=>obtain⟨u,z⟩:=(e l o q).ex;rw[h]at z; cases z
theorem ZaQ.back(e:ZaQ H H')(h:H l=Z o)(h':H' l=Z u)(n:∀ps,u≠.tbl ps):o=u:=by have z:=e l o h;cases o<;>first | (obtain⟨ps,q⟩:=z; rw[h']at q; cases q; exact absurd rfl (n _)) | (have z:H' l=Z _:=z; rw[h']at z; cases z; rfl)
def Zcp(H:Hp):Hp:=λb=>match H b with
 | some (.tbl _)=>Z_
 | x=>x
def nt:HO->Bool
 | .tbl _=>ZFu
 | _=>ZFt
def NoT(F:Hp):Prop:=∀b o,F b=Z o->nt o=ZFt
theorem Zcy(h:H b=Z o)(n:nt o=ZFt):Zcp H b=Z o:=by unfold Zcp; rw[h];cases o<;>first | rfl | cases n
theorem Zhk(h:Zcp H b=Z o):H b=Z o/\nt o=ZFt:=by
 unfold Zcp at h;split at h
 ·cases h
 ·rename_i n
  refine⟨h,?_⟩;cases o<;>first | rfl | exact absurd h (n _)
theorem Zf4:Zs (Zcp H) H:=λb o h=>(Zhk h).1
theorem NoT.drop{H:Hp}:NoT (Zcp H):=λb o h=>(Zhk h).2
theorem NoT.sub(n:NoT F)(s:Zs F H):Zs F (Zcp H):=λb o h=>Zcy (s b o h) (n b o h)
theorem NoT.upd{F:Hp}{p:Addr}{o:HO}(n:NoT F)(h:nt o=ZFt):NoT (upd F p o):=λb u z=>by
 by_cases hb:b=p
 ·subst hb; rw[ZI]at z; cases z; exact h
 ·rw[ZB hb]at z; exact n b u z
theorem ZaQ.ntb(s:ZaQ H H')(h:H b=Z o)(n:nt o=ZFt):H' b=Z o:=(s b o h).no λps z=>by subst z; cases n
def Dk(vvs:List (List Key × V))(u:HO):Prop:=u=.dT vvs\/∃o,u=.frz o (.dT vvs)
def sw(a:Addr)(ob:HO)(G:Hp):Hp:=λb=>if b=a then(G a).map (λ_=>ob)else G b
class FX where
 tl:List (Addr × Str)
 fv:Nat->List PyData->Hp->Addr->Prop
 sw:∀{t:Nat} {cs:List PyData} {F:Hp} {a b:Addr} {ob:HO} {vvs:List (List Key × V)},(∀u,F a=Z u->Dk vvs u)->Dk vvs ob->fv t cs F b->fv t cs (sw a ob F) b
 drop:∀{t:Nat} {cs:List PyData} {F:Hp} {a:Addr},fv t cs F a->fv t cs (Zcp F) a
 mono:∀{t:Nat} {cs:List PyData} {F F':Hp} {a:Addr},fv t cs F a->Zs F F'->fv t cs F' a
variable[FX]
def Zbq(a:Addr)(o:Obj):HO:=.ext λh=>h.get? a=Z o
def ZmG(o:Obj)(q:Str):Prop:=∃vs t,o.data=.fields vs/\vs[1]?=Z (.str q t)
def Tb(H:Hp):Prop:=∀P q,(P,q)∈FX.tl->∃ps,H P=Z (.tbl ps)/\TriplesOk ps.toList/\∀pos c,ZEd pos ps.toList=Z c->∃a o,c=.ref a/\H a=Z (Zbq a o)/\ZmG o q
def ZmP:HO->Bool
 | .lst _=>ZFt
 | .dK _=>ZFt
 | .dT _=>ZFt
 | _=>ZFu
def te:HO->Bool
 | .tbl _=>ZFt
 | .ext _=>ZFt
 | _=>ZFu
theorem Zt2(h:ZmP o=ZFt)(h':te o=ZFt):False:=by cases o<;>simp_all [ZmP,te]
theorem Tb.keep(t:Tb H)(k:∀a o,H a=Z o->te o=ZFt->H' a=Z o):Tb H':=λP q hP=>by obtain⟨ps,h1,h2,h3⟩:=t P q hP;refine⟨ps,k _ _ h1 rfl,h2,λpos c hc=>?_⟩;obtain⟨a,o,e1,e2,e3⟩:=h3 pos c hc;exact⟨a,o,e1,k _ _ e2 rfl,e3⟩
theorem Dk.te{vvs:List (List Key × V)}{u:HO}(h:Dk vvs u):te u=ZFu:=by rcases h with h | ⟨o,h⟩<;>subst h<;>rfl
theorem Dk.ntt(h:Dk vvs u):nt u=ZFt:=by rcases h with h | ⟨o,h⟩<;>subst h<;>rfl
theorem Tb.sw{G:Hp}{a:Addr}{ob:HO}{vvs:List (List Key × V)}(hG:∀u,G a=Z u->Dk vvs u)(t:Tb G):Tb (HP.sw a ob G):=t.keep λb o z ht=>by
 have hb:b≠a:=λe=>by subst e; rw[(hG o z).te]at ht; cases ht
 unfold HP.sw; rw[if_neg hb]; exact z
theorem Tb.unsw{G:Hp}(hob:Dk vvs ob)(t:Tb (HP.sw a ob G)):Tb G:=t.keep λb o z ht=>by
 unfold HP.sw at z;split at z
 ·obtain⟨u,_,e⟩:=ZAn.mp z
  subst e; rw[hob.te]at ht; cases ht
 ·exact z
theorem Zds.cong(e:H' b=H b)(h:Zds H b o):Zds H' b o:=by unfold Zds at h ⊢; rw[e]; exact h
theorem ZaQ.sw{H0 H:Hp}{a:Addr}{ob:HO}(s:ZaQ H0 H):ZaQ (HP.sw a ob H0) (HP.sw a ob H):=λb o z=>by
 by_cases hb:b=a
 ·subst hb
  unfold HP.sw at z;rw[if_pos rfl]at z;obtain⟨u,h1,h2⟩:=ZAn.mp z;obtain⟨w,hw⟩:=(s _ _ h1).ex;refine .of ?_;unfold HP.sw;rw[if_pos rfl,hw,h2.symm]; rfl
 ·unfold HP.sw at z
  rw[if_neg hb]at z;refine(s b o z).cong ?_;unfold HP.sw; rw[if_neg hb]
theorem Tb.same(t:Tb H)(s:Zs H H'):Tb H':=t.keep λa o h _=>s a o h
theorem Zks(r:Rd F a u)(s:Zs F F'):Rd F' a u:=r.imp (λh=>s _ _ h) λ⟨o,h⟩=>⟨o,s _ _ h⟩
def Zp2(K:ZAo)(a:Addr)(vs:List V):Prop:=∃(o:Obj) (its:Array Value) (n:Nat),K.lookup a=Z o/\o.cls=.type "tuple"/\o.data=.seq its n/\its.size<=sizeLine/\Vals vs its.toList
theorem Zlt{K:ZAo}{vs:List V}(h:SqT K F a vs)(s:Zs F F'):SqT K F' a vs:=h.imp (λh=>Zks h s) id
inductive Rep(K:ZAo)(F:Hp):PyData->V->Prop where
 | non:Rep K F .none .non
 | bl (b:Bool):Rep K F (.bool b) (.bl b)
 | int (i:Int):Rep K F (.int i) (.int i)
 | str (x:Str):Rep K F (.str x) (.str x)
 | tupk {a:Addr} {x:Str} (h:Zp2 K a [.str x]):Rep K F (.tuple [.str x]) (.ref a)
 | tup {a:Addr} {ds:List PyData} {vs:List V} (h:F a=Z (.tup vs)) (hl:ds.length=vs.length) (hr:∀(i:Nat) (d:PyData) (v:V),ds[i]?=Z d->vs[i]?=Z v->Rep K F d v):Rep K F (.tuple ds) (.ref a)
 | lst {a:Addr} {ds:List PyData} {vs:List V} (h:SqL K F a vs) (hl:ds.length=vs.length) (hr:∀(i:Nat) (d:PyData) (v:V),ds[i]?=Z d->vs[i]?=Z v->Rep K F d v):Rep K F (.list ds) (.ref a)
 | dct {a:Addr} {es:List (PyData × PyData)} {kvs:List (List Key × PyData)} {vvs:List (List Key × V)} (h:Rd F a (.dT vvs)) (he:es=HM.Zh kvs) (hk:kvs.map (·.1)=vvs.map (·.1)) (hr:∀(i:Nat) (d:PyData) (v:V),(kvs.map (·.2))[i]?=Z d->(vvs.map (·.2))[i]?=Z v->Rep K F d v):Rep K F (.dict es) (.ref a)
 | fn {a:Addr} {t:Nat} {cs:List PyData} (h:FX.fv t cs F a):Rep K F (.dict [(.none,.int (Int.ofNat t)),(.none,.list cs)]) (.ref a)
def Zv(K:ZAo)(F:Hp)(ds:List PyData)(vs:List V):Prop:=ds.length=vs.length/\∀(i:Nat) (d:PyData) (v:V),ds[i]?=Z d->vs[i]?=Z v->Rep K F d v
section
variable{K:ZAo}{F F':Hp}{d:PyData}{v:V}{ds es:List PyData}{vs us:List V}
theorem Rep.mono(r:Rep K F d v)(s:Zs F F'):Rep K F' d v:=by
 induction r with
 | non=>exact .non
 | bl b=>exact .bl b
 | int i=>exact .int i
 | str x=>exact .str x
 | tup h hl _ ih=>exact .tup (s _ _ h) hl ih
 | tupk h=>exact .tupk h
 | lst h hl _ ih=>exact .lst (s.seq h) hl ih
 | dct h he hk _ ih=>exact .dct (Zks h s) he hk ih
 | fn h=>exact .fn (FX.mono h s)
theorem Rep.drop(r:Rep K F d v):Rep K (Zcp F) d v:=by
 induction r with
 | non=>exact .non
 | bl b=>exact .bl b
 | int i=>exact .int i
 | str x=>exact .str x
 | tup h hl _ ih=>exact .tup (Zcy h rfl) hl ih
 | tupk h=>exact .tupk h
 | lst h hl _ ih =>
  refine .lst ?_ hl ih;rcases h with(h | ⟨o,h⟩) | h
  ·exact .inl (.inl (Zcy h rfl))
  ·exact .inl (.inr ⟨o,Zcy h rfl⟩)
  ·exact .inr h
 | dct h he hk _ ih =>
  refine .dct ?_ he hk ih;rcases h with h | ⟨o,h⟩
  ·exact .inl (Zcy h rfl)
  ·exact .inr ⟨o,Zcy h rfl⟩
 | fn h=>exact .fn (FX.drop h)
theorem Zv.drop'(r:Zv K F ds vs):Zv K (Zcp F) ds vs:=⟨r.1,λi d v h1 h2=>(r.2 i d v h1 h2).drop⟩
theorem ZaQ.dr(s:ZaQ H H'):Zs (Zcp H) H':=λb o h=>s.ntb (Zhk h).1 (Zhk h).2
theorem Rep.monoT(r:Rep K H d v)(s:ZaQ H H'):Rep K H' d v:=r.drop.mono s.dr
theorem Zv.mono(r:Zv K F ds vs)(s:Zs F F'):Zv K F' ds vs:=⟨r.1,λi d v h1 h2=>(r.2 i d v h1 h2).mono s⟩
theorem Zv.nil:Zv K F [] []:=⟨rfl,λi d v h=>by simp at h⟩
theorem Zv.cons(r:Rep K F d v)(q:Zv K F ds vs):Zv K F (d::ds) (v::vs) :=
 ⟨by rw[ZAB,ZAB,q.1],λi e u h1 h2=>by
  cases i with
  | zero=>rw[ZCV]at h1 h2;cases h1; cases h2; exact r
  | succ i=>rw[ZBb]at h1 h2;exact q.2 i e u h1 h2⟩
theorem Zv.nil_inv(r:Zv K F [] vs):vs=[]:=ZCs r.1.symm
theorem Zv.cons_inv(r:Zv K F (d::ds) vs):∃v us,vs=v::us/\Rep K F d v/\Zv K F ds us:=by
 cases vs with
 | nil=>exact absurd r.1 (by simp)
 | cons v us =>
  refine⟨v,us,rfl,r.2 0 d v rfl rfl,?_,λi e u h1 h2=>r.2 (i+1) e u ?_ ?_⟩
  ·have:=r.1
   rw[ZAB,ZAB]at this;omega
  ·rw[ZBb]; exact h1
  ·rw[ZBb]; exact h2
theorem Zv.append(r:Zv K F ds vs)(q:Zv K F es us):Zv K F (ds++es) (vs++us):=by
 refine⟨by rw[ZAE,ZAE,r.1,q.1],λi e u h1 h2=>?_⟩
 by_cases hi:i<ds.length
 ·rw[ZA4 hi]at h1
  rw[ZA4 (by rw[<-r.1]; exact hi)]at h2;exact r.2 i e u h1 h2
 ·rw[ZBe (by omega)]at h1
  rw[ZBe (by have:=r.1; omega),<-r.1]at h2;exact q.2 _ e u h1 h2
theorem Zv.get(r:Zv K F ds vs){i:Nat}(h:ds[i]?=Z d):∃v,vs[i]?=Z v/\Rep K F d v:=by
 have hi:i<vs.length:=by rw[<-r.1]; exact(ZAC.mp h).1
 exact⟨vs[i],ZAx hi,r.2 i d _ h (ZAx hi)⟩
theorem Zv.drop(r:Zv K F ds vs)(n:Nat):Zv K F (ds.drop n) (vs.drop n) :=
 ⟨by rw[ZDa,ZDa,r.1],λi e u h1 h2=>by rw[List.getElem?_drop]at h1 h2;exact r.2 _ e u h1 h2⟩
theorem Zv.take(r:Zv K F ds vs)(n:Nat):Zv K F (ds.take n) (vs.take n) :=
 ⟨by rw[ZB1,ZB1,r.1],λi e u h1 h2=>by
  by_cases hi:i<n
  ·rw[ZEC hi]at h1 h2
   exact r.2 _ e u h1 h2
  ·rw[List.getElem?_take_eq_none (by omega)]at h1
   cases h1⟩
theorem Zv.set(r:Zv K F ds vs)(q:Rep K F d v)(j:Nat):Zv K F (ds.set j d) (vs.set j v):=by
 refine⟨by rw[ZBH,ZBH,r.1],λi e u h1 h2=>?_⟩;have hi:i<ds.length:=by have:=(ZAC.mp h1).1; rwa [ZBH]at this
 by_cases e1:j=i
 ·subst e1
  rw[ZBl hi]at h1;rw[ZBl (by rw[<-r.1]; exact hi)]at h2;cases h1; cases h2; exact q
 ·rw[ZAZ e1]at h1 h2
  exact r.2 i e u h1 h2
theorem Zv.rep(r:Zv K F ds vs)(k:Nat):Zv K F (ZA0 k ds).flatten (ZA0 k vs).flatten:=by
 induction k with
 | zero=>exact Zv.nil
 | succ k ih=>rw[ZB8,ZB8,ZCH,ZCH]; exact r.append ih
theorem Zv.one(r:Rep K F d v):Zv K F [d] [v]:=.cons r .nil
end
def Fre(H:Hp)(a:Addr)(o:HO):Prop:=H a=Z_\/∃xs,o=.tup xs/\H a=Z (.tup xs)
theorem Fre.back{H H':Hp}{a:Addr}{o:HO}(s:ZaQ H H')(f:Fre H' a o):Fre H a o:=by
 rcases f with f | ⟨xs,e,f⟩
 ·exact .inl (s.free f)
 ·cases q:H a with
  | none=>exact .inl q
  | some u =>
   have:=s.back q f λ_ z=>by cases z
   subst this;exact .inr ⟨xs,e,q⟩
theorem Fre.no(f:Fre H a o)(h:H a=Z u)(n:∀xs,u≠.tup xs):False:=by
 rcases f with f | ⟨xs,_,f⟩
 ·rw[h]at f; cases f
 ·rw[h]at f; cases f; exact n xs rfl
structure Ext(F H F' H':Hp):Prop where
 ff:Zs F F'
 hh:ZaQ H H'
 sub:Zs F' H'
 new:∀a o,F' a=Z o->F a=Z o\/Fre H a o
 tab:Tb H->Tb H'
 nts:NoT F->NoT F'
theorem Ext.refl{F H:Hp}(s:Zs F H):Ext F H F H:=⟨Zs.refl F,ZaQ.refl H,s,λ_ _ h=>.inl h,id,id⟩
theorem Ext.trans{F H F1 H1 F2 H2:Hp}(a:Ext F H F1 H1)(b:Ext F1 H1 F2 H2):Ext F H F2 H2 :=
 ⟨a.ff.trans b.ff,a.hh.trans b.hh,b.sub,λx o h=>by
  rcases b.new x o h with q | q
  ·exact a.new x o q
  ·exact .inr (q.back a.hh),λt=>b.tab (a.tab t),λt=>b.nts (a.nts t)⟩
theorem Zlh(h:F p=Z_):Zs F (upd F p o):=λb q z=>by rw[ZB (ZaE z h)]; exact z
theorem Ext.lay(e:Ext F H F' H')(h:H' p=Z_)(no:nt o=ZFt:=by rfl):Ext F H (upd F' p o) (upd H' p o):=by
 have hF:F' p=Z_:=e.sub.free h;refine⟨λb q z=>?_,e.hh.trans (.of (Zlh h)),λb q z=>?_,λb q z=>?_,λt=>(e.tab t).same (Zlh h),λt=>(e.nts t).upd no⟩
 ·rw[ZB (ZaE (e.ff b q z) hF)]; exact e.ff b q z
 ·by_cases hb:b=p
  ·subst hb; rw[ZI]at z ⊢; exact z
  ·rw[ZB hb]at z ⊢; exact e.sub b q z
 ·by_cases hb:b=p
  ·subst hb; exact .inr (.inl (e.hh.free h))
  ·rw[ZB hb]at z; exact e.new b q z
theorem Ext.lay'(e:Ext F H F' H')(h:H' p=Z_):Ext F H F' (upd H' p o):=by refine⟨e.ff,e.hh.trans (.of (Zlh h)),λb q z=>?_,e.new,λt=>(e.tab t).same (Zlh h),e.nts⟩;rw[ZB (ZaE (e.sub b q z) h)]; exact e.sub b q z
theorem Zs.upd'(h:F p=Z_):Zs F (upd F p o):=λb q z=>by rw[ZB (ZaE z h)]; exact z
def ZbW(F H:Hp):Hp:=λa=>match H a with
 | some (.tup xs)=>Z (.tup xs)
 | _=>F a
theorem Zlj{xs:List V}(h:H a=Z (.tup xs)):ZbW F H a=Z (.tup xs):=by unfold ZbW; rw[h]
theorem ZcN(s:Zs F H):Zs F (ZbW F H):=λa o h=>by
 have:=s a o h;unfold ZbW;split
 ·rename_i xs q
  rw[q]at this;exact this
 ·exact h
theorem Ext.tups(e:Ext F H F' H'):Ext F H (ZbW F' H') H':=by
 have key:Ext F' H' (ZbW F' H') H':=by
  refine⟨ZcN e.sub,ZaQ.refl H',λa o h=>?_,λa o h=>?_,id,λn a o h=>?_⟩
  ·unfold ZbW at h
   split at h
   ·rename_i xs q; rw[q]; exact h
   ·exact e.sub a o h
  ·unfold ZbW at h
   split at h
   ·rename_i xs q
    cases h;exact .inr (.inr ⟨xs,rfl,q⟩)
   ·exact .inl h
  ·unfold ZbW at h
   split at h
   ·cases h; rfl
   ·exact n a o h
 exact e.trans key
inductive Zam(K:ZAo)(F H:Hp):HM.B->V->List Addr->Prop where
 | pl {d:PyData} {v:V} (r:Rep K F d v):Zam K F H (.pl d) v []
 | ol {a:Addr} {ds:List PyData} {vs:List V} (h:H a=Z (.lst vs)) (r:Zv K F ds vs):Zam K F H (.ol ds) (.ref a) [a]
 | ok {a:Addr} {kvs:List (Key × PyData)} {vvs:List (Key × V)} (h:H a=Z (.dK vvs)) (hk:kvs.map (·.1)=vvs.map (·.1)) (r:Zv K F (kvs.map (·.2)) (vvs.map (·.2))):Zam K F H (.ok kvs) (.ref a) [a]
 | ot {a:Addr} {kvs:List (List Key × PyData)} {vvs:List (List Key × V)} (h:H a=Z (.dT vvs)) (hk:kvs.map (·.1)=vvs.map (·.1)) (r:Zv K F (kvs.map (·.2)) (vvs.map (·.2))):Zam K F H (.ot kvs) (.ref a) [a]
 | otl {a:Addr} {kvs:List (List Key × List PyData)} {vvs:List (List Key × V)} {ls:List Addr} (h:H a=Z (.dT vvs)) (hk:kvs.map (·.1)=vvs.map (·.1)) (hv:vvs.map (·.2)=ls.map V.ref)
   (r:∀(i:Nat) (ds:List PyData) (l:Addr),(kvs.map (·.2))[i]?=Z ds->ls[i]?=Z l->∃vs,H l=Z (.lst vs)/\Zv K F ds vs):Zam K F H (.otl kvs) (.ref a) (a::ls)
 | hd {a:Addr} {o:Obj} {es:List (PyData × PyData)} {kvs:List (List Key × PyData)} {vvs:List (List Key × V)} (h:F a=Z (.frz o (.dT vvs))) (he:es=HM.Zh kvs) (hk:kvs.map (·.1)=vvs.map (·.1)) (r:Zv K F (kvs.map (·.2)) (vvs.map (·.2))):Zam K F H (.hd es) (.ref a) []
 | hf {a:Addr} {t:Nat} {cs:List PyData} (h:FX.fv t cs F a):Zam K F H (.hd [(.none,.int (Int.ofNat t)),(.none,.list cs)]) (.ref a) []
section
variable{K:ZAo}{F F' H H':Hp}{b:HM.B}{v:V}{fp:List Addr}
theorem Zam.mono(r:Zam K F H b v fp)(s:Zs F F')(k:∀a∈fp,∀o,H a=Z o->Zds H' a o):Zam K F' H' b v fp:=by
 cases r with
 | pl r=>exact .pl (r.mono s)
 | ol h r=>exact .ol (k _ (by simp) _ h) (r.mono s)
 | ok h hk r=>exact .ok (k _ (by simp) _ h) hk (r.mono s)
 | ot h hk r=>exact .ot (k _ (by simp) _ h) hk (r.mono s)
 | hd h he hk r=>exact .hd (s _ _ h) he hk (r.mono s)
 | hf h=>exact .hf (FX.mono h s)
 | otl h hk hv r=>refine .otl (k _ (by simp) _ h) hk hv λi ds l h1 h2=>?_;obtain⟨vs,q1,q2⟩:=r i ds l h1 h2;exact⟨vs,k l (ZAq _ (ZAR h2)) _ q1,q2.mono s⟩
theorem Zam.there2(r:Zam K F H b v fp)(h:a∈fp):∃o,H a=Z o/\ZmP o=ZFt:=by
 cases r with
 | pl r=>simp at h
 | hd _ _ _ _=>simp at h
 | hf _=>simp at h
 | ol q r=>simp at h; subst h; exact⟨_,q,rfl⟩
 | ok q hk r=>simp at h; subst h; exact⟨_,q,rfl⟩
 | ot q hk r=>simp at h; subst h; exact⟨_,q,rfl⟩
 | @otl a' kvs vvs ls q hk hv r =>
  rcases ZAy.mp h with e | e
  ·subst e; exact⟨_,q,rfl⟩
  ·obtain⟨i,hi⟩:=List.getElem?_of_mem e
   have hl:kvs.length=ls.length:=by have e1:=congrArg ZA8 hk;have e2:=congrArg ZA8 hv;rw[ZAl,ZAl]at e1 e2;omega
   have hi':i<kvs.length:=by rw[hl]; exact(ZAC.mp hi).1
   obtain⟨vs,q1,_⟩:=r i (kvs[i].2) a (by simp[hi']) hi;exact⟨_,q1,rfl⟩
theorem Zam.there'(r:Zam K F H b v fp)(h:a∈fp):∃o,H a=Z o/\∀xs,o≠.tup xs:=by
 cases r with
 | pl r=>simp at h
 | hd _ _ _ _=>simp at h
 | hf _=>simp at h
 | ol q r=>simp at h; subst h; exact⟨_,q,λ_ z=>by cases z⟩
 | ok q hk r=>simp at h; subst h; exact⟨_,q,λ_ z=>by cases z⟩
 | ot q hk r=>simp at h; subst h; exact⟨_,q,λ_ z=>by cases z⟩
 | @otl a' kvs vvs ls q hk hv r =>
  rcases ZAy.mp h with e | e
  ·subst e; exact⟨_,q,λ_ z=>by cases z⟩
  ·obtain⟨i,hi⟩:=List.getElem?_of_mem e
   have hl:kvs.length=ls.length:=by have e1:=congrArg ZA8 hk;have e2:=congrArg ZA8 hv;rw[ZAl,ZAl]at e1 e2;omega
   have hi':i<kvs.length:=by rw[hl]; exact(ZAC.mp hi).1
   obtain⟨vs,q1,_⟩:=r i (kvs[i].2) a (by simp[hi']) hi;exact⟨_,q1,λ_ z=>by cases z⟩
theorem Zam.there(r:Zam K F H b v fp)(h:a∈fp):∃o,H a=Z o:=let ⟨o,q,_⟩:=r.there' h; ⟨o,q⟩
end
structure Zbo(K:ZAo)(F0 H0 F H:Hp)(r:HM.Env)(σ:L2.St)(fp:Nat->List Addr):Prop where
 ext:Ext F0 H0 F H
 len:r.length=σ.length
 at_:∀(i:Nat) (b:HM.B),r[i]?=Z (Z b)->∃v,σ[i]?=Z (Z v)/\Zam K F H b v (fp i)
 emp:∀(i:Nat),(∀b,r[i]?≠Z (Z b))->fp i=[]
 own:∀(i:Nat) (a:Addr),a∈fp i->F a=Z_/\H0 a=Z_
 nd:∀i,(fp i).Nodup
 dis:∀(i j:Nat) (a:Addr),i≠j->a∈fp i->¬a∈fp j
 tb:Tb H0
 nt:NoT F0
def At(K:ZAo)(F0 H0 F H:Hp)(r:HM.Env)(σ:L2.St):Prop:=∃fp,Zbo K F0 H0 F H r σ fp
section
variable{K:ZAo}{F0 H0 F H F' H':Hp}{r:HM.Env}{σ:L2.St}{fp:Nat->List Addr}{i:Nat}{b:HM.B}{v:V}{d:PyData}
theorem Zbo.bound(e:Zbo K F0 H0 F H r σ fp)(h:a∈fp i):∃b,r[i]?=Z (Z b):=by
 cases q:r[i]? with
 | none=>rw[e.emp i (λb z=>by rw[q]at z; cases z)]at h; simp at h
 | some x =>
  cases x with
  | none=>rw[e.emp i (λb z=>by rw[q]at z; cases z)]at h; simp at h
  | some b=>exact⟨b,rfl⟩
theorem Zbo.there'(e:Zbo K F0 H0 F H r σ fp){a:Addr}(h:a∈fp i):∃o,H a=Z o/\∀xs,o≠.tup xs:=by obtain⟨b,hb⟩:=e.bound h;obtain⟨v,_,q⟩:=e.at_ i b hb;exact q.there' h
theorem Zbo.there2(e:Zbo K F0 H0 F H r σ fp){a:Addr}(h:a∈fp i):∃o,H a=Z o/\ZmP o=ZFt:=by obtain⟨b,hb⟩:=e.bound h;obtain⟨v,_,q⟩:=e.at_ i b hb;exact q.there2 h
theorem Zbo.there(e:Zbo K F0 H0 F H r σ fp)(h:a∈fp i):∃o,H a=Z o:=let ⟨o,q,_⟩:=e.there' h; ⟨o,q⟩
theorem Zbo.sub(e:Zbo K F0 H0 F H r σ fp):Zs F H:=e.ext.sub
theorem Zbo.grow(e:Zbo K F0 H0 F H r σ fp)(x:Ext F H F' H'):Zbo K F0 H0 F' H' r σ fp:=by
 refine⟨e.ext.trans x,e.len,λi b h=>?_,e.emp,λi a h=>⟨?_,(e.own i a h).2⟩,e.nd,e.dis,e.tb,e.nt⟩
 ·obtain⟨v,h1,h2⟩:=e.at_ i b h
  exact⟨v,h1,h2.mono x.ff λa _ o q=>x.hh a o q⟩
 ·cases q:F' a with
  | none=>rfl
  | some o =>
   rcases x.new a o q with z | z
   ·rw[(e.own i a h).1]at z; cases z
   ·obtain⟨o',h',hn⟩:=e.there' h
    exact(z.no h' hn).elim
theorem At.grow(e:At K F0 H0 F H r σ)(x:Ext F H F' H'):At K F0 H0 F' H' r σ:=let ⟨fp,e⟩:=e; ⟨fp,e.grow x⟩
theorem At.tb(e:At K F0 H0 F H r σ):Tb H:=let ⟨_,e⟩:=e; e.ext.tab e.tb
theorem At.tbx(e:At K F0 H0 F H r σ)(x:Ext F H F' H'):Tb H':=x.tab e.tb
theorem At.nt(e:At K F0 H0 F H r σ):NoT F:=let ⟨_,e⟩:=e; e.ext.nts e.nt
theorem At.ntx(e:At K F0 H0 F H r σ)(x:Ext F H F' H'):NoT F':=x.nts e.nt
theorem At.nt0(e:At K F0 H0 F H r σ):NoT F0:=let ⟨_,e⟩:=e; e.nt
theorem At.sub(e:At K F0 H0 F H r σ):Zs F H:=let ⟨_,e⟩:=e; e.ext.sub
theorem At.ext(e:At K F0 H0 F H r σ):Ext F0 H0 F H:=let ⟨_,e⟩:=e; e.ext
theorem At.refl(e:At K F0 H0 F H r σ):Ext F H F H:=.refl e.sub
theorem At.plain(e:At K F0 H0 F H r σ)(h:r[i]?=Z (Z (.pl d))):∃v,σ[i]?=Z (Z v)/\Rep K F d v:=by
 obtain⟨fp,e⟩:=e;obtain⟨v,h1,h2⟩:=e.at_ i _ h;generalize fp i=f at h2;cases h2 with
 | pl q=>exact⟨v,h1,q⟩
theorem At.any(e:At K F0 H0 F H r σ)(h:r[i]?=Z (Z b)):∃v fp,σ[i]?=Z (Z v)/\Zam K F H b v fp:=by obtain⟨fp,e⟩:=e;obtain⟨v,h1,h2⟩:=e.at_ i _ h;exact⟨v,_,h1,h2⟩
theorem At.store(e:At K F0 H0 F H r σ)(q:Zam K F H b v fp')(nd:fp'.Nodup)(h1:∀a∈fp',F a=Z_/\H0 a=Z_)(h2:∀fp,Zbo K F0 H0 F H r σ fp->∀j a,j≠i->a∈fp j->¬a∈fp') :
  At K F0 H0 F H (r.set i (Z b)) (σ.set i (Z v)):=by
 obtain⟨fp,e⟩:=e;have h2:=h2 fp e
 by_cases hi:i<r.length
 ·refine⟨λj=>if j=i then fp' else fp j,e.ext,by rw[ZBH,ZBH,e.len],λj c h=>?_,λj h=>?_,λj a h=>?_,λj=>?_,λj k a hjk h=>?_,e.tb,e.nt⟩
  ·by_cases hj:j=i
   ·subst hj
    rw[ZBl hi]at h;cases h;refine⟨v,ZBl (by rw[<-e.len]; exact hi),?_⟩;rw[if_pos rfl]; exact q
   ·rw[ZAZ (ZBy hj)]at h
    obtain⟨u,q1,q2⟩:=e.at_ j c h;refine⟨u,by rw[ZAZ (ZBy hj)]; exact q1,?_⟩;rw[if_neg hj]; exact q2
  ·by_cases hj:j=i
   ·subst hj
    exact absurd (ZBl hi) (h b)
   ·show(if j=i then fp' else fp j)=[]
    rw[if_neg hj];exact e.emp j λc z=>h c (by rw[ZAZ (ZBy hj)]; exact z)
  ·by_cases hj:j=i
   ·rw[if_pos hj]at h; exact h1 a h
   ·rw[if_neg hj]at h; exact e.own j a h
  ·show(if j=i then fp' else fp j).Nodup
   by_cases hj:j=i
   ·rw[if_pos hj]; exact nd
   ·rw[if_neg hj]; exact e.nd j
  ·show ¬a∈(if k=i then fp' else fp k)
   by_cases hj:j=i
   ·rw[if_pos hj]at h
    by_cases hk:k=i
    ·exact absurd (hj.trans hk.symm) hjk
    ·rw[if_neg hk]; exact λz=>h2 k a hk z h
   ·rw[if_neg hj]at h
    by_cases hk:k=i
    ·rw[if_pos hk]; exact h2 j a hj h
    ·rw[if_neg hk]; exact e.dis j k a hjk h
 ·have e1:r.set i (Z b)=r:=ZED (by omega)
  have e2:σ.set i (Z v)=σ:=ZED (by have:=e.len; omega);rw[e1,e2];exact⟨fp,e⟩
theorem At.set(e:At K F0 H0 F H r σ)(q:Rep K F d v):At K F0 H0 F H (r.set i (Z (.pl d))) (σ.set i (Z v)) :=
 e.store (.pl q) ZBU (λa h=>by simp at h) λ_ _ _ _ _ _ h=>by simp at h
theorem Zbo.changeW(e:Zbo K F0 H0 F H r σ fp)(hv:σ[i]?=Z (Z v))(q:Zam K F H' b v fp')(nd:fp'.Nodup)(h1:∀a∈fp',a∈fp i\/(F a=Z_/\H0 a=Z_/\∀j,a ∉ fp j))
  (h2:∀a o,H a=Z o->¬a∈fp i->H' a=Z o):At K F0 H0 F H' (r.set i (Z b)) σ:=by
 have sF:Zs F H':=λa o z=>h2 a o (e.sub a o z) λm=>by rw[(e.own i a m).1]at z; cases z
 have sH:ZaQ H0 H':=λa o z=>by
  have nm:¬a∈fp i:=λm=>by rw[(e.own i a m).2]at z; cases z
  have y:=e.ext.hh a o z;cases o<;>first | exact h2 a _ y nm | (obtain⟨ps,q⟩:=y; exact⟨ps,h2 a _ q nm⟩)
 have sT:Tb H0->Tb H':=λt=>(e.ext.tab t).keep λa o z ho=>h2 a o z λm=>by obtain⟨o',q1,q2⟩:=e.there2 m;rw[z]at q1; cases q1; exact Zt2 q2 ho
 have e':Zbo K F0 H0 F H' (r.set i Z_) (σ.set i Z_) (λj=>if j=i then[]else fp j):=by
  refine⟨⟨e.ext.ff,sH,sF,e.ext.new,sT,e.ext.nts⟩,by rw[ZBH,ZBH,e.len],λj c h=>?_,λj h=>?_,λj a h=>?_,λj=>?_,λj k a hjk h=>?_,e.tb,e.nt⟩
  ·by_cases hj:j=i
   ·subst hj
    by_cases hi:j<r.length
    ·rw[ZBl hi]at h; cases h
    ·rw[ZE9 (by rw[ZBH]; omega)]at h; cases h
   ·rw[ZAZ (ZBy hj)]at h
    obtain⟨u,q1,q2⟩:=e.at_ j c h;refine⟨u,by rw[ZAZ (ZBy hj)]; exact q1,?_⟩;rw[if_neg hj];exact q2.mono (Zs.refl F) λa ha o z=>.of (h2 a o z (e.dis j i a hj ha))
  ·show(if j=i then[]else fp j)=[]
   by_cases hj:j=i
   ·rw[if_pos hj]
   ·rw[if_neg hj]
    exact e.emp j λc z=>h c (by rw[ZAZ (ZBy hj)]; exact z)
  ·by_cases hj:j=i
   ·rw[if_pos hj]at h; simp at h
   ·rw[if_neg hj]at h; exact e.own j a h
  ·show(if j=i then[]else fp j).Nodup
   by_cases hj:j=i
   ·rw[if_pos hj]; exact ZBU
   ·rw[if_neg hj]; exact e.nd j
  ·show ¬a∈(if k=i then[]else fp k)
   by_cases hj:j=i
   ·rw[if_pos hj]at h; simp at h
   ·rw[if_neg hj]at h
    by_cases hk:k=i
    ·rw[if_pos hk]; simp
    ·rw[if_neg hk]; exact e.dis j k a hjk h
 have hF:∀a∈fp',F a=Z_/\H0 a=Z_:=λa ha=>by
  rcases h1 a ha with z | z
  ·exact e.own i a z
  ·exact⟨z.1,z.2.1⟩
 have e2:=At.store (i:=i) ⟨_,e'⟩ q nd hF λfq eq j a hj ha z=>by
  obtain⟨c,hc⟩:=eq.bound ha;rw[ZAZ (ZBy hj)]at hc;obtain⟨u1,s1,r1⟩:=eq.at_ j c (by rw[ZAZ (ZBy hj)]; exact hc);obtain⟨u2,s2,r2⟩:=e.at_ j c hc;rw[ZAZ (ZBy hj),s2]at s1;cases s1;have hm:a∈fp j:=by
   have r2':=r2.mono (H':=H') (Zs.refl F) λa ha o z=>.of (h2 a o z (e.dis j i a hj ha))
   clear r2
   generalize fq j=f1 at r1 ha;generalize fp j=f2 at r2' ⊢;cases r1 with
   | pl _=>simp at ha
   | hd _ _ _ _=>simp at ha
   | hf _=>simp at ha
   | ol _ _=>cases r2' with | ol _ _=>exact ha
   | ok _ _ _=>cases r2' with | ok _ _ _=>exact ha
   | ot _ _ _=>cases r2' with | ot _ _ _=>exact ha
   | otl a1 _ v1 _ =>
    cases r2' with
    | otl a2 _ v2 _ =>
     rw[a1]at a2;cases a2;rw[v1]at v2;have:∀{l l':List Addr},l.map V.ref=l'.map V.ref->l=l':=by
      intro l
      induction l with
      | nil=>intro l' h; cases l' with | nil=>rfl | cons _ _=>simp at h
      | cons x xs ih =>
       intro l' h;cases l' with
       | nil=>simp at h
       | cons y ys =>
        rw[ZAt,ZAt]at h;injection h with h1 h2
        injection h1 with h1
        rw[h1,ih h2]
     rw[<-this v2]; exact ha
  rcases h1 a z with w | w
  ·exact e.dis j i a hj hm w
  ·exact w.2.2 j hm
 rw[ZDY,ZDY]at e2;have es:σ.set i (Z v)=σ:=by have hi:i<σ.length:=(ZAC.mp hv).1;have hq:σ[i]=Z v:=(ZAC.mp hv).2;rw[<-hq];exact ZC4 hi
 rwa [es]at e2
theorem Zbo.change(e:Zbo K F0 H0 F H r σ fp)(hv:σ[i]?=Z (Z v))(q:Zam K F H' b v fp')(nd:fp'.Nodup)(h1:∀a∈fp',a∈fp i\/H a=Z_)
  (h2:∀a o,H a=Z o->¬a∈fp i->H' a=Z o):At K F0 H0 F H' (r.set i (Z b)) σ :=
 e.changeW hv q nd (λa ha=>(h1 a ha).imp id λz=>⟨e.sub.free z,e.ext.hh.free z,λj hj=>by obtain⟨o,ho⟩:=e.there hj;rw[z]at ho; cases ho⟩) h2
theorem At.storeNew{Hb:Hp}(e:At K F0 H0 F H r σ)(hb:At K F0 H0 F' Hb r σ)(sb:ZaQ Hb H)(q:Zam K F H b v fp')(nd:fp'.Nodup)(h1:∀a∈fp',F a=Z_/\Hb a=Z_) :
  At K F0 H0 F H (r.set i (Z b)) (σ.set i (Z v)):=by
 refine e.store q nd (λa h=>⟨(h1 a h).1,hb.ext.hh.free (h1 a h).2⟩) λfp e1 j a hj ha z=>?_;obtain⟨fq,eb⟩:=hb;obtain⟨c,hc⟩:=e1.bound ha;obtain⟨u1,s1,r1⟩:=e1.at_ j c hc;obtain⟨u2,s2,r2⟩:=eb.at_ j c hc;rw[s2]at s1;cases s1;have hn:=(h1 a z).2;have old:∀{x:Addr} {o o':HO},Hb x=Z o->H x=Z o'->(∀ps,o'≠.tbl ps)->o=o':=λ{x o o'} h1 h2 n=>sb.back h1 h2 n;generalize fp j=f1 at r1 ha;generalize fq j=f2 at r2;cases r1 with
 | pl _=>simp at ha
 | hd _ _ _ _=>simp at ha
 | hf _=>simp at ha
 | ol k _=>cases r2 with | ol k' _=>simp at ha; subst ha; rw[hn]at k'; cases k'
 | ok k _ _=>cases r2 with | ok k' _ _=>simp at ha; subst ha; rw[hn]at k'; cases k'
 | ot k _ _=>cases r2 with | ot k' _ _=>simp at ha; subst ha; rw[hn]at k'; cases k'
 | otl k _ v1 _ =>
  cases r2 with
  | otl k' hk' v2 r2' =>
   have eo:=old k' k λ_ z=>by cases z
   injection eo with eo
   subst eo;have v2':=v2;rw[v1]at v2;rcases ZAy.mp ha with z2 | z2
   ·subst z2; rw[hn]at k'; cases k'
   ·have:V.ref a∈ZDP V.ref _:=ZAv.mpr ⟨a,z2,rfl⟩
    rw[v2]at this;obtain⟨a',m1,m2⟩:=ZAv.mp this;injection m2 with m2
    subst m2;obtain⟨o,ho⟩:=Zam.there (Zam.otl k' hk' v2' r2') (ZAq _ m1);rw[hn]at ho; cases ho
theorem At.rebase(e:At K F0 H0 F H r σ):At K F H0 F H r σ:=by obtain⟨fp,e⟩:=e;exact⟨fp,⟨Zs.refl F,e.ext.hh,e.ext.sub,λ_ _ z=>.inl z,e.ext.tab,id⟩,e.len,e.at_,e.emp,e.own,e.nd,e.dis,e.tb,e.ext.nts e.nt⟩
theorem Ext.unbase{F1:Hp}(x:Ext F0 H0 F1 H1)(y:Ext F1 H0 F H):Ext F0 H0 F H :=
 ⟨x.ff.trans y.ff,y.hh,y.sub,λa o z=>(y.new a o z).elim (λq=>x.new a o q) .inr,y.tab,λt=>y.nts (x.nts t)⟩
theorem At.unbase{F1 H1:Hp}(x:Ext F0 H0 F1 H1)(n:NoT F0)(e:At K F1 H0 F H r σ):At K F0 H0 F H r σ:=by obtain⟨fp,e⟩:=e;exact⟨fp,x.unbase e.ext,e.len,e.at_,e.emp,e.own,e.nd,e.dis,e.tb,n⟩
theorem Zbo.freeze{fp:Nat->List Addr}(e:Zbo K F0 H0 F H r σ fp)(i:Nat){b:HM.B}{d:PyData}(hb:r[i]?=Z (Z b))(h1:σ[i]?=Z (Z (.ref a)))(hfp:fp i=[a])(ha:H a=Z ob)(hr:Zs F (upd F a ob)->Rep K (upd F a ob) d (.ref a))(no:HP.nt ob=ZFt:=by rfl) :
  ∃F',Ext F0 H0 F' H/\Zs F F'/\At K F0 H0 F' H (r.set i (Z (.pl d))) σ:=by
 have hF:F a=Z_:=(e.own i a (by rw[hfp]; simp)).1;have s:Zs F (upd F a ob):=Zs.upd' hF;have x:Ext F0 H0 (upd F a ob) H:=by
  refine⟨e.ext.ff.trans s,e.ext.hh,λc o z=>?_,λc o z=>?_,e.ext.tab,λt=>(e.ext.nts t).upd no⟩
  ·by_cases hc:c=a
   ·subst hc; rw[ZI]at z; cases z; exact ha
   ·rw[ZB hc]at z; exact e.sub c o z
  ·by_cases hc:c=a
   ·subst hc; exact .inr (.inl (e.own i c (by rw[hfp]; simp)).2)
   ·rw[ZB hc]at z; exact e.ext.new c o z
 refine⟨_,x,s,?_⟩;have e1:Zbo K F0 H0 (upd F a ob) H (r.set i Z_) (σ.set i Z_) (λj=>if j=i then[]else fp j):=by
  refine⟨x,by rw[ZBH,ZBH,e.len],λj c h=>?_,λj h=>?_,λj c h=>?_,λj=>?_,λj k c hjk h=>?_,e.tb,e.nt⟩
  ·by_cases hj:j=i
   ·subst hj
    rw[ZBl (ZAC.mp hb).1]at h; cases h
   ·rw[ZAZ (ZBy hj)]at h
    obtain⟨u,q1,q2⟩:=e.at_ j c h;refine⟨u,by rw[ZAZ (ZBy hj)]; exact q1,?_⟩;rw[if_neg hj]; exact q2.mono s λ_ _ _ z=>.of z
  ·show(if j=i then[]else fp j)=[]
   by_cases hj:j=i
   ·rw[if_pos hj]
   ·rw[if_neg hj]
    exact e.emp j λc z=>h c (by rw[ZAZ (ZBy hj)]; exact z)
  ·by_cases hj:j=i
   ·rw[if_pos hj]at h; simp at h
   ·rw[if_neg hj]at h
    have hca:c≠a:=λz=>e.dis j i c hj h (by rw[hfp,z]; simp);exact⟨by rw[ZB hca]; exact(e.own j c h).1,(e.own j c h).2⟩
  ·show(if j=i then[]else fp j).Nodup
   by_cases hj:j=i
   ·rw[if_pos hj]; exact ZBU
   ·rw[if_neg hj]; exact e.nd j
  ·show ¬c∈(if k=i then[]else fp k)
   by_cases hj:j=i
   ·rw[if_pos hj]at h; simp at h
   ·rw[if_neg hj]at h
    by_cases hk:k=i
    ·rw[if_pos hk]; simp
    ·rw[if_neg hk]; exact e.dis j k c hjk h
 have rp:=hr s;have e2:=At.set (i:=i) ⟨_,e1⟩ rp;rw[ZDY,ZDY]at e2;have es:σ.set i (Z (.ref a))=σ:=by have hi:i<σ.length:=(ZAC.mp h1).1;have hq:σ[i]=Z (.ref a):=(ZAC.mp h1).2;rw[<-hq];exact ZC4 hi
 rwa [es]at e2
theorem At.freeze(e:At K F0 H0 F H r σ)(i:Nat):∃F',Ext F0 H0 F' H/\Zs F F'/\At K F0 H0 F' H (HM.Zmd i r) σ:=by
 unfold HM.Zmd;split
 ·rename_i ds hb
  obtain⟨fp,e⟩:=e;obtain⟨v,h1,h2⟩:=e.at_ i _ hb;generalize hfp:fp i=f at h2;cases h2 with
  | @ol a _ vs ha q=>exact e.freeze i hb h1 hfp ha λs=>.lst (.of ZI) q.1 (q.mono s).2
 ·rename_i kvs hb
  obtain⟨fp,e⟩:=e;obtain⟨v,h1,h2⟩:=e.at_ i _ hb;generalize hfp:fp i=f at h2;cases h2 with
  | @ot a _ vvs ha hk q=>exact e.freeze i hb h1 hfp ha λs=>.dct (.inl ZI) rfl hk (q.mono s).2
 ·exact⟨F,e.ext,Zs.refl F,e⟩
end
inductive Now(K:ZAo)(r:HM.Env)(σ:L2.St)(H:Hp)(C:Hp->Hp->Hp->Prop):Prop
 | mk (F0 H0 F:Hp) (at_:At K F0 H0 F H r σ) (k:C F0 H0 F):Now K r σ H C
end HP
namespace HP
open PySem PySem.Spec PyProof.Rows L2
variable{X:Cx}{f:HM.AF}{r:HM.Env}{u:HM.TF}{F:Hp}{i:Int}{es rest:List Expr}{j:Nat}{g:PyData->PyData->Option PyData}{K:ZAo}{x:Str}
variable[FX]
def tAt(K:ZAo)(r:HM.Env)(P:Hp->Hp->Hp->V->Prop):TE:=λσ H Q=>Now K r σ H λF0 H0 F=>∀v F' H',Ext F H F' H'->P H F' H' v->Q v H'
def XE(X:Cx)(e:Expr)(f:HM.EF):Prop:=∀r d,f r=Z d->PE X e (tAt X.K r λ_ F' _ v=>Rep X.K F' d v)
def XB(X:Cx)(e:Expr)(f:HM.BF):Prop:=∀r b,f r=Z b->PE X e (tAt X.K r λ_ F' H' v=>∃fp,Zam X.K F' H' b v fp)
def XF(X:Cx)(e:Expr)(f:HM.BF):Prop:=∀r b,f r=Z b->PE X e (tAt X.K r λH F' H' v=>∃fp,Zam X.K F' H' b v fp/\fp.Nodup/\∀a∈fp,F' a=Z_/\H a=Z_)
def XT(X:Cx)(e:Expr)(f:HM.TF):Prop:=∀r c,f r=Z c->PT X e λσ H Q=>Now X.K r σ H λF0 H0 F=>∀F' H',Ext F H F' H'->Q c H'
def XW(X:Cx)(e:Expr)(f:HM.TF):Prop:=∀r c,f r=Z c->PW X e λσ H Q=>Now X.K r σ H λF0 H0 F=>∀F' H',Ext F H F' H'->Q c H'
structure XA(X:Cx)(es:List Expr)(f:HM.AF):Prop where
 len:∀r ds,f r=Z ds->ds.length=es.length
 pa:∀r ds,f r=Z ds->PA X es λσ H Q=>Now X.K r σ H λF0 H0 F=>∀vs F' H',Ext F H F' H'->Zv X.K F' ds vs->Q vs H'
def ItD(K:ZAo)(J:It)(ds:List PyData)(F:Hp):Prop:=∀F' H,Zs F F'->Zs F' H ->
 (∀(i:Nat) (d:PyData),ds[i]?=Z d->J.go i H/\∀x H',J.yld i H x H'->H'=H/\Rep K (ZbW F' H) d x)/\J.stop ds.length H
def XI(X:Cx)(tg e:Expr)(f:HM.IF):Prop:=∀r ds,f r=Z ds->PI X tg e λσ H R=>Now X.K r σ H λF0 H0 F=>∀J F' H',Ext F H F' H'->ItD X.K J ds F'->R J H'
def ZzF(K:ZAo)(F0 H0:Hp)(o:HM.Out)(E:Ends):Prop:=match o with
 | .nx r=>∀σ F H,At K F0 H0 F H r σ->E.nx σ H
 | .rt d=>∀v F H,Ext F0 H0 F H->Rep K F d v->E.rt v H
 | .bk r=>∀σ F H,At K F0 H0 F H r σ->E.bk σ H
 | .ct r=>∀σ F H,At K F0 H0 F H r σ->E.ct σ H
def tSt(K:ZAo)(r:HM.Env)(o:HM.Out):TS:=λE σ H=>Now K r σ H λF0 H0 F=>ZzF K F0 H0 o E
def XS(X:Cx)(st:Stmt)(g:HM.SF):Prop:=∀r o,g r=Z o->PS X st (tSt X.K r o)
def XSs(X:Cx)(sts:List Stmt)(g:HM.SF):Prop:=∀r o,g r=Z o->PSs X sts (tSt X.K r o)
theorem PE.imp{e:Expr}{t u:TE}(h:PE X e t)(hi:∀σ H Q,u σ H Q->t σ H Q):PE X e u:=λpins s σ H Q I q=>h pins s σ H Q I (hi σ H Q q)
theorem PT.imp{e:Expr}{t u:TT}(h:PT X e t)(hi:∀σ H Q,u σ H Q->t σ H Q):PT X e u:=λpins s σ H Q I q=>h pins s σ H Q I (hi σ H Q q)
theorem PW.imp{e:Expr}{t u:TT}(h:PW X e t)(hi:∀σ H Q,u σ H Q->t σ H Q):PW X e u:=λwh pins s σ H Q I q=>h wh pins s σ H Q I (hi σ H Q q)
theorem PA.imp{t u:TA}(h:PA X es t)(hi:∀σ H Q,u σ H Q->t σ H Q):PA X es u:=λp pins s σ H Q I q=>h p pins s σ H Q I (hi σ H Q q)
theorem PS.imp{st:Stmt}{t u:TS}(h:PS X st t)(hi:∀E σ H,u E σ H->t E σ H):PS X st u:=λpins s σ H E I q=>h pins s σ H E I (hi E σ H q)
theorem PSs.imp{sts:List Stmt}{t u:TS}(h:PSs X sts t)(hi:∀E σ H,u E σ H->t E σ H):PSs X sts u:=λpins s σ H E I q=>h pins s σ H E I (hi E σ H q)
section
variable{X:Cx}{a b c e:Expr}{fa fb fc:HM.EF}{pos p:Pos}
theorem Zu4{i:Nat}{d:PyData}(h:HM.Zb i r=Z d):r[i]?=Z (Z (.pl d)):=by
 unfold HM.Zb at h;split at h
 ·rename_i q; cases h; exact q
 ·cases h
theorem ZuH{i:Nat}{d:HM.B}(h:HM.Ze i r=Z d):r[i]?=Z (Z d):=by
 unfold HM.Ze at h;split at h
 ·rename_i q; cases h; exact q
 ·cases h
theorem Zc(i:Nat){pos:Pos}(hN:X.N[i]?=Z x:=by rfl)(hv:Vis X.env.scope x:=by first | exact ZBc rfl | exact ZAT (ZBc rfl) | exact ZAT (ZAT rfl))(hd:(x==("__debug__":Str))=ZFu:=by decide)
  (hcd:(x==("__classdict__":Str))=ZFu:=by decide):XE X (.Name x pos) (HM.Zb i):=by
 intro r d h;refine PE.imp (ZbL hN hv hd hcd) λσ H Q ⟨F0,H0,F,at_,k⟩=>?_;obtain⟨v,h1,h2⟩:=at_.plain (Zu4 h);exact⟨v,h1,k v F H at_.refl h2⟩
theorem Zo(i:Nat){pos:Pos}(hN:X.N[i]?=Z x:=by rfl)(hv:Vis X.env.scope x:=by first | exact ZBc rfl | exact ZAT (ZBc rfl) | exact ZAT (ZAT rfl))(hd:(x==("__debug__":Str))=ZFu:=by decide)
  (hcd:(x==("__classdict__":Str))=ZFu:=by decide):XB X (.Name x pos) (HM.Ze i):=by
 intro r d h;refine PE.imp (ZbL hN hv hd hcd) λσ H Q ⟨F0,H0,F,at_,k⟩=>?_;obtain⟨v,fp,h1,h2⟩:=at_.any (ZuH h);exact⟨v,h1,k v F H at_.refl ⟨fp,h2⟩⟩
theorem Zep{v:V}{d:PyData}(h:PE X e (tC v))(r:∀F,Rep X.K F d v):XE X e (HM.eC d):=by intro r' d' h';cases h';exact PE.imp h λσ H Q ⟨F0,H0,F,at_,k⟩=>k v F H at_.refl (r F)
theorem Zg:XE X (.Constant (.int i) j pos) (HM.eC (.int i)):=Zep ZtI λ_=>.int i
theorem Zdb{q:Bool}:XE X (.Constant (.bool q) j pos) (HM.eC (.bool q)):=Zep ZyP λ_=>.bl q
theorem Zb0:XE X (.Constant .none j pos) (HM.eC .none):=Zep Zuc λ_=>.non
theorem ZfX:XE X (.Constant (.str x) j pos) (HM.eC (.str x)):=Zep ZxV λ_=>.str x
theorem Zgz(hm:∃t,X.mg x=Z (.int i t))(hg:Gl X x:=by rfl)(hd:(x==("__debug__":Str))=ZFu:=by decide):XE X (.Name x pos) (HM.eC (.int i)):=by obtain⟨t,hm⟩:=hm;exact Zep (Zmv hg hm (v:=.int i) ⟨t,rfl⟩ hd) λ_=>.int i
theorem ZgD{p':Pos}:XE X (.UnaryOp .USub (.Constant (.int i) j p') pos) (HM.eC (.int (-i))):=by intro r d h;cases h;intro pins s σ H Q I q;obtain⟨F0,H0,F,at_,k⟩:=q;refine UnaryOp_ (thn (ZtI pins s σ H (λv H'=>v=.int i/\H'=H) I ⟨rfl,rfl⟩) λu s1 ⟨x,H1,I1,r1,e1,e2⟩=>?_);subst e1 e2;obtain⟨t,rfl⟩:=r1;exact neg_int ⟨.int (-i),H1,I1.tok _,⟨_,rfl⟩,k _ F H1 at_.refl (.int _)⟩
theorem ZR(h:XE X e fa):XB X e (HM.bOf fa):=by intro r b hb;obtain⟨d,h1,h2⟩:=ZAn.mp hb;subst h2;exact PE.imp (h r d h1) λσ H Q ⟨F0,H0,F,at_,k⟩=>⟨F0,H0,F,at_,λv F' H' x q=>k v F' H' x ⟨[],.pl q⟩⟩
theorem ZaD{f:HM.BF}(h:XF X e f):XB X e f:=λr b hb=>PE.imp (h r b hb) λσ H Q ⟨F0,H0,F,at_,k⟩=>⟨F0,H0,F,at_,λv F' H' x ⟨fp,q,_⟩=>k v F' H' x ⟨fp,q⟩⟩
theorem Zcb{f:HM.BF}(h:XF X e f):XE X e (HM.eOf f):=by
 intro r d hd;unfold HM.eOf at hd;obtain⟨b,h1,h2⟩:=ZDB.mp hd;refine PE.imp (h r b h1) λσ H Q ⟨F0,H0,F,at_,k⟩=>⟨F0,H0,F,at_,λv F' H' x ⟨fp,q,_,hn⟩=>?_⟩;cases q with
 | pl q=>cases h2;exact k v F' H' x q
 | @ol l ds vs hl q =>
  cases h2;have hF:F' l=Z_:=(hn l (by simp)).1;have s:Zs F' (upd F' l (.lst vs)):=Zs.upd' hF;refine k _ (upd F' l (.lst vs)) H' ⟨x.ff.trans s,x.hh,λc o z=>?_,λc o z=>?_,x.tab,λt=>(x.nts t).upd rfl⟩ (.lst (.of ZI) q.1 (q.mono s).2)
  ·by_cases hc:c=l
   ·subst hc; rw[ZI]at z; cases z; exact hl
   ·rw[ZB hc]at z; exact x.sub c o z
  ·by_cases hc:c=l
   ·subst hc; exact .inr (.inl (hn c (by simp)).2)
   ·rw[ZB hc]at z; exact x.new c o z
 | @ot l kvs vvs hl hk q =>
  cases h2;have hF:F' l=Z_:=(hn l (by simp)).1;have s:Zs F' (upd F' l (.dT vvs)):=Zs.upd' hF;refine k _ (upd F' l (.dT vvs)) H' ⟨x.ff.trans s,x.hh,λc o z=>?_,λc o z=>?_,x.tab,λt=>(x.nts t).upd rfl⟩ (.dct (.inl ZI) rfl hk (q.mono s).2)
  ·by_cases hc:c=l
   ·subst hc; rw[ZI]at z; cases z; exact hl
   ·rw[ZB hc]at z; exact x.sub c o z
  ·by_cases hc:c=l
   ·subst hc; exact .inr (.inl (hn c (by simp)).2)
   ·rw[ZB hc]at z; exact x.new c o z
 | ok _ _ _=>cases h2
 | hd h3 h4 h5 h6=>cases h2; exact k _ F' H' x (.dct (.inr ⟨_,h3⟩) h4 h5 h6.2)
 | hf h3=>cases h2; exact k _ F' H' x (.fn h3)
 | otl _ _ _ _=>cases h2
def Bin(K:ZAo)(r:R2)(g:PyData->PyData->Option PyData):Prop:=∀(F H:Hp) (x y z:PyData) (v w:V) (Q:VK),Zs F H->g x y=Z z->Rep K F x v->Rep K F y w->(∀u,Rep K F z u->Q u H)->r v w H Q
structure ZpP(X:Cx)(op:Operator)(g:PyData->PyData->Option PyData):Prop where
 ex:∃r,OpR X (ZDn op) r/\Bin X.K r g
structure Zfy(X:Cx)(op:CmpOp)(g:PyData->PyData->Option PyData):Prop where
 ex:∃r,OpR X (ZBw op) r/\Bin X.K r g
 n1:op≠.In
 n2:op≠.NotIn
theorem Zie{d:PyData}(h:HM.op2 g fa fb r=Z d):∃x y,fa r=Z x/\fb r=Z y/\g x y=Z d:=by
 unfold HM.op2 at h;split at h
 ·split at h
  ·exact⟨_,_,by assumption,by assumption,h⟩
  ·cases h
 ·cases h
theorem two{x y:PyData}{P:Hp->Hp->Hp->V->Prop}{σ:L2.St}{H:Hp}{Q:VK}{R:V->V->Hp->VK->Prop}(h:tAt K r P σ H Q)
  (hk:∀H F2 H2 v w,Zs F2 H2->Rep K F2 x v->Rep K F2 y w->(∀u F3 H3,Ext F2 H2 F3 H3->P H F3 H3 u->Q u H3)->ZaQ H H2->R v w H2 Q) :
  tOp R (tAt K r λ_ F' _ v=>Rep K F' x v) (tAt K r λ_ F' _ v=>Rep K F' y v) σ H Q:=by
 obtain⟨F0,H0,F,at_,k⟩:=h;refine⟨F0,H0,F,at_,λv F1 H1 x1 r1=>⟨F0,H0,F1,at_.grow x1,λw F2 H2 x2 r2=>?_⟩⟩;exact hk H F2 H2 v w x2.sub (r1.mono x2.ff) r2 (λu F3 H3 x3 q=>k u F3 H3 ((x1.trans x2).trans x3) q) (x1.hh.trans x2.hh)
theorem ZG{op:Operator}(o:ZpP X op g)(ha:XE X a fa)(hb:XE X b fb):XE X (.BinOp a op b pos) (HM.op2 g fa fb):=by intro r d h;obtain⟨x,y,h1,h2,h3⟩:=Zie h;obtain⟨R,o1,o2⟩:=o.ex;refine PE.imp (Zoa o1 (ha r x h1) (hb r y h2)) λσ H Q q=>?_;exact two q λ_ F2 H2 v w s r1 r2 k _=>o2 F2 H2 x y d v w Q s h3 r1 r2 λu ru=>k u F2 H2 (.refl s) ru
theorem ZhZ{op:CmpOp}(o:Zfy X op g)(ha:XE X a fa)(hb:XE X b fb):XE X (.Compare a [op] [b] pos) (HM.op2 g fa fb):=by intro r d h;obtain⟨x,y,h1,h2,h3⟩:=Zie h;obtain⟨R,o1,o2⟩:=o.ex;refine PE.imp (ZrC o1 (ha r x h1) (hb r y h2) (Zli _ o.n1 o.n2)) λσ H Q q=>?_;exact two q λ_ F2 H2 v w s r1 r2 k _=>o2 F2 H2 x y d v w Q s h3 r1 r2 λu ru=>k u F2 H2 (.refl s) ru
theorem Zg6{c:Bool}(h:HM.tV fa r=Z c):fa r=Z (.bool c):=by
 unfold HM.tV at h;split at h
 ·rename_i q; cases h; exact q
 ·cases h
theorem Rep.bool_inv{c:Bool}{v:V}(h:Rep K F (.bool c) v):v=.bl c:=by cases h; rfl
theorem Rep.int_inv{v:V}(h:Rep K F (.int i) v):v=.int i:=by cases h; rfl
theorem Rep.none_inv{v:V}(h:Rep K F .none v):v=.non:=by cases h; rfl
theorem ZV{op:CmpOp}(o:Zfy X op g)(ha:XE X a fa)(hb:XE X b fb):XT X (.Compare a [op] [b] pos) (HM.tV (HM.op2 g fa fb)):=by intro r d h;obtain⟨x,y,h1,h2,h3⟩:=Zie (Zg6 h);obtain⟨R,o1,o2⟩:=o.ex;refine PT.imp (ZmT o1 (ha r x h1) (hb r y h2) (Zli _ o.n1 o.n2)) λσ H Q ⟨F0,H0,F,at_,k⟩=>?_;refine⟨F0,H0,F,at_,λv F1 H1 x1 r1=>⟨F0,H0,F1,at_.grow x1,λw F2 H2 x2 r2=>?_⟩⟩;refine o2 F2 H2 x y _ v w _ x2.sub h3 (r1.mono x2.ff) r2 λu ru=>?_;exact⟨d,ru.bool_inv,k F2 H2 (x1.trans x2)⟩
theorem Zbi(h:XE X e fa)(he:∀whole,isTrue e X.env whole=(do let v <-whole; standAt e.pos; holding [v] (truthy v)):=by intro _; rfl):XT X e (HM.tV fa):=by intro r c hc;refine PT.imp (ZxC (h r _ (Zg6 hc)) he) λσ H Q ⟨F0,H0,F,at_,k⟩=>?_;exact⟨F0,H0,F,at_,λv F1 H1 x1 r1=>⟨c,r1.bool_inv,k F1 H1 x1⟩⟩
theorem Zci{t:HM.TF}(h:XT X a t):XT X (.UnaryOp .Not a pos) (HM.ZcW t):=by intro r c hc;obtain⟨d,h1,h2⟩:=ZAn.mp hc;subst h2;refine PT.imp (Zyq (h r d h1)) λσ H Q ⟨F0,H0,F,at_,k⟩=>?_;exact⟨F0,H0,F,at_,λF1 H1 x1=>k F1 H1 x1⟩
theorem Zin{t:HM.TF}(h:XW X e t):XT X e t:=λr c hc=>(h r c hc).pt
theorem Zv0{t:HM.TF}(h:XT X a t):XW X (.BoolOp .And [a] pos) t:=λr c hc=>Zwu (h r c hc)
theorem ZfY{t:HM.TF}(h:XT X a t):XW X (.BoolOp .Or [a] pos) t:=λr c hc=>ZxT (h r c hc)
theorem ZoZ{e:Expr}:PW X e λ_ _ _=>False:=λ_ _ _ _ _ _ _ h=>h.elim
theorem ZiG{e:Expr}:PE X e λ_ _ _=>False:=λ_ _ _ _ _ _ h=>h.elim
theorem Zw5{t:HM.TF}(ha:XT X a t)(hb:XW X (.BoolOp .And (b::rest) pos) u):XW X (.BoolOp .And (a::b::rest) pos) (HM.ZjH t u):=by
 intro r c hc;unfold HM.ZjH at hc;split at hc
 ·rename_i q
  refine PW.imp (ZtZ (ha r ZFt q) (hb r c hc)) λσ H Q ⟨F0,H0,F,at_,k⟩=>?_;exact⟨F0,H0,F,at_,λF1 H1 x1=>ZmW ⟨F0,H0,F1,at_.grow x1,λF2 H2 x2=>k F2 H2 (x1.trans x2)⟩⟩
 ·rename_i q
  cases hc;refine PW.imp (ZtZ (ha r ZFu q) ZoZ) λσ H Q ⟨F0,H0,F,at_,k⟩=>?_;exact⟨F0,H0,F,at_,λF1 H1 x1=>ZmD (k F1 H1 x1)⟩
 ·cases hc
theorem ZeL{t:HM.TF}(ha:XT X a t)(hb:XW X (.BoolOp .Or (b::rest) pos) u):XW X (.BoolOp .Or (a::b::rest) pos) (HM.tOr t u):=by
 intro r c hc;unfold HM.tOr at hc;split at hc
 ·rename_i q
  cases hc;refine PW.imp (ZvQ (ha r ZFt q) ZoZ) λσ H Q ⟨F0,H0,F,at_,k⟩=>?_;exact⟨F0,H0,F,at_,λF1 H1 x1=>ZmW (k F1 H1 x1)⟩
 ·rename_i q
  refine PW.imp (ZvQ (ha r ZFu q) (hb r c hc)) λσ H Q ⟨F0,H0,F,at_,k⟩=>?_;exact⟨F0,H0,F,at_,λF1 H1 x1=>ZmD ⟨F0,H0,F1,at_.grow x1,λF2 H2 x2=>k F2 H2 (x1.trans x2)⟩⟩
 ·cases hc
theorem Zd8{op:BoolOp}(h:XE X a fa):XE X (.BoolOp op [a] pos) fa:=λr d hd=>ZxR (h r d hd)
theorem Zd9(ha:XE X a fa)(hb:XE X (.BoolOp .And (b::rest) pos) fb):XE X (.BoolOp .And (a::b::rest) pos) (HM.ZfF fa fb):=by
 intro r d hd;unfold HM.ZfF at hd;split at hd
 ·rename_i q
  refine PE.imp (Ztk (ha r _ q) (hb r d hd)) λσ H Q ⟨F0,H0,F,at_,k⟩=>?_;exact⟨F0,H0,F,at_,λv F1 H1 x1 r1=>⟨ZFt,r1.bool_inv,ZmW ⟨F0,H0,F1,at_.grow x1,λw F2 H2 x2 r2=>k w F2 H2 (x1.trans x2) r2⟩⟩⟩
 ·rename_i q
  cases hd;refine PE.imp (Ztk (ha r _ q) ZiG) λσ H Q ⟨F0,H0,F,at_,k⟩=>?_;exact⟨F0,H0,F,at_,λv F1 H1 x1 r1=>⟨ZFu,r1.bool_inv,ZmD (k _ F1 H1 x1 (.bl ZFu))⟩⟩
 ·cases hd
theorem Zw6(ha:XE X a fa):XE X (.UnaryOp .Not a pos) (HM.Zvm fa):=by
 intro r d hd;unfold HM.Zvm at hd;split at hd
 ·rename_i c q
  cases hd;refine PE.imp (Zxr (ha r _ q)) λσ H Q ⟨F0,H0,F,at_,k⟩=>?_;exact⟨F0,H0,F,at_,λv F1 H1 x1 r1=>⟨c,r1.bool_inv,k _ F1 H1 x1 (.bl _)⟩⟩
 ·cases hd
theorem Zlz{t:HM.TF}(hc:XT X c t)(ha:XE X a fa)(hb:XE X b fb):XE X (.IfExp c a b pos) (HM.eIf t fa fb):=by
 intro r d hd;unfold HM.eIf at hd;split at hd
 ·rename_i q
  refine PE.imp (Zqj (hc r _ q) (ha r d hd) ZiG) λσ H Q ⟨F0,H0,F,at_,k⟩=>?_;exact⟨F0,H0,F,at_,λF1 H1 x1=>ZmW ⟨F0,H0,F1,at_.grow x1,λw F2 H2 x2 r2=>k w F2 H2 (x1.trans x2) r2⟩⟩
 ·rename_i q
  refine PE.imp (Zqj (hc r _ q) ZiG (hb r d hd)) λσ H Q ⟨F0,H0,F,at_,k⟩=>?_;exact⟨F0,H0,F,at_,λF1 H1 x1=>ZmD ⟨F0,H0,F1,at_.grow x1,λw F2 H2 x2 r2=>k w F2 H2 (x1.trans x2) r2⟩⟩
 ·cases hd
theorem Zoc{op op':CmpOp}{g':PyData->PyData->Option PyData}(o:Zfy X op g)(o':Zfy X op' g')(ha:XE X a fa)(hb:XE X b fb)(hc:XE X c fc)
  (hm:lastMarks [op,op'] [b,c]=ZFu:=by with_unfolding_all rfl):XE X (.Compare a [op,op'] [b,c] pos) (HM.Zl9 g g' fa fb fc):=by
 intro r d hd;unfold HM.Zl9 at hd;obtain⟨R,o1,o2⟩:=o.ex;obtain⟨R',o1',o2'⟩:=o'.ex;split at hd
 ·rename_i x hx
  split at hd
  ·rename_i y hy
   split at hd
   ·rename_i hg
    split at hd
    ·rename_i z hz
     refine PE.imp (Zpo o1 o1' (ha r x hx) (hb r y hy) (hc r z hz) hm) λσ H Q ⟨F0,H0,F,at_,k⟩=>?_;refine⟨F0,H0,F,at_,λv F1 H1 x1 r1=>⟨F0,H0,F1,at_.grow x1,λw F2 H2 x2 r2=>?_⟩⟩;refine o2 F2 H2 x y _ v w _ x2.sub hg (r1.mono x2.ff) r2 λu ru=>?_;refine⟨ZFt,ru.bool_inv,ZmW ⟨F0,H0,F2,(at_.grow x1).grow x2,λw' F3 H3 x3 r3=>?_⟩⟩;exact o2' F3 H3 y z d w w' Q x3.sub hd (r2.mono x3.ff) r3 λu' ru'=>k u' F3 H3 ((x1.trans x2).trans x3) ru'
    ·cases hd
   ·rename_i hg
    cases hd;refine PE.imp (Zpo o1 o1' (ha r x hx) (hb r y hy) ZiG hm) λσ H Q ⟨F0,H0,F,at_,k⟩=>?_;refine⟨F0,H0,F,at_,λv F1 H1 x1 r1=>⟨F0,H0,F1,at_.grow x1,λw F2 H2 x2 r2=>?_⟩⟩;refine o2 F2 H2 x y _ v w _ x2.sub hg (r1.mono x2.ff) r2 λu ru=>?_;exact⟨ZFu,ru.bool_inv,ZmD (k _ F2 H2 (x1.trans x2) (.bl ZFu))⟩
   ·cases hd
  ·cases hd
 ·cases hd
theorem Zl:XA X [] HM.Zk:=by refine⟨λr ds h=>by cases h; rfl,λr ds h=>?_⟩;cases h;exact PA.imp ZbT λσ H Q ⟨F0,H0,F,at_,k⟩=>k [] F H at_.refl .nil
theorem Zd(ha:XE X e fa)(hr:XA X es f)(hs:ZAD (e::es) X.env=(ZFu,eval e X.env)::ZAD es X.env:=by rfl):XA X (e::es) (HM.Za fa f):=by
 refine⟨λr ds h=>?_,λr ds h=>?_⟩
 ·unfold HM.Za at h
  split at h
  ·obtain⟨xs,h1,h2⟩:=ZAn.mp h
   subst h2;rw[ZAB,ZAB,hr.len r xs h1]
  ·cases h
 unfold HM.Za at h;split at h
 ·rename_i x hx
  obtain⟨xs,h1,h2⟩:=ZAn.mp h;subst h2;refine PA.imp (ZaC (ha r x hx) (hr.pa r xs h1) hs) λσ H Q ⟨F0,H0,F,at_,k⟩=>?_;exact⟨F0,H0,F,at_,λv F1 H1 x1 r1=>⟨F0,H0,F1,at_.grow x1,λvs F2 H2 x2 r2=>k (v::vs) F2 H2 (x1.trans x2) (.cons (r1.mono x2.ff) r2)⟩⟩
 ·cases h
theorem ZaH{x1:Nat}(h:XA X es f)(hl:es.length<=100:=by exact Nat.le_of_ble_eq_true rfl):XE X (.Tuple es x1 pos) (HM.Zaf f):=by
 intro r d hd;obtain⟨ds,h1,h2⟩:=ZAn.mp hd;subst h2;refine PE.imp (ZxE (h.pa r ds h1)) λσ H Q ⟨F0,H0,F,at_,k⟩=>⟨F0,H0,F,at_,λvs F1 H1 x1 r1=>⟨?_,λp hp=>?_⟩⟩
 ·have e1:=h.len r ds h1
  have e2:=r1.1;have e3:(100:Nat)<=sizeLine:=by decide
  omega
 ·have hF:F1 p=Z_:=x1.sub.free hp
  exact k _ (upd F1 p (.tup vs)) _ (x1.lay hp) (.tup ZI r1.1 (r1.mono (Zs.upd' hF)).2)
theorem ZbD(h:XA X es f)(hl:es.length<=100:=by exact Nat.le_of_ble_eq_true rfl):XF X (.List es pos) (HM.Zdl f):=by
 intro r d hd;obtain⟨ds,h1,h2⟩:=ZAn.mp hd;subst h2;refine PE.imp (ZxY (h.pa r ds h1)) λσ H Q ⟨F0,H0,F,at_,k⟩=>⟨F0,H0,F,at_,λvs F1 H1 x1 r1=>⟨?_,λp hp=>?_⟩⟩
 ·have e1:=h.len r ds h1
  have e2:=r1.1;have e3:(100:Nat)<=sizeLine:=by decide
  omega
 ·have hF:F1 p=Z_:=x1.sub.free hp
  refine k _ F1 _ (x1.lay' hp) ⟨[p],.ol ZI r1,by simp,λa ha=>?_⟩;have:a=p:=by simpa using ha
  subst this;exact⟨hF,x1.hh.free hp⟩
end
end HP
namespace HP
open PySem PySem.Spec PyProof.Rows L2
variable{f:Addr}{fd:FuncData}{g:HM.SF}{base:Heap}{N ps:List Str}{p':Pos}{P:Program}{K:ZAo}{st:Stmt}{qual x:Str}{mg:Str->Option Value}{w:World}
variable[FX]
section
variable{X:Cx}{a b c e:Expr}{fa fb fc:HM.EF}{pos p:Pos}{st:Stmt}{rest:List Stmt}{g u:HM.SF}
theorem Zkc(h:X.xe=λ_ _=>False):PassesOwn (model X.prog X.w) X.A X.env X.xe:=by rw[h]; exact PassesOwn.never
theorem ZT:XSs X [] HM.Zab:=by intro r o h;cases h;exact PSs.imp Zv9 λE σ H ⟨F0,H0,F,at_,k⟩=>k σ F H at_
theorem Zm(h:XS X st g):XSs X [st] g:=λr o ho=>Zrm (h r o ho)
theorem Zj(h1:XS X st g)(h2:XSs X rest u):XSs X (st::rest) (HM.Zr g u):=by
  intro r o h
  unfold HM.Zr at h
  split at h
  · rename_i r' q
    refine PSs.imp (ZiP (h1 r _ q) (h2 r' o h)) λE σ H ⟨F0,H0,F,at_,k⟩=>?_
    exact⟨F0,H0,F,at_,λσ' F' H' at'=>⟨F0,H0,F',at',k⟩⟩
  all_goals first
    | cases h
      rename_i q
      refine PSs.imp (ZiP (h1 r _ q) Zhq) λE σ H ⟨F0,H0,F,at_,k⟩=>?_
      exact⟨F0,H0,F,at_,k⟩
    | cases h
theorem Zk0:XS X st HM.Zii:=λr o h=>nomatch h
theorem Zx(h:XE X e fa):XS X (.Return (Z e) pos) (HM.ZD fa):=by intro r o ho;obtain⟨d,h1,h2⟩:=ZAn.mp ho;subst h2;refine PS.imp (Zpq (h r d h1)) λE σ H ⟨F0,H0,F,at_,k⟩=>?_;exact⟨F0,H0,F,at_,λv F' H' x q=>k v F' H' (at_.ext.trans x) q⟩
theorem Zrh(h:XE X e fa)(hs:ZCq e Z_ pos.line X.env=pure ZFu:=by rfl):XS X (.Expr e pos) (HM.Zsk fa):=by intro r o ho;obtain⟨d,h1,h2⟩:=ZAn.mp ho;subst h2;refine PS.imp (Zih (h r d h1) hs) λE σ H ⟨F0,H0,F,at_,k⟩=>?_;exact⟨F0,H0,F,at_,λv F' H' x q=>k σ F' H' (at_.grow x)⟩
theorem Zal{t:HM.TF}{sa sb:List Stmt}(hc:XT X c t)(ha:XSs X sa g)(hb:XSs X sb u):XS X (.If c sa sb pos) (HM.sIf t g u):=by
 intro r o ho;unfold HM.sIf at ho;split at ho
 ·rename_i q
  refine PS.imp (ZvS (hc r _ q) (ha r o ho) Zhq) λE σ H ⟨F0,H0,F,at_,k⟩=>?_;exact⟨F0,H0,F,at_,λF' H' x=>ZmW ⟨F0,H0,F',at_.grow x,k⟩⟩
 ·rename_i q
  refine PS.imp (ZvS (hc r _ q) Zhq (hb r o ho)) λE σ H ⟨F0,H0,F,at_,k⟩=>?_;exact⟨F0,H0,F,at_,λF' H' x=>ZmD ⟨F0,H0,F',at_.grow x,k⟩⟩
 ·cases ho
theorem Zcj(i:Nat)(h:XS X st g):XS X st (HM.Zd5 i g):=by intro r o ho;refine PS.imp (h (HM.Zmd i r) o ho) λE σ H ⟨F0,H0,F,at_,k⟩=>?_;obtain⟨F',_,_,a'⟩:=at_.freeze i;exact⟨F0,H0,F',a',k⟩
theorem ZS(i:Nat)(hN:X.N.Nodup)(h:XE X e fa)(hi:X.N[i]?=Z x:=by rfl)(hx:Loc X.env.scope x:=by first | exact ZBc rfl | exact ZAT rfl)
  (hs:ZCq e (Z (.Name x p')) pos.line X.env=pure ZFu:=by rfl) (hf:X.fn x=ZFt\/X.env.scope.names.lookup x=Z .local:=by first | exact .inl rfl | exact .inr rfl) :
  XS X (.Assign [.Name x p'] e pos) (HM.Z0 i fa):=by
 intro r o ho;obtain⟨d,h1,h2⟩:=ZAn.mp ho;subst h2;refine PS.imp (ZpT hN hi hx (h r d h1) hs hf) λE σ H ⟨F0,H0,F,at_,k⟩=>?_;exact⟨F0,H0,F,at_,λv F' H' x q=>k _ F' H' ((at_.grow x).set q)⟩
theorem Zau(i:Nat){f:HM.BF}(hN:X.N.Nodup)(h:XF X e f)(hi:X.N[i]?=Z x:=by rfl)(hx:Loc X.env.scope x:=by first | exact ZBc rfl | exact ZAT rfl)
  (hs:ZCq e (Z (.Name x p')) pos.line X.env=pure ZFu:=by rfl) (hf:X.fn x=ZFt\/X.env.scope.names.lookup x=Z .local:=by first | exact .inl rfl | exact .inr rfl) :
  XS X (.Assign [.Name x p'] e pos) (HM.ZU i f):=by
 intro r o ho;obtain⟨d,h1,h2⟩:=ZAn.mp ho;subst h2;refine PS.imp (ZpT hN hi hx (h r d h1) hs hf) λE σ H ⟨F0,H0,F,at_,k⟩=>?_;exact⟨F0,H0,F,at_,λv F' H' x ⟨fp,q,nd,hn⟩=>k _ F' H' ((at_.grow x).storeNew at_ x.hh q nd hn)⟩
theorem Zbv(i:Nat){iter:Expr}{body:List Stmt}{fi:HM.IF}(hN:X.N.Nodup)(hxe:X.xe=λ_ _=>False)(hc:X.calm=ZFt)(hi:XI X (.Name x p') iter fi)(hb:XSs X body g)(hix:X.N[i]?=Z x:=by rfl)
  (hx:Loc X.env.scope x:=by first | exact ZBc rfl | exact ZAT rfl) (hf:X.fn x=ZFt\/X.env.scope.names.lookup x=Z .local:=by first | exact .inl rfl | exact .inr rfl)
  (hs:∀x,ZBN iter X.env x=pure x:=by intro _; rfl):XS X (.For (.Name x p') iter body [] pos) (HM.ZaS i fi g):=by
 intro r o ho;unfold HM.ZaS at ho;split at ho
 ·rename_i ds hds
  split at ho
  ·rename_i hbig
   have pb:PSs X body (λE σ H=>∃r o,g r=Z o/\tSt X.K r o E σ H):=λpins s σ H E I ⟨r,o,h1,h2⟩=>hb r o h1 pins s σ H E I h2;refine PS.imp (ZtA (Zkc hxe) hc (hi r ds hds) (ZgB hN hix hx hf) pb hs) λE σ H ⟨F0,H0,F,at_,k⟩=>?_;refine⟨F0,H0,F,at_,λJ F1 H1 x1 it=>?_⟩;refine⟨λn m σ H=>∃F r,At X.K F0 H0 F H r σ/\Zs F1 F/\n+m=ds.length/\HM.ZaO i g (ds.drop n) r=Z o,⟨ds.length,F1,r,at_.grow x1,Zs.refl _,by omega,ho⟩,?_⟩
   rintro n m σ H ⟨F2,r2,at2,s2,hn,go⟩
   obtain⟨it1,it2⟩:=it F2 H s2 at2.sub;cases m with
   | zero =>
    have e:n=ds.length:=by omega
    subst e;rw[ZEE]at go;cases go;exact .inl ⟨it2,k σ F2 H at2⟩
   | succ m =>
    have hlt:n<ds.length:=by omega
    rw[ZDj hlt]at go;obtain⟨j1,j2⟩:=it1 n ds[n] (ZAx hlt);refine .inr ⟨j1,λσ' H'=>∃F r,At X.K F0 H0 F H' r σ'/\Zs F1 F/\HM.ZaO i g (ds.drop (n+1)) r=Z o,λσ' H' ⟨F,r,a1,a2,a3⟩=>⟨m,by omega,F,r,a1,a2,by omega,a3⟩,λy H' hy=>?_⟩;obtain⟨e1,ry⟩:=j2 y H' hy;subst e1;obtain⟨F3,at3,s3,ry⟩:∃F3,At X.K F0 H0 F3 H' r2 σ/\Zs F1 F3/\Rep X.K F3 ds[n] y:=⟨_,at2.grow at2.refl.tups,s2.trans (ZcN at2.sub),ry⟩;have a3:=at3.set (i:=i) ry;have a4:=a3.rebase;unfold HM.ZaO at go;split at go
    ·rename_i r' hr
     exact⟨_,_,hr,F3,H0,F3,a4,λσ' F' H' a'=>⟨F',r',a'.unbase at3.ext at3.nt0,s3.trans a'.ext.ff,go⟩⟩
    ·rename_i r' hr
     exact⟨_,_,hr,F3,H0,F3,a4,λσ' F' H' a'=>⟨F',r',a'.unbase at3.ext at3.nt0,s3.trans a'.ext.ff,go⟩⟩
    ·rename_i r' hr
     cases go;exact⟨_,_,hr,F3,H0,F3,a4,λσ' F' H' a'=>k σ' F' H' (a'.unbase at3.ext at3.nt0)⟩
    ·rename_i d hr
     cases go;exact⟨_,_,hr,F3,H0,F3,a4,λv F' H' x q=>k v F' H' (at3.ext.unbase x) q⟩
    ·cases go
  ·cases ho
 ·cases ho
end
def spD(K:ZAo)(n:Nat)(M:List PyData->Option PyData):Sp:=λvs H Q _=>∃F ds d,vs.length=n/\Zs F H/\Tb H/\NoT F/\Zv K F ds vs/\M ds=Z d/\∀v F' H',Ext F H F' H'->Rep K F' d v->Q v H'
structure Callee(P:Program)(w:World)(K:ZAo)(mg:Str->Option Value)(base:Heap)(k:Nat)(x:Str)(M:List PyData->Option PyData):Prop where
 ex:∃f fd ps,(∀ds d,M ds=Z d->ds.length=ps.length)/\ZdM P w K mg base CX0 k f fd ps (spD K ps.length M)/\mg x=Z (.ref f)/\ZBS K (.ref f)=ZFt/\Binds K fd ps []
theorem Callee.mono{P:Program}{w:World}{K:ZAo}{mg:Str->Option Value}{base:Heap}{j k:Nat}{x:Str}{M:List PyData->Option PyData}(C:Callee P w K mg base j x M)(h:j<=k):Callee P w K mg base k x M:=by obtain⟨f,fd,ps,l,F,r⟩:=C.ex;exact⟨f,fd,ps,l,F.mono h,r⟩
section
variable{X:Cx}{pos p:Pos}{e:Expr}{es:List Expr}{f:HM.AF}
theorem Zp{k:Nat}{M:List PyData->Option PyData}(C:Callee X.prog X.w X.K X.mg X.base k x M)(hr:Zap k X.A)(ha:XA X (e::es) f)(hg:Gl X x:=by rfl)(hdb:(x==("__debug__":Str))=ZFu:=by decide)
  (he:ZAD (e::es) X.env=(ZFu,eval e X.env)::ZAD es X.env:=by rfl) (hpl:(backTo pos (ZAD es X.env)).any (·.1)=ZFu:=by rfl):XE X (.Call (.Name x p) (e::es) [] pos) (HM.Zn M f):=by
 intro r d hd;unfold HM.Zn at hd;split at hd
 ·rename_i ds hds
  obtain⟨fa,fd,ps,hl,F,hm,hk,hb⟩:=C.ex;refine PE.imp (Zmw (E:=E0) F hr hg hm hk hb .nil Zsr (ha.pa r ds hds) hdb he hpl) λσ H Q ⟨F0,H0,F1,at_,k⟩=>?_;refine⟨F0,H0,F1,at_,λvs F' H' x q=>?_⟩;show spD X.K ps.length M (vs++[]) H' Q E0;rw[ZBa];exact⟨F',ds,d,by rw[<-q.1]; exact hl ds d hd,x.sub,at_.tbx x,at_.ntx x,q,hd,λv F2 H2 x2 q2=>k v F2 H2 (x.trans x2) q2⟩
 ·cases hd
end
theorem Zg9{F H:Hp}{ds:List PyData}{vs:List V}(s:Zs F H)(tb:Tb H)(nt:NoT F)(q:Zv K F ds vs)(hl:ds.length<=N.length):At K F H F H (HM.Zfl N.length ds) (L2.start N vs):=by
 have hv:=q.1;refine⟨λ_=>[],.refl s,?_,λi b h=>?_,λ_ _=>rfl,λi a h=>by simp at h,λ_=>ZBU,λi j a _ h=>by simp at h,tb,nt⟩
 ·unfold HM.Zfl L2.start
  rw[ZAE,ZAE,ZAl,ZAl,ZBi,ZBi,hv]
 ·unfold HM.Zfl at h
  by_cases hi:i<ds.length
  ·rw[ZA4 (by rw[ZAl]; exact hi),ZAO,ZAx hi]at h
   cases h;obtain⟨v,h1,h2⟩:=q.get (ZAx hi);refine⟨v,?_,.pl h2⟩;unfold L2.start;rw[ZA4 (by rw[ZAl,<-hv]; exact hi),ZAO,h1];rfl
  ·rw[ZBe (by rw[ZAl]; omega),ZCU]at h
   split at h<;>cases h
theorem Zry{k:Nat}(Fn:Fun K x qual st f fd)(S:Zu N ps (Zf st))
  (body:∀(cdv:Value) (A:Around) (outer:List Env) (s:Shared) (H:Hp) (E:XK),Zap k (A.deeper (envOfC qual (Zf st) s.heap.objs.size f cdv))->XSs (Zge CX0 P w K mg base N qual (Zf st) f cdv A outer s H E).nox (ZaZ st) g) :
  ZdM P w K mg base CX0 (k+1) f fd ps (spD K ps.length (HM.fnOf ps.length N.length g)):=by
 have hpl:ps.length<=N.length:=by have:=congrArg ZA8 S.pre; rw[ZB1]at this; omega
 refine Fn.ok S (λvs H Q E h=>?_) (λcdv A outer s H vs Q E hr h=>?_)
 ·obtain⟨_,_,_,h,_⟩:=h
  exact h
 ·obtain⟨F,ds,d,hl,sub,tb,nt,q,hM,kk⟩:=h
  unfold HM.fnOf at hM;split at hM
  ·rename_i hds
   have a0:=Zg9 (N:=N) sub tb nt q (by omega);split at hM
   ·rename_i r hr'
    cases hM;exact⟨_,body cdv A outer s H E hr _ _ hr',F,H,F,a0,λσ F' H' a'=>kk .non F' H' a'.ext .non⟩
   ·rename_i d' hr'
    cases hM;exact⟨_,body cdv A outer s H E hr _ _ hr',F,H,F,a0,λv F' H' x q=>kk v F' H' x q⟩
   ·cases hM
  ·cases hM
theorem Zke{k:Nat}(Fn:Fun K x qual st f fd)(S:Zu N ps (Zf st))(hm:mg x=Z (.ref f))(hb:Binds K fd ps [])
  (body:∀(cdv:Value) (A:Around) (outer:List Env) (s:Shared) (H:Hp) (E:XK),Zap k (A.deeper (envOfC qual (Zf st) s.heap.objs.size f cdv))->XSs (Zge CX0 P w K mg base N qual (Zf st) f cdv A outer s H E).nox (ZaZ st) g) :
  Callee P w K mg base (k+1) x (HM.fnOf ps.length N.length g):=by
 refine⟨f,fd,ps,λds d h=>?_,Zry Fn S body,hm,Fn.kp,hb⟩;unfold HM.fnOf at h;split at h
 ·assumption
 ·cases h
end HP
namespace HP
open PySem PySem.Spec PyProof.Rows L2
variable{q:HM.B}{F H:Hp}{ds:List PyData}{K:ZAo}
variable[FX]
section
variable{X:Cx}{a b c e:Expr}{fa fb fc:HM.EF}{pos p:Pos}
theorem Zhc{h:Int->Int->Option PyData}{x y z:PyData}(e:HM.Zfw h x y=Z z):∃i j,x=.int i/\y=.int j/\h i j=Z z:=by
 unfold HM.Zfw at e;split at e
 ·exact⟨_,_,rfl,rfl,e⟩
 ·cases e
theorem ZmV{g:Int->Int->V}{h:Int->Int->PyData}(hr:∀F i j,Rep K F (h i j) (g i j)):Bin K (rI0 g) (HM.Zfw λi j=>Z (h i j)):=by intro F H x y z v w Q s e r1 r2 k;obtain⟨i,j,rfl,rfl,e⟩:=Zhc e;cases e;exact⟨i,j,r1.int_inv,r2.int_inv,k _ (hr F i j)⟩
theorem Zbg:ZpP X .Add HM.Zaz:=⟨_,Zx0,ZmV λ_ _ _=>.int _⟩
theorem ZvN:ZpP X .Sub HM.ZmA:=⟨_,ZxZ,ZmV λ_ _ _=>.int _⟩
theorem Zfd:ZpP X .Mult HM.Zcx:=by
 refine⟨_,Zxe,λF H x y z v w Q s e r1 r2 k=>?_⟩;obtain⟨i,j,rfl,rfl,e'⟩:=Zhc e;split at e'
 ·rename_i hs
  cases e';refine⟨i,j,r1.int_inv,r2.int_inv,?_,k _ (.int _)⟩;unfold HM.Z8 at hs;rw[ZCY,ZDx,ZDx]at hs;unfold Zsd;omega
 ·cases e'
theorem oMod:ZpP X .Mod HM.ZuL:=by
 refine⟨_,ZxF,λF H x y z v w Q s e r1 r2 k=>?_⟩;obtain⟨i,j,rfl,rfl,e'⟩:=Zhc e;split at e'
 ·rename_i hs
  cases e';exact⟨i,j,r1.int_inv,r2.int_inv,hs,k _ (.int _)⟩
 ·cases e'
theorem cLt:Zfy X .Lt HM.gLt:=⟨⟨_,ZyR,ZmV λ_ _ _=>.bl _⟩,by decide,by decide⟩
theorem cLe:Zfy X .LtE HM.gLe:=⟨⟨_,ZyJ,ZmV λ_ _ _=>.bl _⟩,by decide,by decide⟩
theorem cGt:Zfy X .Gt HM.gGt:=⟨⟨_,Zze,ZmV λ_ _ _=>.bl _⟩,by decide,by decide⟩
theorem cGe:Zfy X .GtE HM.gGe:=⟨⟨_,Zy9,ZmV λ_ _ _=>.bl _⟩,by decide,by decide⟩
theorem Rep.non_iff{d:PyData}{v:V}(h:Rep K F d v):decide (v=.non)=match d with | .none=>ZFt | _=>ZFu:=by cases h<;>first | rfl | exact decide_eq_false (λz=>nomatch z)
theorem ZmQ:Zfy X .Is HM.ZiL:=by
 refine⟨⟨_,ZyE,λF H x y z v w Q s e r1 r2 k=>?_⟩,by decide,by decide⟩;unfold HM.ZiL at e;split at e
 ·refine⟨r2.none_inv,k _ ?_⟩
  rw[r1.non_iff];split at e
  ·cases e; exact .bl _
  ·rename_i hx
   cases e;cases x<;>first | exact .bl _ | exact absurd rfl hx
 ·cases e
theorem ZsS:Zfy X .IsNot HM.Zhp:=by
 refine⟨⟨_,ZwP,λF H x y z v w Q s e r1 r2 k=>?_⟩,by decide,by decide⟩;unfold HM.Zhp at e;split at e
 ·refine⟨r2.none_inv,k _ ?_⟩
  rw[r1.non_iff];split at e
  ·cases e; exact .bl _
  ·rename_i hx
   cases e;cases x<;>first | exact .bl _ | exact absurd rfl hx
 ·cases e
theorem ZhS{h:Heap}:∀{ds:List PyData} {us:List Value},ds.length=us.length->(∀(i:Nat) d u,ds[i]?=Z d->us[i]?=Z u->∃as,Reads h u d as)->∃as,ReadsAll h us ds as
 | [],[],_,_=>⟨[],.nil⟩
 | [],_::_,hl,_=>by simp at hl
 | _::_,[],hl,_=>by simp at hl
 | d::ds,u::us,hl,k=>by obtain⟨as,h1⟩:=k 0 d u rfl rfl;obtain⟨bs,h2⟩:=ZhS (ds:=ds) (us:=us) (by simpa using hl) λi d u e1 e2=>k (i+1) d u (by simpa using e1) (by simpa using e2);exact⟨_,.cons h1 h2⟩
theorem ZrG:∀{ds:List PyData},ZC1 ds=ZFt->∀{i:Nat} {d:PyData},ds[i]?=Z d->d.canLay0=ZFt
 | [],_,i,d,e=>by simp at e
 | x::ds,h,i,d,e=>by
  have h':(x.canLay0&&ZC1 ds)=ZFt:=h;rw[ZAW]at h';cases i with
  | zero=>rw[ZCV]at e; cases e; exact h'.1
  | succ i=>rw[ZBb]at e; exact ZrG h'.2 e
theorem Zp7(h:ZC1 ds=ZFt){i:Nat}{d:PyData}(e:ds[i]?=Z d):d.canLay0=ZFt:=ZrG h e
theorem Rep.reads{pins:List (Addr × Obj)}{s:Shared}{σ:L2.St}{d:PyData}{v:V}(I:Inv X pins σ H s)(sub:Zs F H)(r:Rep X.K F d v):d.canLay0=ZFt->∀u,RelV v u->∃as,Reads s.heap u d as:=by
 induction r with
 | non=>intro _ u ru; cases ru; exact⟨[],.none⟩
 | bl b=>intro _ u ru; cases ru; exact⟨[],.bool b⟩
 | int i=>intro _ u ru; obtain⟨t,rfl⟩:=ru; exact⟨[],.int i t⟩
 | str x=>intro _ u ru; obtain⟨t,rfl⟩:=ru; exact⟨[],.str x t⟩
 | dct _ _ _ _ _=>intro z; cases z
 | fn _=>intro z; cases z
 | @tupk a x h=>intro z u ru;cases ru;obtain⟨its,rv,⟨o,ho,hc,n,hd⟩,_⟩:=I.tuple (.inr h);obtain⟨u,rfl,t,rfl⟩:=rv.one;exact⟨_,.tuple ho hc hd (by simpa using ReadsAll.cons (.str x t) .nil)⟩
 | @tup a ds vs h hl _ ih =>
  intro z u ru;cases ru;obtain⟨its,rv,⟨o,ho,hc,n,hd⟩,_⟩:=I.tuple (.of (sub _ _ h));obtain⟨as,hr⟩:=ZhS (h:=s.heap) (ds:=ds) (us:=its) (hl.trans rv.length) λi d u e1 e2=>by
   have hi:i<vs.length:=by rw[<-hl]; exact(ZAC.mp e1).1
   obtain⟨u',q1,q2⟩:=rv.get (ZAx hi);rw[e2]at q1;cases q1;exact ih i d _ e1 (ZAx hi) (Zp7 z e1) u q2
  exact⟨_,.tuple ho hc hd (by simpa using hr)⟩
 | @lst a ds vs h hl _ ih =>
  intro z u ru;cases ru;obtain⟨its,rv,⟨o,n,ho,hc,_,hd⟩,_⟩:=I.list (sub.seq h);obtain⟨as,hr⟩:=ZhS (h:=s.heap) (ds:=ds) (us:=its) (hl.trans rv.length) λi d u e1 e2=>by
   have hi:i<vs.length:=by rw[<-hl]; exact(ZAC.mp e1).1
   obtain⟨u',q1,q2⟩:=rv.get (ZAx hi);rw[e2]at q1;cases q1;exact ih i d _ e1 (ZAx hi) (Zp7 z e1) u q2
  exact⟨_,.list ho hc hd (by simpa using hr)⟩
def Zyg(K:ZAo)(neg:Bool):R2:=λv w H Q=>∃F x y,Zs F H/\Rep K F x v/\Rep K F y w/\HM.Z2 x=ZFt/\HM.Z2 y=ZFt/\Q (.bl (if neg then !PyData.eqv x y else ZA6 x y)) H
theorem ZcY{d:PyData}(h:HM.Z2 d=ZFt):d.canLay0=ZFt/\d.depth<=60:=by unfold HM.Z2 at h;simpa using h
theorem Zzb{k:Nat}(hr:Zap k X.A):OpR X (ZBw .Eq) (Zyg X.K ZFu):=by intro pins s σ H v w u u' Q I r1 r2 ⟨F,x,y,sub,q1,q2,p1,p2,q⟩;obtain⟨a1,a2⟩:=ZcY p1;obtain⟨b1,b2⟩:=ZcY p2;obtain⟨as,h1⟩:=q1.reads I sub a1 u r1;obtain⟨bs,h2⟩:=q2.reads I sub b1 u' r2;refine ZE1 X.prog X.w X.A X.xe s u u' x y as bs _ h1 h2 a1 b1 ?_ ⟨.bl _,H,I,rfl,q⟩;have:=hr.un;have:min x.depth y.depth<=60:=ZBm (ZER _ _) a2;omega
theorem ZyV{k:Nat}(hr:Zap k X.A):OpR X (ZBw .NotEq) (Zyg X.K ZFt):=by intro pins s σ H v w u u' Q I r1 r2 ⟨F,x,y,sub,q1,q2,p1,p2,q⟩;obtain⟨a1,a2⟩:=ZcY p1;obtain⟨b1,b2⟩:=ZcY p2;obtain⟨as,h1⟩:=q1.reads I sub a1 u r1;obtain⟨bs,h2⟩:=q2.reads I sub b1 u' r2;refine PySem.SeqAt.neOverData X.prog X.w X.A X.xe s u u' x y as bs _ h1 h2 a1 b1 ?_ ⟨.bl _,H,I,rfl,q⟩;have:=hr.un;have:min x.depth y.depth<=60:=ZBm (ZER _ _) a2;omega
theorem cEq{k:Nat}(hr:Zap k X.A):Zfy X .Eq HM.gEq:=by
 refine⟨⟨_,Zzb hr,λF H x y z v w Q s e r1 r2 k=>?_⟩,by decide,by decide⟩;unfold HM.gEq at e;split at e
 ·rename_i hp
  cases e;rw[ZAW]at hp;exact⟨F,x,y,s,r1,r2,hp.1,hp.2,k _ (.bl _)⟩
 ·cases e
theorem cNe{k:Nat}(hr:Zap k X.A):Zfy X .NotEq HM.gNe:=by
 refine⟨⟨_,ZyV hr,λF H x y z v w Q s e r1 r2 k=>?_⟩,by decide,by decide⟩;unfold HM.gNe at e;split at e
 ·rename_i hp
  cases e;rw[ZAW]at hp;exact⟨F,x,y,s,r1,r2,hp.1,hp.2,k _ (.bl _)⟩
 ·cases e
theorem Zg7{v:V}{fp:List Addr}(sub:Zs F H)(r:Zam K F H q v fp)(h:HM.ZcM q=Z ds):∃a vs,v=.ref a/\(SqL K H a vs\/SqT K H a vs)/\Zv K F ds vs:=by
 cases r with
 | pl r =>
  cases r with
  | tup h1 h2 h3=>cases h; exact⟨_,_,rfl,.inr (.of (sub _ _ h1)),h2,h3⟩
  | @tupk a x h1=>cases h; exact⟨_,_,rfl,.inr (.inr h1),.one (.str x)⟩
  | lst h1 h2 h3=>cases h; exact⟨_,_,rfl,.inl (sub.seq h1),h2,h3⟩
  | dct _ _ _ _=>cases h
  | fn _=>cases h
  | non=>cases h
  | bl _=>cases h
  | int _=>cases h
  | str _=>cases h
 | ol h1 r=>cases h; exact⟨_,_,rfl,.inl (.of h1),r⟩
 | ok _ _ _=>cases h
 | hd _ _ _ _=>cases h
 | hf _=>cases h
 | ot _ _ _=>cases h
 | otl _ _ _ _=>cases h
theorem Zwn{vs:List V}{i:Int}{d:PyData}(r:Zv K F ds vs)(h:HM.atD ds i=Z d):∃v,atI vs i=Z v/\Rep K F d v:=by
 unfold HM.atD at h;split at h
 ·rename_i j hj
  obtain⟨v,h1,h2⟩:=r.get h;refine⟨v,?_,h2⟩;unfold atI;rw[<-r.1,show ixN ds.length i=Z j from hj];exact h1
 ·cases h
theorem Zt{fb':HM.BF}(ha:XB X a fb')(hb:XE X b fb)(hs:Zrx b:=by intro _ _; rfl):XE X (.Subscript a b pos) (HM.eIx fb' fb):=by
 intro r d h;unfold HM.eIx at h;split at h
 ·rename_i x hx
  split at h
  ·rename_i ds hds
   split at h
   ·rename_i i hi
    refine PE.imp (ZyY Zx9 (ha r x hx) (hb r _ hi) hs) λσ H Q ⟨F0,H0,F,at_,k⟩=>?_;refine⟨F0,H0,F,at_,λv F1 H1 x1 ⟨fp,r1⟩=>⟨F0,H0,F1,at_.grow x1,λw F2 H2 x2 r2=>?_⟩⟩;obtain⟨l,vs,e1,hq,rs⟩:=Zg7 x2.sub (r1.mono x2.ff λ_ _ _ z=>x2.hh _ _ z) hds;obtain⟨u,hu,ru⟩:=Zwn rs h;have fin:=k u F2 H2 (x1.trans x2) ru;rcases hq with hq | hq
    ·exact .inl ⟨l,vs,i,u,e1,r2.int_inv,hq,hu,fin⟩
    ·exact .inr (.inl ⟨l,vs,i,u,e1,r2.int_inv,hq,hu,fin⟩)
   ·cases h
  ·cases h
 ·cases h
def PAB(X:Cx)(e:Expr)(r:HM.Env)(q:HM.B):Prop:=PA X [e] λσ H Q=>Now X.K r σ H λF0 H0 F=>∀v fp F' H',Ext F H F' H'->Zam X.K F' H' q v fp->Q [v] H'
theorem Zff{f:HM.BF}{r:HM.Env}(ha:XB X e f)(h:f r=Z q)(hs:ZAD [e] X.env=[(ZFu,eval e X.env)]:=by rfl):PAB X e r q:=by refine PA.imp (ZaC (ha r q h) ZbT hs) λσ H Q ⟨F0,H0,F,at_,k⟩=>?_;exact⟨F0,H0,F,at_,λv F1 H1 x1 ⟨fp,r1⟩=>k v fp F1 H1 x1 r1⟩
end
end HP
namespace HP
open PySem PySem.Spec PyProof.Rows L2
variable[FX]
theorem Zxm:ZBr "all" = Z (.builtin "all"):=by decide +kernel
theorem Zxv:ZBr "len" = Z (.builtin "len"):=by decide +kernel
theorem Zt7:ZBr "max" = Z (.builtin "max"):=by decide +kernel
theorem ZpS:ZBr "min" = Z (.builtin "min"):=by decide +kernel
theorem Znl:ZBr "sorted" = Z (.builtin "sorted"):=by decide +kernel
theorem Zn0:ZBr "isinstance" = Z (.builtin "isinstance"):=by decide +kernel
theorem Zqf:ZBr "int" = Z (.type "int"):=by decide +kernel
theorem ZwW:ZBr "bool" = Z (.type "bool"):=by decide +kernel
theorem Zwk:ZBr "list" = Z (.type "list"):=by decide +kernel
theorem Zlv:ZBr "tuple" = Z (.type "tuple"):=by decide +kernel
theorem ZxJ:ZBr "set" = Z (.type "set"):=by decide +kernel
section
variable{X:Cx}{a b c e:Expr}{fa fb fc:HM.EF}{pos p:Pos}{f:HM.BF}
theorem ZaI(hm:X.mg "len" = Z_)(ha:XB X a f)(hg:Gl X "len":=by rfl)(hs:ZAD [a] X.env=[(ZFu,eval a X.env)]:=by rfl):XE X (.Call (.Name "len" p) [a] [] pos) (HM.Z6 f):=by
 intro r d h;unfold HM.Z6 at h;split at h
 ·rename_i x hx
  obtain⟨n,h1,h2⟩:=ZAn.mp h;subst h2;refine PE.imp (Zc1 (Zpd.or ZtC) hg hm Zxv (Zff ha hx hs) (he:=hs)) λσ H Q ⟨F0,H0,F,at_,k⟩=>?_;refine⟨F0,H0,F,at_,λv fp F1 H1 x1 r1=>?_⟩;have fin:=λ(m:Nat) (e:m=n)=>k (.int m) F1 H1 x1 (by rw[e]; exact .int _);cases r1 with
  | pl q =>
   cases q with
   | tup q1 q2 q3=>cases h1; exact .inl ⟨_,_,rfl,.inr (.of (x1.sub _ _ q1)),fin _ q2.symm⟩
   | tupk q1=>cases h1; exact .inl ⟨_,_,rfl,.inr (.inr q1),fin _ rfl⟩
   | lst q1 q2 q3=>cases h1; exact .inl ⟨_,_,rfl,.inl (x1.sub.seq q1),fin _ q2.symm⟩
   | dct _ _ _ _=>cases h1
   | fn _=>cases h1
   | non=>cases h1
   | bl _=>cases h1
   | int _=>cases h1
   | str _=>cases h1
  | ol q1 q2=>cases h1; exact .inl ⟨_,_,rfl,.inl (.of q1),fin _ q2.1.symm⟩
  | ok q1 q2 q3=>cases h1;refine .inr ⟨_,_,rfl,q1,fin _ ?_⟩;have:=congrArg ZA8 q2;rw[ZAl,ZAl]at this;exact this.symm
  | ot _ _ _=>cases h1
  | otl _ _ _ _=>cases h1
  | hd _ _ _ _=>cases h1
  | hf _=>cases h1
 ·cases h
theorem Zaa(hm:X.mg "tuple" = Z_)(ha:XB X a f)(hg:Gl X "tuple":=by rfl)(hs:ZAD [a] X.env=[(ZFu,eval a X.env)]:=by rfl):XE X (.Call (.Name "tuple" p) [a] [] pos) (HM.Z1 f):=by
 intro r d h;unfold HM.Z1 at h;split at h
 ·rename_i x hx
  obtain⟨ds,h1,h2⟩:=ZAn.mp h;subst h2;refine PE.imp (ZdN ZnU hg hm Zlv (Zff ha hx hs) (he:=hs)) λσ H Q ⟨F0,H0,F,at_,k⟩=>?_;refine⟨F0,H0,F,at_,λv fp F1 H1 x1 r1=>?_⟩;have new:∀(vs:List V),Zv X.K F1 ds vs->∀l,H1 l=Z_->Q (.ref l) (upd H1 l (.tup vs)):=λvs q l hl=>k _ (upd F1 l (.tup vs)) _ (x1.lay hl) (.tup ZI q.1 (q.mono (Zs.upd' (x1.sub.free hl))).2);cases r1 with
  | pl q =>
   cases q with
   | tup q1 q2 q3=>cases h1; exact⟨_,_,rfl,.inr ⟨.of (x1.sub _ _ q1),k _ F1 H1 x1 (.tup q1 q2 q3)⟩⟩
   | tupk q1=>cases h1; exact⟨_,_,rfl,.inr ⟨.inr q1,k _ F1 H1 x1 (.tupk q1)⟩⟩
   | lst q1 q2 q3=>cases h1; exact⟨_,_,rfl,.inl ⟨x1.sub.seq q1,new _ ⟨q2,q3⟩⟩⟩
   | dct _ _ _ _=>cases h1
   | fn _=>cases h1
   | non=>cases h1
   | bl _=>cases h1
   | int _=>cases h1
   | str _=>cases h1
  | ol q1 q2=>cases h1; exact⟨_,_,rfl,.inl ⟨.of q1,new _ q2⟩⟩
  | ok _ _ _=>cases h1
  | ot _ _ _=>cases h1
  | otl _ _ _ _=>cases h1
  | hd _ _ _ _=>cases h1
  | hf _=>cases h1
 ·cases h
theorem ZeC{K:ZAo}{F H F1 H1:Hp}{ds:List PyData}{vs:List V}{l:Addr}{P:V->Hp->Hp->Prop}(x1:Ext F H F1 H1)(q:Zv K F1 ds vs)(hl:H1 l=Z_)
  (k:∀v F' H',Ext F H F' H'->(∃fp,Zam K F' H' (.ol ds) v fp/\fp.Nodup/\∀a∈fp,F' a=Z_/\H a=Z_)->P v F' H'):P (.ref l) F1 (upd H1 l (.lst vs)):=by
 refine k _ F1 _ (x1.lay' hl) ⟨[l],.ol ZI q,by simp,λa ha=>?_⟩;have:a=l:=by simpa using ha
 subst this;exact⟨x1.sub.free hl,x1.hh.free hl⟩
theorem Zjn(hm:X.mg "list" = Z_)(ha:XB X a f)(hg:Gl X "list":=by rfl)(hs:ZAD [a] X.env=[(ZFu,eval a X.env)]:=by rfl):XF X (.Call (.Name "list" p) [a] [] pos) (HM.Zh8 f):=by
 intro r d h;unfold HM.Zh8 at h;split at h
 ·rename_i x hx
  obtain⟨ds,h1,h2⟩:=ZAn.mp h;subst h2;refine PE.imp (ZdN Zqd hg hm Zwk (Zff ha hx hs) (he:=hs)) λσ H Q ⟨F0,H0,F,at_,k⟩=>?_;refine⟨F0,H0,F,at_,λv fp F1 H1 x1 r1=>?_⟩;obtain⟨l,vs,e1,hq,rs⟩:=Zg7 x1.sub r1 h1;subst e1;exact⟨l,vs,rfl,hq,λl' hl'=>ZeC (P:=λv _ H'=>Q v H') x1 rs hl' k⟩
 ·cases h
theorem ZlU{K:ZAo}{F:Hp}:∀{ds:List PyData} {vs:List V} {bs:List Bool},HM.Zfh ds=Z bs->Zv K F ds vs->vs=bs.map V.bl
 | [],vs,bs,h,r=>by cases h;exact r.nil_inv
 | d::ds,vs,bs,h,r=>by
  obtain⟨v,us,rfl,r1,r2⟩:=r.cons_inv;cases d with
  | bool b=>obtain⟨bs',h1,h2⟩:=ZAn.mp h;subst h2;rw[r1.bool_inv,ZlU h1 r2];rfl
  | none=>cases h
  | int _=>cases h
  | str _=>cases h
  | list _=>cases h
  | tuple _=>cases h
  | dict _=>cases h
end
end HP
namespace HP
open PySem PySem.Spec PyProof.Rows L2
variable{p2:Pos}
variable[FX]
section
variable{X:Cx}{a b c e:Expr}{fa fb fc:HM.EF}{pos p:Pos}{f:HM.BF}
theorem Zq3:∀{bs:List Bool} {us:List Value},Vals (bs.map V.bl) us->LSm.BoolsAre us bs:=by
 intro bs
 induction bs with
 | nil=>intro us r; rw[ZCl]at r; cases r; exact .nil
 | cons b bs ih =>
  intro us r;rw[ZAt]at r;cases r with
  | cons r1 r2=>cases r1;exact .cons b (ih r2)
theorem ZxW{A:Around}{s:Shared}{l:Addr}{vs:List Value}{bs:List Bool}{dflt:Bool}(hh:A.handled=Z_)(hl:s.heap.IsList l vs.toArray)(hb:LSm.BoolsAre vs bs){E:Value->Shared->Prop}{Q:Value->Shared->Prop}{prog:Program}{w:World}
  (h:∀it fp wr (P:Nat->Value->Prop) St,Walks prog w A it fp wr vs.length P St->St 0 (s.heap.push { cls:=.type "list_iterator",data:=.fields #[.ref l,rawInt 0] })->TruthOf prog w A P (λi=>(bs[i]?).getD dflt)->wr=[s.heap.objs.size]->it=s.heap.objs.size->Q (.ref it) { s with heap:=s.heap.push { cls:=.type "list_iterator",data:=.fields #[.ref l,rawInt 0] } }) :
  wpAny (model prog w) A (pyIter (.ref l)) Q E s:=by
 have hlt:l<s.heap.objs.size:=let ⟨_,e,_⟩:=hl; ZAG e
 refine ZEr hl ?_;have W:=Walks.list (prog:=prog) (w:=w) hh s.heap.objs.size l (ZAK hlt) vs.toArray;rw[ZAJ]at W;refine h _ _ _ _ _ W ⟨⟨_,ZAH _ rfl,rfl,rfl⟩,hl.push _⟩ (λi v s' Q' E' hP hQ=>?_) rfl rfl;obtain⟨b,e,rfl⟩:=hb.get i v (by simpa using hP);simp only[e,Option.getD_some]at hQ;exact ZB5 hQ
theorem ZtV(hc:X.calm=ZFt):Za8 X (.builtin "all") (λxs H Q=>∃(p:Addr) (bs:List Bool),xs=[.ref p]/\SqL X.K H p (bs.map V.bl)/\Q (.bl (bs.all id)) H):=by intro pins s σ H xs us Q I r h;obtain⟨p,bs,rfl,hq,q⟩:=h;obtain⟨u,rfl,rx⟩:=vals1 r;cases rx;obtain⟨its,rv,pl,hz⟩:=I.list hq;have hb:=Zq3 rv;refine call_all_walk (ZxW (dflt:=ZFt) (A:=X.A.in1) (I.ok.hd hc) pl.isList hb λit fp wr P St W st tr e1 e2=>?_);subst e1 e2;refine⟨_,_,_,_,P,St,_,rfl,W,st,tr,λh' tk hk=>?_⟩;rw[hb.length,LSm.range_all bs];exact⟨.bl _,H,I.kept (LSm.kept_iter hk),rfl,q⟩
theorem ZdR{K:ZAo}{F H:Hp}{q:HM.B}{v:V}{fp:List Addr}{ds:List PyData}(sub:Zs F H)(r:Zam K F H q v fp)(h:HM.Zi1 q=Z ds):∃a vs,v=.ref a/\SqL K H a vs/\Zv K F ds vs:=by
 cases r with
 | pl r =>
  cases r with
  | lst h1 h2 h3=>cases h; exact⟨_,_,rfl,sub.seq h1,h2,h3⟩
  | dct _ _ _ _=>cases h
  | fn _=>cases h
  | tupk _=>cases h
  | tup _ _ _=>cases h
  | non=>cases h
  | bl _=>cases h
  | int _=>cases h
  | str _=>cases h
 | ol h1 r=>cases h; exact⟨_,_,rfl,.of h1,r⟩
 | ok _ _ _=>cases h
 | hd _ _ _ _=>cases h
 | hf _=>cases h
 | ot _ _ _=>cases h
 | otl _ _ _ _=>cases h
theorem ZgE(hm:X.mg "all" = Z_)(hc:X.calm=ZFt)(ha:XB X a f)(hg:Gl X "all":=by rfl)(hs:ZAD [a] X.env=[(ZFu,eval a X.env)]:=by rfl):XE X (.Call (.Name "all" p) [a] [] pos) (HM.ZiX f):=by
 intro r d h;unfold HM.ZiX at h;split at h
 ·rename_i x hx
  split at h
  ·rename_i ds hds
   obtain⟨bs,h1,h2⟩:=ZAn.mp h;subst h2;refine PE.imp (Zc1 (ZtV hc) hg hm Zxm (Zff ha hx hs) (he:=hs)) λσ H Q ⟨F0,H0,F,at_,k⟩=>?_;refine⟨F0,H0,F,at_,λv fp F1 H1 x1 r1=>?_⟩;obtain⟨l,vs,e1,hq,rs⟩:=ZdR x1.sub r1 hds;rw[ZlU h1 rs]at hq;exact⟨l,bs,by rw[e1],hq,k _ F1 H1 x1 (.bl _)⟩
  ·cases h
 ·cases h
theorem Zqn{tyn:String}{t:HM.Ty}(hr:∀(s:Shared) (d:PyData) (v:V) (u:Value) (Q:Value->Shared->Prop),RelV v u->(∃(K:ZAo) (F:Hp),Rep K F d v)->(∀es,d≠.dict es)->(∀x,v=.ref x->∃o,s.heap.get? x=Z o/\((∃ds,d=.tuple ds/\o.cls=.type "tuple")\/(∃ds,d=.list ds/\o.cls=.type "list")\/∃ds,d=.dict ds/\o.cls=.type "dict")) ->
   (∀tk,Q (.bool (HM.Zj7 t d)) { s with toks:=tk })->wpAny (model X.prog X.w) X.A (call (.builtin "isinstance") [u,.type tyn]) Q X.xe s) :
  Za8 X (.builtin "isinstance") (λxs H Q=>∃F d v,xs=[v,.ty tyn]/\Zs F H/\Rep X.K F d v/\(∀es,d≠.dict es)/\Q (.bl (HM.Zj7 t d)) H):=by
 intro pins s σ H xs us Q I r h;obtain⟨F,d,v,rfl,sub,rp,nd,q⟩:=h;obtain⟨u,u',rfl,ru,ru'⟩:=vals2 r;cases(show u'=ZCJ tyn from ru');refine hr s d v u _ ru ⟨_,_,rp⟩ nd (λx e=>?_) λtk=>⟨.bl _,H,I.tok tk,rfl,q⟩;subst e;cases rp with
 | tup h1 h2 h3=>obtain⟨its,rv,⟨o,ho,hc,n,hd⟩,_⟩:=I.tuple (.of (sub _ _ h1));exact⟨o,ho,.inl ⟨_,rfl,hc⟩⟩
 | tupk h1=>obtain⟨its,rv,⟨o,ho,hc,n,hd⟩,_⟩:=I.tuple (.inr h1);exact⟨o,ho,.inl ⟨_,rfl,hc⟩⟩
 | lst h1 h2 h3=>obtain⟨its,rv,⟨o,n,ho,hc,_,hd⟩,_⟩:=I.list (sub.seq h1);exact⟨o,ho,.inr (.inl ⟨_,rfl,hc⟩)⟩
 | @dct a es kvs vvs h1 _ _ _=>obtain⟨_,_,xs,_,o,es,ep,q1,q2,_⟩:=(show Zai X.prog X.w H s.heap x (.dT vvs) from Zl7 I.hok (Zks h1 sub));exact⟨o,q1,.inr (.inr ⟨_,rfl,q2.1⟩)⟩
 | fn _=>exact absurd rfl (nd _)
theorem Zu5:Za8 X (.builtin "isinstance") (λxs H Q=>∃F d v,xs=[v,.ty "bool"]/\Zs F H/\Rep X.K F d v/\(∀es,d≠.dict es)/\Q (.bl (HM.Zj7 .bool d)) H):=by
 refine Zqn λs d v u Q ru ⟨K,F,rp⟩ nd ho k=>?_;cases rp with
 | non=>cases ru; exact IsiPair.NoneType_bool (k _)
 | bl _=>cases ru; exact IsiPair.bool_bool (k _)
 | int _=>obtain⟨t,rfl⟩:=ru; exact IsiPair.int_bool (k _)
 | str _=>obtain⟨t,rfl⟩:=ru; exact IsiPair.str_bool (k _)
 | tup _ _ _ | tupk _ =>
  cases ru;obtain⟨o,h1,⟨_,_,h2⟩ | ⟨_,e,_⟩ | ⟨_,e,_⟩⟩:=ho _ rfl
  ·exact IsiPair.tuple_bool h1 h2 (k _)
  ·cases e
  ·cases e
 | lst _ _ _ =>
  cases ru;obtain⟨o,h1,⟨_,e,_⟩ | ⟨_,_,h2⟩ | ⟨_,e,_⟩⟩:=ho _ rfl
  ·cases e
  ·exact IsiPair.list_bool h1 h2 (k _)
  ·cases e
 | dct _ _ _ _ =>
  cases ru;obtain⟨o,h1,⟨_,e,_⟩ | ⟨_,e,_⟩ | ⟨_,_,h2⟩⟩:=ho _ rfl
  ·cases e
  ·cases e
  ·exact IsiPair.dict_bool h1 h2 (k _)
 | fn _=>exact absurd rfl (nd _)
theorem Zwv:Za8 X (.builtin "isinstance") (λxs H Q=>∃F d v,xs=[v,.ty "int"]/\Zs F H/\Rep X.K F d v/\(∀es,d≠.dict es)/\Q (.bl (HM.Zj7 .int d)) H):=by
 refine Zqn λs d v u Q ru ⟨K,F,rp⟩ nd ho k=>?_;cases rp with
 | non=>cases ru; exact IsiPair.NoneType_int (k _)
 | bl _=>cases ru; exact IsiPair.bool_int (k _)
 | int _=>obtain⟨t,rfl⟩:=ru; exact IsiPair.int_int (k _)
 | str _=>obtain⟨t,rfl⟩:=ru; exact IsiPair.str_int (k _)
 | tup _ _ _ | tupk _ =>
  cases ru;obtain⟨o,h1,⟨_,_,h2⟩ | ⟨_,e,_⟩ | ⟨_,e,_⟩⟩:=ho _ rfl
  ·exact IsiPair.tuple_int h1 h2 (k _)
  ·cases e
  ·cases e
 | lst _ _ _ =>
  cases ru;obtain⟨o,h1,⟨_,e,_⟩ | ⟨_,_,h2⟩ | ⟨_,e,_⟩⟩:=ho _ rfl
  ·cases e
  ·exact IsiPair.list_int h1 h2 (k _)
  ·cases e
 | dct _ _ _ _ =>
  cases ru;obtain⟨o,h1,⟨_,e,_⟩ | ⟨_,e,_⟩ | ⟨_,_,h2⟩⟩:=ho _ rfl
  ·cases e
  ·cases e
  ·exact IsiPair.dict_int h1 h2 (k _)
 | fn _=>exact absurd rfl (nd _)
theorem ZtM:Za8 X (.builtin "isinstance") (λxs H Q=>∃F d v,xs=[v,.ty "tuple"]/\Zs F H/\Rep X.K F d v/\(∀es,d≠.dict es)/\Q (.bl (HM.Zj7 .tuple d)) H):=by
 refine Zqn λs d v u Q ru ⟨K,F,rp⟩ nd ho k=>?_;cases rp with
 | non=>cases ru; exact IsiPair.NoneType_tuple (k _)
 | bl _=>cases ru; exact IsiPair.bool_tuple (k _)
 | int _=>obtain⟨t,rfl⟩:=ru; exact IsiPair.int_tuple (k _)
 | str _=>obtain⟨t,rfl⟩:=ru; exact IsiPair.str_tuple (k _)
 | tup _ _ _ | tupk _ =>
  cases ru;obtain⟨o,h1,⟨_,_,h2⟩ | ⟨_,e,_⟩ | ⟨_,e,_⟩⟩:=ho _ rfl
  ·exact IsiPair.tuple_tuple h1 h2 (k _)
  ·cases e
  ·cases e
 | lst _ _ _ =>
  cases ru;obtain⟨o,h1,⟨_,e,_⟩ | ⟨_,_,h2⟩ | ⟨_,e,_⟩⟩:=ho _ rfl
  ·cases e
  ·exact IsiPair.list_tuple h1 h2 (k _)
  ·cases e
 | dct _ _ _ _ =>
  cases ru;obtain⟨o,h1,⟨_,e,_⟩ | ⟨_,e,_⟩ | ⟨_,_,h2⟩⟩:=ho _ rfl
  ·cases e
  ·cases e
  ·exact IsiPair.dict_tuple h1 h2 (k _)
 | fn _=>exact absurd rfl (nd _)
theorem Zod{tyn:Str}{tys:String}{t:HM.Ty}(hR:Za8 X (.builtin "isinstance") (λxs H Q=>∃F d v,xs=[v,.ty tys]/\Zs F H/\Rep X.K F d v/\(∀es,d≠.dict es)/\Q (.bl (HM.Zj7 t d)) H))(bt:ZBr tyn=Z (.type tys))
  (hm:X.mg "isinstance" = Z_) (hm2:X.mg tyn=Z_) (ha:XE X a fa) (hg:Gl X "isinstance") (hg2:Gl X tyn) (hn:tyn ≠ "__name__") (hd:(tyn==("__debug__":Str))=ZFu)
  (hs1:ZAD [a,.Name tyn p2] X.env=(ZFu,eval a X.env)::ZAD [.Name tyn p2] X.env) (hs2:ZAD [.Name tyn p2] X.env=[(ZFu,eval (.Name tyn p2) X.env)]):XE X (.Call (.Name "isinstance" p) [a,.Name tyn p2] [] pos) (HM.Zey fa t):=by
 intro r d h;have key:∃x,fa r=Z x/\(∀es,x≠.dict es)/\d=.bool (HM.Zj7 t x):=by
  unfold HM.Zey at h;split at h
  ·cases h
  ·rename_i x hn hx
   cases h;exact⟨x,hx,λes z=>hn es (by rw[z]),rfl⟩
  ·cases h
 obtain⟨x,h1,nd,h2⟩:=key;subst h2;refine PE.imp (Zc1 hR hg hm Zn0 (ZaC (ha r x h1) (ZaC (Zwj (v:=.ty tys) hg2 hm2 bt rfl hn hd) ZbT (by rw[hs2]; rfl)) hs1) (he:=hs1) (hpl:=by rw[hs2]; rfl)) λσ H Q ⟨F0,H0,F,at_,k⟩=>?_;exact⟨F0,H0,F,at_,λv F1 H1 x1 r1=>⟨F1,x,v,rfl,x1.sub,r1,nd,k _ F1 H1 x1 (.bl _)⟩⟩
theorem ZkI(hm:X.mg "isinstance" = Z_)(hm2:X.mg "bool" = Z_)(ha:XE X a fa)(hg:Gl X "isinstance":=by rfl)(hg2:Gl X "bool":=by rfl)(hs1:ZAD [a,.Name "bool" p2] X.env=(ZFu,eval a X.env)::ZAD [.Name "bool" p2] X.env:=by rfl) :
  XE X (.Call (.Name "isinstance" p) [a,.Name "bool" p2] [] pos) (HM.Zey fa .bool):=Zod Zu5 ZwW hm hm2 ha hg hg2 (by decide) (by decide) hs1 rfl
theorem ZlA(hm:X.mg "isinstance" = Z_)(hm2:X.mg "int" = Z_)(ha:XE X a fa)(hg:Gl X "isinstance":=by rfl)(hg2:Gl X "int":=by rfl)(hs1:ZAD [a,.Name "int" p2] X.env=(ZFu,eval a X.env)::ZAD [.Name "int" p2] X.env:=by rfl) :
  XE X (.Call (.Name "isinstance" p) [a,.Name "int" p2] [] pos) (HM.Zey fa .int):=Zod Zwv Zqf hm hm2 ha hg hg2 (by decide) (by decide) hs1 rfl
theorem Zdw(hm:X.mg "isinstance" = Z_)(hm2:X.mg "tuple" = Z_)(ha:XE X a fa)(hg:Gl X "isinstance":=by rfl)(hg2:Gl X "tuple":=by rfl)(hs1:ZAD [a,.Name "tuple" p2] X.env=(ZFu,eval a X.env)::ZAD [.Name "tuple" p2] X.env:=by rfl) :
  XE X (.Call (.Name "isinstance" p) [a,.Name "tuple" p2] [] pos) (HM.Zey fa .tuple):=Zod ZtM Zlv hm hm2 ha hg hg2 (by decide) (by decide) hs1 rfl
theorem Zw7(hm:X.mg "max" = Z_)(hc:X.calm=ZFt)(ha:XE X a fa)(hb:XE X b fb)(hg:Gl X "max":=by rfl)(hs1:ZAD [a,b] X.env=(ZFu,eval a X.env)::ZAD [b] X.env:=by rfl)(hs2:ZAD [b] X.env=[(ZFu,eval b X.env)]:=by rfl) :
  XE X (.Call (.Name "max" p) [a,b] [] pos) (HM.op2 HM.Zym fa fb):=by
 intro r d h;obtain⟨x,y,h1,h2,h3⟩:=Zie h;obtain⟨i,j,rfl,rfl,e⟩:=Zhc h3;cases e;refine PE.imp (Zc1 (ZtN hc) hg hm Zt7 (ZaC (ha r _ h1) (ZaC (hb r _ h2) ZbT hs2) hs1) (he:=hs1) (hpl:=by rw[hs2]; rfl)) λσ H Q ⟨F0,H0,F,at_,k⟩=>?_;exact⟨F0,H0,F,at_,λv F1 H1 x1 r1=>⟨F0,H0,F1,at_.grow x1,λw F2 H2 x2 r2=>⟨i,j,by rw[r1.int_inv,r2.int_inv],k _ F2 H2 (x1.trans x2) (.int _)⟩⟩⟩
theorem Zw8(hm:X.mg "min" = Z_)(hc:X.calm=ZFt)(ha:XE X a fa)(hb:XE X b fb)(hg:Gl X "min":=by rfl)(hs1:ZAD [a,b] X.env=(ZFu,eval a X.env)::ZAD [b] X.env:=by rfl)(hs2:ZAD [b] X.env=[(ZFu,eval b X.env)]:=by rfl) :
  XE X (.Call (.Name "min" p) [a,b] [] pos) (HM.op2 HM.ZxM fa fb):=by
 intro r d h;obtain⟨x,y,h1,h2,h3⟩:=Zie h;obtain⟨i,j,rfl,rfl,e⟩:=Zhc h3;cases e;refine PE.imp (Zc1 (ZtX hc) hg hm ZpS (ZaC (ha r _ h1) (ZaC (hb r _ h2) ZbT hs2) hs1) (he:=hs1) (hpl:=by rw[hs2]; rfl)) λσ H Q ⟨F0,H0,F,at_,k⟩=>?_;exact⟨F0,H0,F,at_,λv F1 H1 x1 r1=>⟨F0,H0,F1,at_.grow x1,λw F2 H2 x2 r2=>⟨i,j,by rw[r1.int_inv,r2.int_inv],k _ F2 H2 (x1.trans x2) (.int _)⟩⟩⟩
theorem Zuo(hm:X.mg "int" = Z_)(ha:XE X a fa)(hg:Gl X "int":=by rfl)(hs:ZAD [a] X.env=[(ZFu,eval a X.env)]:=by rfl):XE X (.Call (.Name "int" p) [a] [] pos) (HM.Zqb fa):=by
 intro r d h;unfold HM.Zqb at h;split at h
 ·rename_i i hi
  cases h;refine PE.imp (ZdN Znr hg hm Zqf (ZaC (ha r _ hi) ZbT hs) (he:=hs)) λσ H Q ⟨F0,H0,F,at_,k⟩=>?_;exact⟨F0,H0,F,at_,λv F1 H1 x1 r1=>.inl ⟨i,by rw[r1.int_inv],k _ F1 H1 x1 (.int _)⟩⟩
 ·rename_i q hq
  cases h;refine PE.imp (ZdN Znr hg hm Zqf (ZaC (ha r _ hq) ZbT hs) (he:=hs)) λσ H Q ⟨F0,H0,F,at_,k⟩=>?_;exact⟨F0,H0,F,at_,λv F1 H1 x1 r1=>.inr ⟨q,by rw[r1.bool_inv],k _ F1 H1 x1 (.int _)⟩⟩
 ·cases h
end
end HP
namespace HP
open PySem PySem.Spec PyProof.Rows L2
variable{ga:HM.BF}{r:HM.Env}{F F0 H H0:Hp}{σ:L2.St}{ds:List PyData}{vs:List V}{i:Nat}{p1 p2:Pos}{K:ZAo}{x:Str}
variable[FX]
section
variable{X:Cx}{a b c e:Expr}{fa fb fc:HM.EF}{pos p:Pos}{f:HM.BF}{tg:Expr}
theorem PI.imp{X:Cx}{tg e:Expr}{t u:TI}(h:PI X tg e t)(hi:∀σ H R,u σ H R->t σ H R):PI X tg e u:=λpins s σ H R I q=>h pins s σ H R I (hi σ H R q)
theorem ZyA{l:Expr}{tl:TE}(hl:PE X l tl):PI X tg l (λσ H R=>tl σ H λx H1=>∃a,x=.ref a/\((∃xs,SqL X.K H1 a xs)/\R (Itl X.K a) H1\/(∃xs,SqT X.K H1 a xs)/\R (Itt X.K a) H1)):=by
 intro pins s σ H R I h;refine thn (hl pins s σ H _ I h) λv s1 ⟨x,H1,I1,r1,q1⟩=>?_;obtain⟨a,e,q1⟩:=q1;subst e;cases r1;rcases q1 with⟨⟨xs,hq⟩,q⟩ | ⟨⟨xs,hq⟩,q⟩
 ·obtain⟨its,rv,p,hz⟩:=I1.list hq
  refine ZEr p.isList ⟨s1.heap.objs.size,[s1.heap.objs.size],_,_,H1,rfl,I1.kept (t':=s1.toks) λb o e=>ZAs _ e,ZtE a _,⟨_,ZAH _ rfl,rfl,rfl⟩,λb hb=>?_,q⟩;obtain rfl:b=s1.heap.objs.size:=by simpa using hb
  exact I1.fpOk (ZAz _) (I1.hok.fresh (ZAz _))
 ·obtain⟨its,rv,p,hz⟩:=I1.tuple hq
  refine ZEe (show s1.heap.IsTuple a its.toArray from p) ⟨s1.heap.objs.size,[s1.heap.objs.size],_,_,H1,rfl,I1.kept (t':=s1.toks) λb o e=>ZAs _ e,ZsB a _,⟨_,ZAH _ rfl,rfl,rfl⟩,λb hb=>?_,q⟩;obtain rfl:b=s1.heap.objs.size:=by simpa using hb
  exact I1.fpOk (ZAz _) (I1.hok.fresh (ZAz _))
theorem Zu8{a:Addr}(h:SqL K F a vs)(r:Zv K F ds vs):ItD K (Itl K a) ds F:=by intro F' H s1 s2;have hq:SqL K H a vs:=(s1.trans s2).seq h;refine⟨λi d hd=>?_,⟨vs,hq,by rw[r.1]; exact ZAz _⟩⟩;obtain⟨v,h1,h2⟩:=r.get hd;refine⟨⟨vs,v,hq,h1⟩,λx H' hy=>?_⟩;obtain⟨e,y⟩:=hy;refine⟨e,?_⟩;have:=y vs hq;rw[h1]at this;cases this;exact h2.mono (s1.trans (ZcN s2))
theorem Zu3{a:Addr}(h:SqT K F a vs)(r:Zv K F ds vs):ItD K (Itt K a) ds F:=by intro F' H s1 s2;have hq:SqT K H a vs:=Zlt h (s1.trans s2);refine⟨λi d hd=>?_,⟨vs,hq,by rw[r.1]; exact ZAz _⟩⟩;obtain⟨v,h1,h2⟩:=r.get hd;refine⟨⟨vs,v,hq,h1⟩,λx H' hy=>?_⟩;obtain⟨e,y⟩:=hy;refine⟨e,?_⟩;have:=y vs hq;rw[h1]at this;cases this;exact h2.mono (s1.trans (ZcN s2))
theorem Zwl{a:Addr}(h:F a=Z (.tup vs))(r:Zv K F ds vs):ItD K (Itt K a) ds F:=by intro F' H s1 s2;have hq:SqT K H a vs:=.of (s2 _ _ (s1 _ _ h));refine⟨λi d hd=>?_,⟨vs,hq,by rw[r.1]; exact ZAz _⟩⟩;obtain⟨v,h1,h2⟩:=r.get hd;refine⟨⟨vs,v,hq,h1⟩,λx H' hy=>?_⟩;obtain⟨e,y⟩:=hy;refine⟨e,?_⟩;have:=y vs hq;rw[h1]at this;cases this;exact h2.mono (s1.trans (ZcN s2))
theorem ZP(h:XE X e fa):XI X tg e (HM.ZJ (HM.bOf fa)):=by
 intro r ds hd;unfold HM.ZJ HM.bOf at hd;cases hx:fa r with
 | none=>rw[hx]at hd; cases hd
 | some d =>
  rw[hx]at hd;have hd:HM.ZcM (.pl d)=Z ds:=hd;refine PI.imp (ZyA (h r d hx)) λσ H R ⟨F0,H0,F,at_,k⟩=>?_;refine⟨F0,H0,F,at_,λv F1 H1 x1 r1=>?_⟩;cases r1 with
  | @tupk a x h1=>cases hd;exact⟨a,rfl,.inr ⟨⟨_,.inr h1⟩,k _ F1 H1 x1 (Zu3 (.inr h1) (.one (.str x)))⟩⟩
  | @tup a ds' vs h1 h2 h3=>cases hd;exact⟨a,rfl,.inr ⟨⟨vs,.of (x1.sub _ _ h1)⟩,k _ F1 H1 x1 (Zwl h1 ⟨h2,h3⟩)⟩⟩
  | @lst a ds' vs h1 h2 h3=>cases hd;exact⟨a,rfl,.inl ⟨⟨vs,x1.sub.seq h1⟩,k _ F1 H1 x1 (Zu8 h1 ⟨h2,h3⟩)⟩⟩
  | dct _ _ _ _=>cases hd
  | fn _=>cases hd
  | non=>cases hd
  | bl _=>cases hd
  | int _=>cases hd
  | str _=>cases hd
theorem Zw1(lo:Int)(n:Nat):ItD K (Itr lo n) (HM.Zc7 lo n) F:=by
 intro F' H s1 s2;have hl:(HM.Zc7 lo n).length=n:=by unfold HM.Zc7; rw[ZAl,ZBg]
 refine⟨λi d hd=>?_,?_⟩
 ·have hi:i<n:=by rw[<-hl]; exact(ZAC.mp hd).1
  unfold HM.Zc7 at hd;rw[ZAO,List.getElem?_range hi]at hd;cases hd;exact⟨hi,λx H' ⟨e1,e2⟩=>⟨e1,by rw[e2]; exact .int _⟩⟩
 ·rw[hl]; exact ZAz _
theorem ZrL{j:Int}(h:HM.okR j=ZFt):-1000000<j/\j<1000000:=by unfold HM.okR at h;rw[ZDx]at h;omega
theorem Zbs(hm:X.mg "range" = Z_)(ha:XE X a fa)(hg:Gl X "range":=by rfl)(hs:ZAD [a] X.env=[(ZFu,eval a X.env)]:=by rfl):XI X tg (.Call (.Name "range" p) [a] [] pos) (HM.ZaU fa):=by
 intro r ds hd;unfold HM.ZaU at hd;split at hd
 ·rename_i j hj
  split at hd
  ·rename_i hok
   cases hd;obtain⟨k1,k2⟩:=ZrL hok;refine PI.imp (ZtS hg hm (ZaC (ha r _ hj) ZbT hs) hs) λσ H R ⟨F0,H0,F,at_,k⟩=>?_;exact⟨F0,H0,F,at_,λv F1 H1 x1 r1=>⟨j,by rw[r1.int_inv],by omega,by omega,k _ F1 H1 x1 (Zw1 0 j.toNat)⟩⟩
  ·cases hd
 ·cases hd
theorem ZlB{gb:HM.BF}(ha:XB X a ga)(hb:XB X b gb):XF X (.BinOp a .Add b pos) (HM.ZmH ga gb):=by
 intro r d h;unfold HM.ZmH at h;split at h
 ·rename_i xs hx
  split at h
  ·rename_i ys hy
   split at h
   ·rename_i hz
    cases h;refine PE.imp (Zoa Zxo (ha r _ hx) (hb r _ hy)) λσ H Q ⟨F0,H0,F,at_,k⟩=>?_;refine⟨F0,H0,F,at_,λv F1 H1 x1 ⟨fp,r1⟩=>⟨F0,H0,F1,at_.grow x1,λw F2 H2 x2 ⟨fq,r2⟩=>?_⟩⟩;cases r1 with
    | ol h1 q1 =>
     cases r2 with
     | ol h2 q2 =>
      have q1':=q1.mono x2.ff;refine⟨_,_,_,_,rfl,rfl,x2.hh _ _ h1,h2,?_,λl hl=>ZeC (P:=λv _ H'=>Q v H') (x1.trans x2) (q1'.append q2) hl k⟩;have e1:=q1.1;have e2:=q2.1;have e3:(1000000:Nat)<=sizeLine:=by decide
      unfold HM.big at hz;omega
   ·cases h
  ·cases h
 ·cases h
theorem Zw9(ha:XB X a ga)(hb:XE X b fb):XF X (.BinOp a .Mult b pos) (HM.ZuR ga fb):=by
 intro r d h;unfold HM.ZuR at h;split at h
 ·rename_i xs hx
  split at h
  ·rename_i i hy
   split at h
   ·rename_i hz
    cases h;rw[ZAW,decide_eq_true_eq,decide_eq_true_eq]at hz;refine PE.imp (Zoa ZyD (ha r _ hx) (hb r _ hy)) λσ H Q ⟨F0,H0,F,at_,k⟩=>?_;refine⟨F0,H0,F,at_,λv F1 H1 x1 ⟨fp,r1⟩=>⟨F0,H0,F1,at_.grow x1,λw F2 H2 x2 r2=>?_⟩⟩;cases r1 with
    | ol h1 q1 =>
     have q1':=q1.mono x2.ff;refine⟨_,i,_,rfl,r2.int_inv,x2.hh _ _ h1,by omega,by omega,?_,λl hl=>ZeC (P:=λv _ H'=>Q v H') (x1.trans x2) (q1'.rep i.toNat) hl k⟩;have e1:=q1.1;have e3:(1000*1000:Nat)<=sizeLine:=by decide
     refine ZBm (Nat.mul_le_mul (?_:_<=1000) (?_:_<=1000)) e3<;>omega
   ·cases h
  ·cases h
 ·cases h
def XO(X:Cx)(e:Option Expr)(f:Option HM.EF):Prop:=∀r o,HM.Zr6 f r=Z o->PO X e λσ H Q=>Now X.K r σ H λF0 H0 F=>∀F' H',Ext F H F' H'->Q o H'
theorem ZwT:XO X Z_ Z_:=by intro r o h;cases h;intro pins s σ H Q I q;obtain⟨F0,H0,F,at_,k⟩:=q;exact Zwo pins s σ H Q I (k F H at_.refl)
theorem Zv7(h:XE X e fa):XO X (Z e) (Z fa):=by
 intro r o ho;unfold HM.Zr6 at ho;split at ho
 ·rename_i z; cases z
 ·rename_i g z
  cases z;split at ho
  ·rename_i i hi
   cases ho;intro pins s σ H Q I q;obtain⟨F0,H0,F,at_,k⟩:=q;exact Zws (h r _ hi) pins s σ H Q I ⟨F0,H0,F,at_,λv F1 H1 x1 r1=>⟨i,r1.int_inv,k F1 H1 x1⟩⟩
  ·cases ho
theorem Zxa{lo hi:Option Expr}{fl fh:Option HM.EF}(ha:XB X a ga)(hl:XO X lo fl)(hh:XO X hi fh):XF X (.Subscript a (.Slice lo hi Z_ p2) pos) (HM.Zu0 ga fl fh):=by
 intro r d h;unfold HM.Zu0 at h;split at h
 ·rename_i x hx
  split at h
  ·rename_i xs hxs
   split at h
   ·rename_i l hl'
    split at h
    ·rename_i u hu'
     cases h;refine PE.imp (Zu2 Zw0 (ha r _ hx) (hl r _ hl') (hh r _ hu')) λσ H Q ⟨F0,H0,F,at_,k⟩=>?_;refine⟨F0,H0,F,at_,λv F1 H1 x1 ⟨fp,r1⟩=>⟨F0,H0,F1,at_.grow x1,λF2 H2 x2=>⟨F0,H0,F2,(at_.grow x1).grow x2,λF3 H3 x3=>?_⟩⟩⟩;have x23:=x2.trans x3;obtain⟨l',vs,e1,hq,rs⟩:=ZdR x3.sub (r1.mono x23.ff λ_ _ _ z=>x23.hh _ _ z) hxs;refine⟨l',vs,e1,hq,λl2 hl2=>ZeC (P:=λv _ H'=>Q v H') (x1.trans x23) ?_ hl2 k⟩;unfold HM.cutD Zqh;rw[<-rs.1];exact(rs.drop _).take _
    ·cases h
   ·cases h
  ·cases h
 ·cases h
theorem Zbo.val{fp:Nat->List Addr}(e:Zbo K F0 H0 F H r σ fp)(h:r[i]?=Z (Z (.ol ds))) :
  ∃l vs,σ[i]?=Z (Z (.ref l))/\H l=Z (.lst vs)/\Zv K F ds vs/\fp i=[l]:=by
 obtain⟨v,h1,h2⟩:=e.at_ i _ h;generalize hf:fp i=q at h2;cases h2 with
 | ol k1 k2=>exact⟨_,_,h1,k1,k2,rfl⟩
theorem At.chgList{es:List PyData}(e:At K F0 H0 F H r σ)(h:r[i]?=Z (Z (.ol ds))) :
  ∃l vs,σ[i]?=Z (Z (.ref l))/\H l=Z (.lst vs)/\Zv K F ds vs/\∀us,Zv K F es us->At K F0 H0 F (upd H l (.lst us)) (r.set i (Z (.ol es))) σ:=by
 obtain⟨fp,e⟩:=e;obtain⟨l,vs,h1,h2,h3,h4⟩:=e.val h;refine⟨l,vs,h1,h2,h3,λus q=>e.change (fp':=[l]) h1 (.ol ZI q) (by simp) (λa ha=>.inl (by rw[h4]; exact ha)) λa o z hn=>?_⟩;rw[ZB (λz=>hn (by rw[h4,z]; simp))];exact z
theorem Zdx(i:Nat){p3:Pos}(ha:XE X a fa)(hN:X.N[i]?=Z x:=by rfl)(hv:Vis X.env.scope x:=by first | exact ZBc rfl | exact ZAT (ZBc rfl) | exact ZAT (ZAT rfl))(hd:(x==("__debug__":Str))=ZFu:=by decide)(hcd:(x==("__classdict__":Str))=ZFu:=by decide)
  (hbase:ZCr (.Name x p1) "append" X.env (eval (.Name x p1) X.env)=eval (.Name x p1) X.env:=by rfl)
  (hfew:((backTo p3 (ZAD [a] X.env)).all (λx=>!x.1)&&(ZD8 p3 (ZDh [] X.env)).all (λx=>x.1.isSome)&&decide (([a]:List Expr).length+([]:List Keyword).length+(if([]:List Keyword).isEmpty then 0 else 1)<30))=ZFt:=by rfl)
  (hline:(p2.endLine==p3.line)=ZFt:=by rfl) (hs:ZAD [a] X.env=[(ZFu,eval a X.env)]:=by rfl):XS X (.Expr (.Call (.Attribute (.Name x p1) "append" p2) [a] [] p3) pos) (HM.Zdf i fa):=by
 intro r o h;unfold HM.Zdf at h;split at h
 ·rename_i ds hds
  split at h
  ·rename_i d hd'
   split at h
   ·rename_i hz
    cases h;refine PS.imp (Zih (Zn8 ZCu ZDp ZDq Zhl (ZbL hN hv hd hcd) (ZaC (ha r d hd') ZbT hs) hbase hfew hline hs rfl)) λE σ H ⟨F0,H0,F,at_,k⟩=>?_;obtain⟨l,vs,e1,e2,e3,_⟩:=at_.chgList (es:=ds) hds;refine⟨.ref l,e1,.inl ⟨rfl,_,SqL.of e2⟩,F0,H0,F,at_,λv F1 H1 x1 r1=>?_⟩;have at1:=at_.grow x1;obtain⟨l',vs',f1,f2,f3,f4⟩:=at1.chgList (es:=ds++[d]) hds;rw[e1]at f1;cases f1;refine⟨_,vs',v,rfl,rfl,f2,?_,k _ F1 _ (f4 _ (f3.append (.one r1)))⟩;have e4:=f3.1;have e5:(1000000:Nat)<=sizeLine:=by decide
    unfold HM.big at hz;omega
   ·cases h
  ·cases h
 ·cases h
theorem Zv1(i:Nat)(hk:XE X b fb)(ha:XE X a fa)(hN:X.N[i]?=Z x:=by rfl)(hv:Vis X.env.scope x:=by first | exact ZBc rfl | exact ZAT (ZBc rfl) | exact ZAT (ZAT rfl))(hd:(x==("__debug__":Str))=ZFu:=by decide)(hcd:(x==("__classdict__":Str))=ZFu:=by decide)
  (hsub:∀v,assign (.Subscript (.Name x p1) b p2) X.env v=(do
   let ov <-holding [v] (eval (.Name x p1) X.env)
   let iv <-holding [v,ov] (eval b X.env)
   standAt p2
   holding [v,ov,iv] (setItem ov iv v)
   release [v,ov,iv] []):=by intro _; rfl)
  (hs:swapsWithSole [.Subscript (.Name x p1) b p2] a pos.line X.env=pure ZFu:=by rfl) (hw:swappedStores [.Subscript (.Name x p1) b p2] a X.env=pure Z_:=by rfl)
  (h1:(ZCx [.Subscript (.Name x p1) b p2] X.env).map (·.2)=[assign (.Subscript (.Name x p1) b p2) X.env]:=by rfl):XS X (.Assign [.Subscript (.Name x p1) b p2] a pos) (HM.Zsu i fb fa):=by
 intro r o h;unfold HM.Zsu at h;split at h
 ·rename_i d hd'
  split at h
  ·rename_i ds hds
   split at h
   ·rename_i n hn
    split at h
    ·rename_i j hj
     cases h;refine PS.imp (Zx3 (ha r d hd') (Zyx (ZbL hN hv hd hcd) (hk r _ hn) set_list hsub) hs hw h1) λE σ H ⟨F0,H0,F,at_,k⟩=>?_;refine⟨F0,H0,F,at_,λv F1 H1 x1 r1=>?_⟩;have at1:=at_.grow x1;obtain⟨l,vs,e1,e2,e3,_⟩:=at1.chgList (es:=ds) hds;refine⟨.ref l,e1,F0,H0,F1,at1,λw F2 H2 x2 r2=>?_⟩;obtain⟨l',vs',f1,f2,f3,f4⟩:=(at1.grow x2).chgList (es:=ds.set j d) hds;rw[e1]at f1;cases f1;refine⟨_,vs',n,j,rfl,r2.int_inv,f2,?_,k _ F2 _ (f4 _ (f3.set (r1.mono x2.ff) j))⟩;rw[<-f3.1];exact hj
    ·cases h
   ·cases h
  ·cases h
 ·cases h
end
end HP
namespace HP
open PySem PySem.Spec PyProof.Rows L2
variable[FX]
section
variable{K:ZAo}{F:Hp}{κ:Type}[DecidableEq κ]
def ZaX(K:ZAo)(F:Hp)(kvs:List (κ × PyData))(vvs:List (κ × V)):Prop:=kvs.map (·.1)=vvs.map (·.1)/\Zv K F (kvs.map (·.2)) (vvs.map (·.2))
theorem ZaX.nil:ZaX K F ([]:List (κ × PyData)) []:=⟨rfl,.nil⟩
theorem ZaX.cons{k:κ}{d:PyData}{v:V}{kvs:List (κ × PyData)}{vvs:List (κ × V)}(r:Rep K F d v)(q:ZaX K F kvs vvs):ZaX K F ((k,d)::kvs) ((k,v)::vvs) :=
 ⟨by rw[ZAt,ZAt,q.1],by rw[ZAt,ZAt]; exact .cons r q.2⟩
theorem ZaX.inv{kvs:List (κ × PyData)}{vvs:List (κ × V)}(q:ZaX K F kvs vvs):(kvs=[]/\vvs=[])\/∃k d v kvs' vvs',kvs=(k,d)::kvs'/\vvs=(k,v)::vvs'/\Rep K F d v/\ZaX K F kvs' vvs':=by
 cases kvs with
 | nil =>
  cases vvs with
  | nil=>exact .inl ⟨rfl,rfl⟩
  | cons p r=>exact absurd q.1 (by simp)
 | cons p kvs' =>
  cases vvs with
  | nil=>exact absurd q.1 (by simp)
  | cons p' vvs' =>
   obtain⟨k,d⟩:=p;obtain⟨k',v⟩:=p';obtain⟨q1,q2⟩:=q;rw[ZAt,ZAt]at q1 q2;injection q1 with e1 e2
   have e1:k=k':=e1;subst e1;obtain⟨v',us,e3,r1,r2⟩:=q2.cons_inv;injection e3 with e3 e4
   refine .inr ⟨k,d,v,kvs',vvs',rfl,rfl,?_,e2,?_⟩
   ·rw[show v=v' from e3]; exact r1
   ·rw[e4]; exact r2
theorem ZaX.len{kvs:List (κ × PyData)}{vvs:List (κ × V)}(q:ZaX K F kvs vvs):kvs.length=vvs.length:=by
 have:=congrArg ZA8 q.1
 rwa [ZAl,ZAl]at this
theorem ZaX.any{kvs:List (κ × PyData)}{vvs:List (κ × V)}(k:κ)(q:ZaX K F kvs vvs):(kvs.any λp=>decide (p.1=k))=vvs.any λp=>decide (p.1=k):=by
 have e:∀{β:Type} (l:List (κ × β)),(l.any λp=>decide (p.1=k))=(l.map (·.1)).any λx=>decide (x=k):=λl=>by rw[List.any_map]; rfl
 rw[e,e,q.1]
theorem ZaX.repl{d:PyData}{v:V}(k:κ)(r:Rep K F d v):∀{kvs:List (κ × PyData)} {vvs:List (κ × V)},ZaX K F kvs vvs->ZaX K F (kvs.map λp=>if p.1=k then(p.1,d)else p) (vvs.map λp=>if p.1=k then(p.1,v)else p)
 | [],vvs,q=>by
  rcases q.inv with⟨_,e⟩ | ⟨_,_,_,_,_,e,_⟩
  ·subst e; exact .nil
  ·cases e
 | p::kvs,vvs,q=>by
  rcases q.inv with⟨e,_⟩ | ⟨k',d',v',kvs',vvs',e1,e2,r1,r2⟩
  ·cases e
  ·cases e1
   subst e2;have ih:=ZaX.repl k r r2;rw[ZAt,ZAt]
   by_cases h:k'=k
   ·rw[if_pos h,if_pos h]; exact .cons r ih
   ·rw[if_neg h,if_neg h]; exact .cons r1 ih
theorem ZaX.snoc{kvs:List (κ × PyData)}{vvs:List (κ × V)}{k:κ}{d:PyData}{v:V}(q:ZaX K F kvs vvs)(r:Rep K F d v):ZaX K F (kvs++[(k,d)]) (vvs++[(k,v)]) :=
 ⟨by rw[ZAN,ZAN,q.1]; rfl,by rw[ZAN,ZAN]; exact q.2.append (.one r)⟩
theorem ZaX.put{kvs:List (κ × PyData)}{vvs:List (κ × V)}{d:PyData}{v:V}(q:ZaX K F kvs vvs)(k:κ)(r:Rep K F d v):ZaX K F (HM.putD kvs k d) (putK vvs k v):=by
 unfold HM.putD putK;rw[q.any k]
 by_cases h:(vvs.any λp=>decide (p.1=k))=ZFt
 ·rw[if_pos h,if_pos h]; exact q.repl k r
 ·rw[if_neg h,if_neg h]; exact q.snoc r
theorem ZaX.look{k:κ}:∀{kvs:List (κ × PyData)} {vvs:List (κ × V)},ZaX K F kvs vvs->(∀d,HM.Zi kvs k=Z d->∃v,Za3 vvs k=Z v/\Rep K F d v)/\(HM.Zi kvs k=Z_->Za3 vvs k=Z_)
 | [],vvs,q=>by
  rcases q.inv with⟨_,e⟩ | ⟨_,_,_,_,_,e,_⟩
  ·subst e; exact⟨λd h=>(by cases h),λ_=>rfl⟩
  ·cases e
 | p::kvs,vvs,q=>by
  rcases q.inv with⟨e,_⟩ | ⟨k',d',v',kvs',vvs',e1,e2,r1,r2⟩
  ·cases e
  ·cases e1
   subst e2;obtain⟨i1,i2⟩:=ZaX.look (k:=k) r2
   by_cases h:k'=k
   ·have e3:HM.Zi ((k',d')::kvs) k=Z d':=by simp[HM.Zi,ZBv,h]
    rw[e3,ZeB (p:=(k',v')) h];exact⟨λd hd=>(by cases hd; exact⟨v',rfl,r1⟩),λhd=>by cases hd⟩
   ·have e3:HM.Zi ((k',d')::kvs) k=HM.Zi kvs k:=by simp[HM.Zi,ZBv,h]
    rw[e3,Zev (p:=(k',v')) h];exact⟨i1,i2⟩
theorem ZaX.some_iff{k:κ}{kvs:List (κ × PyData)}{vvs:List (κ × V)}(q:ZaX K F kvs vvs):(Za3 vvs k).isSome=(HM.Zi kvs k).isSome:=by
 obtain⟨i1,i2⟩:=q.look (k:=k);cases h:HM.Zi kvs k with
 | none=>rw[i2 h]; rfl
 | some d=>obtain⟨v,h1,_⟩:=i1 d h; rw[h1]; rfl
end
section
variable{K:ZAo}{F:Hp}
theorem ZgX{d:PyData}{k:Key}{v:V}(h:HM.ZiW d=Z k)(r:Rep K F d v):v=kV k:=by cases r<;>first | (cases h; rfl) | cases h
theorem Zni:∀{ds:List PyData} {ks:List Key} {vs:List V},HM.Zhu ds=Z ks->Zv K F ds vs->vs=ks.map kV
 | [],ks,vs,h,r=>by cases h; exact r.nil_inv
 | d::ds,ks,vs,h,r=>by
  obtain⟨v,us,rfl,r1,r2⟩:=r.cons_inv;unfold HM.Zhu at h;split at h
  ·rename_i k hk
   obtain⟨ks',h1,h2⟩:=ZAn.mp h;subst h2;rw[ZgX hk r1,Zni h1 r2];rfl
  ·cases h
theorem Zrp:∀{ds:List PyData} {ks:List Key},HM.ZmM ds=Z ks->HM.Zhu ds=Z ks
 | [],ks,h=>h
 | d::ds,ks,h=>by
  unfold HM.ZmM at h;split at h
  ·cases ‹_=[]›
  ·rename_i i r e
   injection e with e1 e2
   subst e1 e2;obtain⟨ks',h1,h2⟩:=ZAn.mp h;subst h2;show(match HM.ZiW (.int i)with | some k=>(HM.Zhu ds).map (k::·) | none=>Z_)=_;rw[Zrp h1];rfl
  ·cases h
theorem ZbQ{d:PyData}{ks:List Key}{v:V}(h:HM.ZaT d=Z ks)(r:Rep K F d v):∃b,v=.ref b/\F b=Z (.tup (ks.map kV)):=by
 cases r with
 | tup h1 h2 h3=>refine⟨_,rfl,?_⟩;rw[<-Zni (Zrp h) ⟨h2,h3⟩];exact h1
 | tupk _=>cases h
 | lst _ _ _=>cases h
 | dct _ _ _ _=>cases h
 | fn _=>cases h
 | non=>cases h
 | bl _=>cases h
 | int _=>cases h
 | str _=>cases h
end
section
variable{X:Cx}{a b c e:Expr}{fa fb fc:HM.EF}{pos p:Pos}{f:HM.BF}
theorem fresh_one{K:ZAo}{F H F1 H1:Hp}{o:HO}{q:HM.B}{l:Addr}{P:V->Hp->Hp->Prop}(x1:Ext F H F1 H1)(hl:H1 l=Z_)(hq:Zam K F1 (upd H1 l o) q (.ref l) [l])
  (k:∀v F' H',Ext F H F' H'->(∃fp,Zam K F' H' q v fp/\fp.Nodup/\∀a∈fp,F' a=Z_/\H a=Z_)->P v F' H'):P (.ref l) F1 (upd H1 l o):=by
 refine k _ F1 _ (x1.lay' hl) ⟨[l],hq,by simp,λa ha=>?_⟩;obtain rfl:a=l:=by simpa using ha
 exact⟨x1.sub.free hl,x1.hh.free hl⟩
theorem ZyH:XF X (.Dict [] [] pos) HM.fDk:=by intro r d h;cases h;exact PE.imp Zu1 λσ H Q ⟨F0,H0,F,at_,k⟩ l hl=>fresh_one (P:=λv _ H'=>Q v H') at_.refl hl (.ok ZI rfl .nil) k
theorem ZlC:XF X (.Dict [] [] pos) HM.fDt:=by intro r d h;cases h;exact PE.imp Zqi λσ H Q ⟨F0,H0,F,at_,k⟩ l hl=>fresh_one (P:=λv _ H'=>Q v H') at_.refl hl (.ot ZI rfl .nil) k
theorem ZsV:XF X (.Dict [] [] pos) HM.ZuZ:=by intro r d h;cases h;exact PE.imp Zqi λσ H Q ⟨F0,H0,F,at_,k⟩ l hl=>fresh_one (P:=λv _ H'=>Q v H') at_.refl hl (.otl ZI rfl rfl λi ds l' h=>by simp at h) k
theorem Zup(ha:XE X a fa)(hb:XE X b fb):XF X (.Dict [Z a] [b] pos) (HM.Zqo fa fb):=by
 intro r d h;unfold HM.Zqo at h;split at h
 ·rename_i x hx
  split at h
  ·rename_i y hy
   split at h
   ·rename_i k hk
    cases h;refine PE.imp (ZwA (Zvt (ha r x hx) (hb r y hy) ZwI) rfl rfl (by simp) (by simp)) λσ H Q ⟨F0,H0,F,at_,kk⟩ l hl=>?_;have hFl:F l=Z_:=at_.sub.free hl;have x0:Ext F H F (upd H l (.dK [])):=at_.refl.lay' hl;refine⟨F0,H0,F,at_.grow x0,λv F1 H1 x1 r1=>⟨F0,H0,F1,(at_.grow x0).grow x1,λw F2 H2 x2 r2=>?_⟩⟩;have x12:=x1.trans x2;have hl2:H2 l=Z (.dK []):=x12.hh l _ ZI;have hF2:F2 l=Z_:=by
     cases q:F2 l with
     | none=>rfl
     | some o =>
      rcases x12.new l o q with z | z
      ·rw[hFl]at z; cases z
      ·exact(z.no ZI λ_ q=>by cases q).elim
    refine⟨hl2,[(k,w)],?_,by simp,?_⟩
    ·rw[ZgX hk r1]
     rfl
    have xe:Ext F H F2 (upd H2 l (.dK (Zij [] [(k,w)]))):=by
     refine⟨x12.ff,λc o z=>?_,λc o z=>?_,λc o z=>?_,λt=>(x12.tab (t.same (Zlh hl))).keep λa u z hu=>?_,x12.nts⟩
     ·have hc:c≠l:=ZaE z hl
      exact(x12.hh c o (by rw[ZB hc]; exact z)).cong (ZB hc)
     ·rw[ZB (λe=>by rw[e,hF2]at z; cases z)]
      exact x12.sub c o z
     ·rcases x12.new c o z with q | q
      ·exact .inl q
      ·exact .inr (q.back (.of (Zs.upd' hl)))
     ·rw[ZB (λe=>by subst e; rw[hl2]at z; cases z; cases hu)]; exact z
    refine kk _ F2 _ xe ⟨[l],.ok ZI rfl (.one r2),by simp,λc hc=>?_⟩;obtain rfl:c=l:=by simpa using hc
    exact⟨hF2,hl⟩
   ·cases h
  ·cases h
 ·cases h
end
end HP
namespace HP
open PySem PySem.Spec PyProof.Rows L2
variable{q:HM.B}{r:HM.Env}{F H:Hp}{fp:List Addr}{i:Nat}{p1:Pos}{K:ZAo}{x:Str}
variable[FX]
theorem At.chgOne{F0 H0:Hp}{σ:L2.St}{l:Addr}(e:At K F0 H0 F H r σ)(h:r[i]?=Z (Z q))(hv:σ[i]?=Z (Z (.ref l)))(hone:∀v fp,Zam K F H q v fp->∃a,v=.ref a/\fp=[a]) :
  ∀o q',Zam K F (upd H l o) q' (.ref l) [l]->At K F0 H0 F (upd H l o) (r.set i (Z q')) σ:=by
 intro o q' hq;obtain⟨fp,e⟩:=e;obtain⟨v,h1,h2⟩:=e.at_ i _ h;obtain⟨a,e1,e2⟩:=hone v _ h2;subst e1;rw[hv]at h1;cases h1;refine e.change (fp':=[l]) hv hq (by simp) (λc hc=>.inl (by rw[e2]; exact hc)) λc o' z hn=>?_;rw[ZB (λz=>hn (by rw[e2,z]; simp))];exact z
section
variable{X:Cx}{a b c e:Expr}{fa fb fc:HM.EF}{pos p:Pos}{f:HM.BF}
theorem Zfz{n:Nat}(h:n<HM.big):n<sizeLine:=by
 have e5:(1000000:Nat)<=sizeLine:=by decide
 unfold HM.big at h;omega
theorem ZeM(hu:X.A.units+1<cLine)(i:Nat){p2:Pos}(hk:XE X b fb)(ha:XE X a fa)(hN:X.N[i]?=Z x:=by rfl)(hv:Vis X.env.scope x:=by first | exact ZBc rfl | exact ZAT (ZBc rfl) | exact ZAT (ZAT rfl))(hd:(x==("__debug__":Str))=ZFu:=by decide)(hcd:(x==("__classdict__":Str))=ZFu:=by decide)
  (hs:ZCq a (Z (.Subscript (.Name x p1) b p2)) pos.line X.env=pure ZFu:=by rfl):XS X (.Assign [.Subscript (.Name x p1) b p2] a pos) (HM.Zgh i fb fa):=by
 intro r o h;unfold HM.Zgh at h;split at h
 ·rename_i d hd'
  split at h
  ·rename_i y hy
   split at h
   ·rename_i kvs hb
    split at h
    ·rename_i k hk'
     split at h
     ·rename_i hz
      cases h;refine PS.imp (Zms hu (ZbL hN hv hd hcd) (hk r y hy) (ha r d hd') hs) λE σ H ⟨F0,H0,F,at_,kk⟩=>?_;refine⟨F0,H0,F,at_,λv F1 H1 x1 r1=>?_⟩;have at1:=at_.grow x1;obtain⟨u,fp,e1,e2⟩:=at1.any hb;refine⟨u,e1,F0,H0,F1,at1,λw F2 H2 x2 r2=>?_⟩;have at2:=at1.grow x2;cases e2 with
      | @ok l _ vvs e2 e3 e4=>have T:ZaX X.K F2 kvs vvs:=⟨e3,e4.mono x2.ff⟩;have T':=T.put k (r1.mono x2.ff);rw[ZgX hk' r2];have hH:H2 l=Z (.dK vvs):=x2.hh _ _ e2;refine⟨l,_,rfl,ZiS.k hH (by rw[<-T.len]; exact Zfz hz),kk _ F2 _ (at2.chgOne hb e1 (λv fp q=>by cases q; exact⟨_,rfl,rfl⟩) _ _ (.ok ZI T'.1 T'.2))⟩
     ·cases h
    ·cases h
   ·rename_i kvs hb
    split at h
    ·rename_i k hk'
     split at h
     ·rename_i hz
      cases h;refine PS.imp (Zms hu (ZbL hN hv hd hcd) (hk r y hy) (ha r d hd') hs) λE σ H ⟨F0,H0,F,at_,kk⟩=>?_;refine⟨F0,H0,F,at_,λv F1 H1 x1 r1=>?_⟩;have at1:=at_.grow x1;obtain⟨u,fp,e1,e2⟩:=at1.any hb;refine⟨u,e1,F0,H0,F1,at1,λw F2 H2 x2 r2=>?_⟩;have at2:=at1.grow x2;cases e2 with
      | @ot l _ vvs e2 e3 e4=>have T:ZaX X.K F2 kvs vvs:=⟨e3,e4.mono x2.ff⟩;have T':=T.put k (r1.mono x2.ff);obtain⟨bb,rfl,hbb⟩:=ZbQ hk' r2;have hH:H2 l=Z (.dT vvs):=x2.hh _ _ e2;refine⟨l,_,rfl,ZiS.t hH (x2.sub _ _ hbb) (by rw[<-T.len]; exact Zfz hz),kk _ F2 _ (at2.chgOne hb e1 (λv fp q=>by cases q; exact⟨_,rfl,rfl⟩) _ _ (.ot ZI T'.1 T'.2))⟩
     ·cases h
    ·cases h
   ·cases h
  ·cases h
 ·cases h
theorem Zlk{K:ZAo}{F H:Hp}(k:List Key):∀(kvs:List (List Key × List PyData)) (vvs:List (List Key × V)) (ls:List Addr),kvs.map (·.1)=vvs.map (·.1)->vvs.map (·.2)=ls.map V.ref ->
  (∀(i:Nat) (ds:List PyData) (l:Addr),(kvs.map (·.2))[i]?=Z ds->ls[i]?=Z l->∃vs,H l=Z (.lst vs)/\Zv K F ds vs) ->
  (∀ds,HM.Zi kvs k=Z ds->∃l' vs,Za3 vvs k=Z (.ref l')/\l'∈ls/\H l'=Z (.lst vs)/\Zv K F ds vs)/\(HM.Zi kvs k=Z_->Za3 vvs k=Z_)
 | [],[],_,_,_,_=>⟨(λds h=>by cases h),λ_=>rfl⟩
 | [],_::_,_,hk,_,_=>by simp at hk
 | _::_,[],_,hk,_,_=>by simp at hk
 | _::_,_::_,[],_,hv,_=>by simp at hv
 | (k1,ds1)::kvs,(k2,v2)::vvs,l1::ls,hk,hv,r=>by
  rw[ZAt,ZAt]at hk hv;injection hk with e1 e2
  injection hv with e3 e4
  have e1:k1=k2:=e1;have e3:v2=.ref l1:=e3;subst e1 e3;obtain⟨i1,i2⟩:=Zlk k kvs vvs ls e2 e4 λi ds l h1 h2=>r (i+1) ds l (by simpa using h1) (by simpa using h2)
  by_cases hkk:k1=k
  ·have e5:HM.Zi ((k1,ds1)::kvs) k=Z ds1:=by simp[HM.Zi,ZBv,hkk]
   rw[e5,ZeB (p:=(k1,V.ref l1)) hkk];obtain⟨vs,q1,q2⟩:=r 0 ds1 l1 rfl rfl;exact⟨(λds h=>by cases h; exact⟨l1,vs,rfl,by simp,q1,q2⟩),(λh=>by cases h)⟩
  ·have e5:HM.Zi ((k1,ds1)::kvs) k=HM.Zi kvs k:=by simp[HM.Zi,ZBv,hkk]
   rw[e5,Zev (p:=(k1,V.ref l1)) hkk];exact⟨λds h=>let ⟨l',vs,a1,a2,a3⟩:=i1 ds h; ⟨l',vs,a1,ZAq _ a2,a3⟩,i2⟩
theorem Zqp{kvs:List (List Key × List PyData)}{v:V}(q:Zam K F H (.otl kvs) v fp) :
  ∃l vvs ls,v=.ref l/\fp=l::ls/\H l=Z (.dT vvs)/\kvs.map (·.1)=vvs.map (·.1)/\vvs.map (·.2)=ls.map V.ref /\
   ∀k,(∀ds,HM.Zi kvs k=Z ds->∃l' vs,Za3 vvs k=Z (.ref l')/\l'∈ls/\H l'=Z (.lst vs)/\Zv K F ds vs)/\(HM.Zi kvs k=Z_->Za3 vvs k=Z_):=by
 cases q with
 | @otl l _ vvs ls h hk hv r=>exact⟨l,vvs,ls,rfl,rfl,h,hk,hv,λk=>Zlk k kvs vvs ls hk hv r⟩
theorem ZuV{v w:V}{x:PyData}{c:Bool}(sub:Zs F H)(rq:Zam K F H q v fp)(rx:Rep K F x w)(h:HM.hasB q x=Z c):∃l o,v=.ref l/\Zcc H l w o/\o.isSome=c:=by
 cases rq with
 | pl _=>cases h
 | hd _ _ _ _=>cases h
 | hf _=>cases h
 | ol _ _=>cases h
 | @ok l kvs vvs h1 h2 h3=>obtain⟨k,e1,e2⟩:=ZAn.mp h;rw[ZgX e1 rx];exact⟨l,_,rfl,Zcc.k h1,by rw[ZaX.some_iff (K:=K) (F:=F) ⟨h2,h3⟩,<-e2]⟩
 | @ot l kvs vvs h1 h2 h3=>obtain⟨k,e1,e2⟩:=ZAn.mp h;obtain⟨bb,rfl,hbb⟩:=ZbQ e1 rx;exact⟨l,_,rfl,Zcc.t h1 (sub _ _ hbb),by rw[ZaX.some_iff (K:=K) (F:=F) ⟨h2,h3⟩,<-e2]⟩
 | @otl l kvs vvs ls h1 h2 h3 h4 =>
  obtain⟨k,e1,e2⟩:=ZAn.mp h;obtain⟨bb,rfl,hbb⟩:=ZbQ e1 rx;refine⟨l,_,rfl,Zcc.t h1 (sub _ _ hbb),?_⟩;obtain⟨l2,vvs2,ls2,e3,e4,e5,_,_,hl⟩:=Zqp (Zam.otl h1 h2 h3 h4);cases e3;rw[h1]at e5;cases e5;obtain⟨i1,i2⟩:=hl k;rw[<-e2];cases hq:HM.Zi kvs k with
  | none=>rw[i2 hq]; rfl
  | some ds=>obtain⟨_,_,h5,_⟩:=i1 ds hq; rw[h5]; rfl
theorem Zsj{d:PyData}(h:HM.ZlS fa f r=Z d):∃x q c,fa r=Z x/\f r=Z q/\HM.hasB q x=Z c/\d=.bool (!c):=by
 unfold HM.ZlS at h;split at h
 ·split at h
  ·obtain⟨c,h1,h2⟩:=ZAn.mp h
   exact⟨_,_,c,by assumption,by assumption,h1,h2.symm⟩
  ·cases h
 ·cases h
theorem Zuq(hu:X.A.units+1<cLine)(ha:XE X a fa)(hb:XB X b f)(hm:ZBF .NotIn b=ZFu:=by rfl):XT X (.Compare a [.NotIn] [b] pos) (HM.tV (HM.ZlS fa f)):=by intro r d h;obtain⟨x,q,c,h1,h2,h3,e⟩:=Zsj (Zg6 h);cases e;refine PT.imp (ZpZ (Znb hu (ha r x h1) (hb r q h2)) hm) λσ H Q ⟨F0,H0,F,at_,k⟩=>?_;refine⟨F0,H0,F,at_,λv F1 H1 x1 r1=>⟨F0,H0,F1,at_.grow x1,λw F2 H2 x2 ⟨fp,r2⟩=>?_⟩⟩;obtain⟨l,o,e1,e2,e3⟩:=ZuV x2.sub r2 (r1.mono x2.ff) h3;exact⟨l,o,e1,e2,_,rfl,by rw[e3]; exact k F2 H2 (x1.trans x2)⟩
theorem ZvF(h:HM.ZpN i fa r=Z q):∃x bb,fa r=Z x/\r[i]?=Z (Z bb) /\
  ((∃kvs k d,bb=.ok kvs/\HM.ZiW x=Z k/\HM.Zi kvs k=Z d/\q=.pl d)\/(∃kvs k d,bb=.ot kvs/\HM.ZaT x=Z k/\HM.Zi kvs k=Z d/\q=.pl d)\/∃kvs k ds,bb=.otl kvs/\HM.ZaT x=Z k/\HM.Zi kvs k=Z ds/\q=.ol ds):=by
 unfold HM.ZpN at h;split at h
 ·rename_i x hx
  split at h
  ·rename_i kvs hb
   split at h
   ·rename_i k hk
    obtain⟨d,h1,h2⟩:=ZAn.mp h;exact⟨x,_,hx,hb,.inl ⟨kvs,k,d,rfl,hk,h1,h2.symm⟩⟩
   ·cases h
  ·rename_i kvs hb
   split at h
   ·rename_i k hk
    obtain⟨d,h1,h2⟩:=ZAn.mp h;exact⟨x,_,hx,hb,.inr (.inl ⟨kvs,k,d,rfl,hk,h1,h2.symm⟩)⟩
   ·cases h
  ·rename_i kvs hb
   split at h
   ·rename_i k hk
    obtain⟨d,h1,h2⟩:=ZAn.mp h;exact⟨x,_,hx,hb,.inr (.inr ⟨kvs,k,d,rfl,hk,h1,h2.symm⟩)⟩
   ·cases h
  ·cases h
 ·cases h
theorem ZsW(hu:X.A.units+1<cLine)(i:Nat)(hk:XE X b fb)(hN:X.N[i]?=Z x:=by rfl)(hv:Vis X.env.scope x:=by first | exact ZBc rfl | exact ZAT (ZBc rfl) | exact ZAT (ZAT rfl))(hd:(x==("__debug__":Str))=ZFu:=by decide)(hcd:(x==("__classdict__":Str))=ZFu:=by decide)
  (hs:ZpB b:=by intro _ _; rfl):XB X (.Subscript (.Name x p1) b pos) (HM.ZpN i fb):=by
 intro r q h;obtain⟨y,bb,h1,h2,h3⟩:=ZvF h;refine PE.imp (Zmt hu (ZbL hN hv hd hcd) (hk r y h1) hs) λσ H Q ⟨F0,H0,F,at_,kk⟩=>?_;obtain⟨u,fp,e1,e2⟩:=at_.any h2;refine⟨u,e1,F0,H0,F,at_,λw F2 H2 x2 r2=>?_⟩;have e2':=e2.mono x2.ff λ_ _ _ z=>x2.hh _ _ z;rcases h3 with⟨kvs,k,d,rfl,hk',hl,rfl⟩ | ⟨kvs,k,d,rfl,hk',hl,rfl⟩ | ⟨kvs,k,ds,rfl,hk',hl,rfl⟩
 ·cases e2' with
  | @ok l _ vvs g1 g2 g3=>obtain⟨v,q1,q2⟩:=(ZaX.look (k:=k) (K:=X.K) (F:=F2) ⟨g2,g3⟩).1 d hl;rw[ZgX hk' r2];exact⟨l,v,rfl,by rw[<-q1]; exact Zcc.k g1,kk v F2 H2 x2 ⟨[],.pl q2⟩⟩
 ·cases e2' with
  | @ot l _ vvs g1 g2 g3=>obtain⟨v,q1,q2⟩:=(ZaX.look (k:=k) (K:=X.K) (F:=F2) ⟨g2,g3⟩).1 d hl;obtain⟨bb',rfl,hbb⟩:=ZbQ hk' r2;exact⟨l,v,rfl,by rw[<-q1]; exact Zcc.t g1 (x2.sub _ _ hbb),kk v F2 H2 x2 ⟨[],.pl q2⟩⟩
 ·obtain⟨l,vvs,ls,rfl,_,g1,_,_,hlk⟩:=Zqp e2'
  obtain⟨l',vs,q1,_,q2,q3⟩:=(hlk k).1 ds hl;obtain⟨bb',rfl,hbb⟩:=ZbQ hk' r2;exact⟨l,_,rfl,by rw[<-q1]; exact Zcc.t g1 (x2.sub _ _ hbb),kk _ F2 H2 x2 ⟨[l'],.ol q2 q3⟩⟩
end
end HP
namespace HP
open PySem PySem.Spec PyProof.Rows L2
variable{p:Addr}{env:Env}{r:HM.Env}{F F0 H H0:Hp}{σ:L2.St}{K:ZAo}{scope:Scope}
variable[FX]
abbrev No:Value->Shared->Prop:=λ_ _=>False
abbrev Zrn(ifs:List Expr)(env:Env):Sem Bool :=
 forIn ifs ZFt λc r=>if r=ZFt then do let ok <-isTrue c env (eval c env); pure (ZDZ ok)else pure (ZDZ r)
theorem Zt6{prog:Program}{w:World}{A:Around}{R:Result->Shared->Prop}{s:Shared}{elt target iter:Expr}{ifs:List Expr}{pos:Pos}{it acc:Value}(J:Nat->Shared->Prop)
  (turn:∀n s,J n s->wpAny (model prog w) A (pyNext it) (λr s1=>match r with
   | none=>R (.ok .next) s1
   | some v=>wpAny (model prog w) A (ZDW target it v) (λ_ s2=>wpAny (model prog w) A (assign target env v) (λ_ s3=>wpAny (model prog w) A (Zrn ifs env) (λok s4=>if ok=ZFt then wpAny (model prog w) A (eval elt env) (λx s5=>wpAny (model prog w) A (call (.builtin "list.append") [acc,x]) (λ_ s6=>∃m,m<n/\J m s6) No s5) No s4 else ∃m,m<n/\J m s4) No s3) No s2) No s1) No s)
  (n:Nat) (h:J n s):codeAny (model prog w) A (.compLoop (.ListComp elt [⟨target,iter,ifs,0⟩] scope pos) 0 it acc env) R s:=by
 refine codeAny_loop rfl J (λn s hI=>?_) n h;show wpAny _ A ((compTurn (.ListComp elt [⟨target,iter,ifs,0⟩] scope pos) 0 it acc env).onRaise (λx=>do noteFrame x env; theTreesLotGoes x)) _ _ s;refine wpAny_noted ?_;rw[compTurn_list];refine ZAm (wpAny_standAt (ZAm (ZBM (turn n s hI) (λr s1 h1=>?_) λ_ _ z=>z.elim)));cases r with
 | none=>exact ZAr h1
 | some v =>
  refine ZAm (ZBM h1 (λ_ s2 h2=>ZAm (ZBM h2 (λ_ s3 h3=>ZAm (ZBM h3 (λok s4 h4=>?_) λ_ _ z=>z.elim)) λ_ _ z=>z.elim)) λ_ _ z=>z.elim);cases ok with
  | false=>exact ZAr ⟨rfl,h4⟩
  | true=>refine ZAm (ZAm (ZBM h4 (λx s5 h5=>?_) λ_ _ z=>z.elim));exact ZAm (ZBM h5 (λ_ s6 h6=>ZAr (ZAr ⟨rfl,h6⟩)) λ_ _ z=>z.elim)
def ZX(X:Cx)(N:List Str)(scope:Scope)(cl:List (Str × Addr))(C:Addr)(s₀:Shared)(H₀:Hp)(ex:List Addr):Cx where
 prog:=X.prog
 w:=X.w
 K:=X.K
 mg:=X.mg
 base:=X.base
 A:=X.A
 N:=N
 s₀:=s₀
 H₀:=H₀
 env:=compEnvC scope cl C X.env
 outer:=X.stack
 stack:=X.stack
 ex:=ex
 fn:=λ_=>ZFu
 calm:=ZFt
 pn:=[]
 xe:=λ_ _=>False
theorem ZiE{env:Env}:∀(names:List (Str × NameKind)) (cs:List (Str × Addr)),(∀y∈names,y.2=.free->∃c,env.cells.lookup y.1=Z c)->(∀x c,cs.lookup x=Z c->env.cells.lookup x=Z c) ->
  ∃cl,(forIn names cs λ(x:Str × NameKind) r=>(match x with | (name,kind)=>if kind==.free then do let c <-cellOf env name; pure (ZDZ ((name,c)::r))else pure (ZDZ r):Sem (ForInStep (List (Str × Addr)))))=pure cl /\
   (∀x c,cl.lookup x=Z c->env.cells.lookup x=Z c)/\(∀x,(cs.lookup x).isSome=ZFt->(cl.lookup x).isSome=ZFt)/\∀y∈names,y.2=.free->(cl.lookup y.1).isSome=ZFt
 | [],cs,_,h2=>⟨cs,rfl,h2,λ_ h=>h,λy hy=>by simp at hy⟩
 | (n,k)::r,cs,h1,h2=>by
  rw[List.forIn_cons]
  by_cases hk:(k==ZCF)=ZFt
  ·obtain⟨c,hc⟩:=h1 (n,k) (ZAp ..) (by simpa using hk)
   have ec:cellOf env n=pure c:=by unfold cellOf; rw[hc]
   obtain⟨cl,e1,e2,e3,e4⟩:=ZiE r ((n,c)::cs) (λy hy=>h1 y (ZAq _ hy)) (λx d hx=>by
    rw[ZCe]at hx;split at hx
    ·rename_i hb
     have:x=n:=by simpa using hb
     cases hx; rw[this]; exact hc
    ·exact h2 x d hx)
   refine⟨cl,?_,e2,λx hx=>e3 x ?_,λy hy hf=>?_⟩
   ·simp only[hk,if_true,ec,pure_bind]
    exact e1
   ·rw[ZCe]
    split
    ·rfl
    ·exact hx
   ·rcases ZAy.mp hy with e | hy
    ·subst e
     exact e3 n (by rw[ZCe]; simp)
    ·exact e4 y hy hf
  ·obtain⟨cl,e1,e2,e3,e4⟩:=ZiE r cs (λy hy=>h1 y (ZAq _ hy)) h2
   refine⟨cl,?_,e2,e3,λy hy hf=>?_⟩
   ·simp only[hk,if_false,pure_bind,ZCi]
    exact e1
   ·rcases ZAy.mp hy with e | hy
    ·subst e
     exact absurd (by simpa using hf) hk
    ·exact e4 y hy hf
theorem Zgi(h:∀y∈scope.names,y.2=.free->∃c,env.cells.lookup y.1=Z c) :
  ∃cl,closureFor scope env=pure cl/\(∀x c,cl.lookup x=Z c->env.cells.lookup x=Z c)/\∀y∈scope.names,y.2=.free->(cl.lookup y.1).isSome=ZFt:=by
 obtain⟨cl,e1,e2,_,e4⟩:=ZiE (env:=env) scope.names [] h (λx c hx=>by simp at hx);refine⟨cl,?_,e2,e4⟩;unfold closureFor;exact(congrArg (λm:Sem (List (Str × Addr))=>m >>= λcs=>pure cs) e1).trans (pure_bind cl λcs=>pure cs)
theorem Ext.chg{F' H':Hp}(x:Ext F H F' H')(o:HO)(h1:H p=Z_)(h2:F' p=Z_)(h3:∀u,H' p=Z u->ZmP u=ZFt):Ext F H F' (upd H' p o) :=
 ⟨x.ff,λb q z=>by
  have hb:b≠p:=ZaE z h1;have y:=x.hh b q z;unfold Zds at y ⊢;rw[ZB hb];exact y,λb q z=>by rw[ZB (ZaE z h2)]; exact x.sub b q z,x.new,λt=>(x.tab t).keep λa u z hu=>by
   have ha:a≠p:=λe=>by subst e; exact Zt2 (h3 u z) hu
   rw[ZB ha]; exact z,x.nts⟩
theorem At.push{d:PyData}{v:V}(e:At K F0 H0 F H r σ)(q:Rep K F d v):At K F0 H0 F H (Z (.pl d)::r) (Z v::σ):=by
 obtain⟨fp,e⟩:=e;refine⟨λi=>match i with | 0=>[] | i+1=>fp i,e.ext,by rw[ZAB,ZAB,e.len],λi b h=>?_,λi h=>?_,λi a h=>?_,λi=>?_,λi j a hij h=>?_,e.tb,e.nt⟩
 ·cases i with
  | zero=>rw[ZCV]at h;cases h;exact⟨v,rfl,.pl q⟩
  | succ i=>rw[ZBb]at h;obtain⟨u,h1,h2⟩:=e.at_ i b h;exact⟨u,by rw[ZBb]; exact h1,h2⟩
 ·cases i with
  | zero=>rfl
  | succ i=>exact e.emp i λb z=>h b (by rw[ZBb]; exact z)
 ·cases i with
  | zero=>simp at h
  | succ i=>exact e.own i a h
 ·cases i with
  | zero=>exact ZBU
  | succ i=>exact e.nd i
 ·cases i with
  | zero=>simp at h
  | succ i =>
   cases j with
   | zero=>simp
   | succ j=>exact e.dis i j a (by omega) h
theorem At.chgNew(o:HO){Hs Fs:Hp}(e:At K F0 H0 F H r σ)(es:At K F0 H0 Fs Hs r σ)(hs:ZaQ Hs H)(h1:Hs p=Z_)(h2:F p=Z_)(h3:∀u,H p=Z u->ZmP u=ZFt):At K F0 H0 F (upd H p o) r σ:=by
 obtain⟨fp,e⟩:=e;obtain⟨fq,es⟩:=es;have hp:∀i,¬p∈fp i:=λi hm=>by
  obtain⟨b,hb⟩:=e.bound hm;obtain⟨v,q1,q2⟩:=e.at_ i b hb;obtain⟨v',q3,q4⟩:=es.at_ i b hb;rw[q1]at q3;cases q3;generalize fp i=f1 at q2 hm;generalize fq i=f2 at q4;cases q2 with
  | pl _=>simp at hm
  | hd _ _ _ _=>simp at hm
  | hf _=>simp at hm
  | ol k _=>cases q4 with | ol k' _=>simp at hm; subst hm; rw[h1]at k'; cases k'
  | ok k _ _=>cases q4 with | ok k' _ _=>simp at hm; subst hm; rw[h1]at k'; cases k'
  | ot k _ _=>cases q4 with | ot k' _ _=>simp at hm; subst hm; rw[h1]at k'; cases k'
  | otl k _ v1 _ =>
   cases q4 with
   | otl k' hk' v2 r2' =>
    have eo:=hs.back k' k λ_ z=>by cases z
    cases eo;have v2':=v2;rw[v1]at v2;rcases ZAy.mp hm with z2 | z2
    ·subst z2; rw[h1]at k'; cases k'
    ·have:V.ref p∈ZDP V.ref _:=ZAv.mpr ⟨p,z2,rfl⟩
     rw[v2]at this;obtain⟨a',m1,m2⟩:=ZAv.mp this;injection m2 with m2
     subst m2;obtain⟨o,ho⟩:=Zam.there (Zam.otl k' hk' v2' r2') (ZAq _ m1);rw[h1]at ho; cases ho
 have hH0:H0 p=Z_:=es.ext.hh.free h1;refine⟨fp,e.ext.chg o hH0 h2 h3,e.len,λi b h=>?_,e.emp,e.own,e.nd,e.dis,e.tb,e.nt⟩;obtain⟨v,q1,q2⟩:=e.at_ i b h;refine⟨v,q1,q2.mono (Zs.refl F) λa ha o' z=>?_⟩;have hne:a≠p:=λe=>hp i (by rw[<-e]; exact ha);exact .of (by rw[ZB hne]; exact z)
end HP
namespace HP
open PySem PySem.Spec PyProof.Rows L2
variable{Y:Cx}{H H1:Hp}{σ:L2.St}{pins:List (Addr × Obj)}{fp:List Addr}{s s2:Shared}
variable[FX]
structure Zdt(X:Cx)(N:List Str)(scope:Scope)(fr:List Str):Prop where
 kind:scope.kind=.function
 cell:∀y∈scope.names,y.2≠.cell
 names:∀y∈scope.names,y.2=.local->scope.names.lookup y.1=Z .local
 loc:∀x∈fr,scope.names.lookup x=Z .local
 first:∀(i:Nat) (x:Str),fr[i]?=Z x->N[i]?=Z x
 nd:N.Nodup
 len:N.length=X.N.length+fr.length
 cap:∀y∈scope.names,y.2=.free->X.env.kindOf y.1=Z .cell\/X.env.kindOf y.1=Z .free
 same:∀(i:Nat) (y:Str),N[i+fr.length]?=Z y->scope.names.lookup y=Z .free->X.N[i]?=Z y
 vis:∀(i:Nat) (y:Str),N[i+fr.length]?=Z y->Vis scope y->scope.names.lookup y=Z .free
def goG(dec:PyData->Option (List PyData))(c:HM.TF)(e:HM.EF)(r:HM.Env):List PyData->Option (List PyData)
 | []=>Z []
 | x::xs=>match dec x with
  | some ys=>match c (ys.map (λd=>Z (HM.B.pl d))++r)with
   | some ZFt=>match e (ys.map (λd=>Z (HM.B.pl d))++r)with
    | some y=>(goG dec c e r xs).map (y::·)
    | none=>Z_
   | some ZFu=>goG dec c e r xs
   | none=>Z_
  | none=>Z_
def Zf6(dec:PyData->Option (List PyData))(i:HM.IF)(c:HM.TF)(e:HM.EF):HM.BF:=λr=>match i r with
 | some xs=>if xs.length<HM.big then(goG dec c e r xs).map λys=>HM.B.ol ys else Z_
 | none=>Z_
def ZjW(Y:Cx)(m:Nat)(tg:Expr)(dec:PyData->Option (List PyData)):Prop:=∀(pins:List (Addr × Obj)) (s:Shared) (σ:L2.St) (sv:List (Option V)) (H F:Hp) (d:PyData) (ys:List PyData) (xv:V) (u:Value),sv.length=m->Inv Y pins (sv++σ) H s->RelV xv u->Zs F H->Rep Y.K F d xv->dec d=Z ys ->
 wpAny (model Y.prog Y.w) Y.A (assign tg Y.env u) (λ_ s'=>∃vs:List V,vs.length=m/\Inv Y pins (vs.map Z++σ) H s'/\Zv Y.K F ys vs) Y.xe s
theorem At.pushes{K:ZAo}{F0 H0 F H:Hp}{r:HM.Env}{σ:L2.St}:∀{ds:List PyData} {vs:List V},At K F0 H0 F H r σ->Zv K F ds vs->At K F0 H0 F H (ds.map (λd=>Z (HM.B.pl d))++r) (vs.map Z++σ)
 | [],vs,e,q=>by rw[q.nil_inv];exact e
 | d::ds,vs,e,q=>by obtain⟨v,us,rfl,r1,r2⟩:=q.cons_inv;exact(At.pushes e r2).push r1
section
variable{X:Cx}{N:List Str}{scope:Scope}{fr:List Str}{cl:List (Str × Addr)}{C:Addr}
theorem ZbA{env:Env}{y:Str}{k:NameKind}:∀{names:List (Str × NameKind)},(names.map λ(n,k)=>if(k==ZCF&&env.scope.kind==.function&&env.kindOf n==Z .cell)then(n,NameKind.cell)else(n,k)).lookup y=Z k ->
  names.lookup y=Z k\/(k=.cell/\names.lookup y=Z .free)
 | [],h=>by simp at h
 | (n,k')::r,h=>by
  have ih:=@ZbA env y k r;rw[ZAt]at h;dsimp only at h
  by_cases hc:(k'==ZCF&&env.scope.kind==.function&&env.kindOf n==Z .cell)=ZFt
  ·rw[if_pos hc,ZCe]at h
   rw[ZCe];split at h
   ·cases h
    refine .inr ⟨rfl,?_⟩;have:(k'==ZCF)=ZFt:=by rw[ZAW,ZAW]at hc;exact hc.1.1
    rw[show k'=ZCF by simpa using this]
   ·exact ih h
  ·rw[if_neg hc,ZCe]at h
   rw[ZCe];split at h
   ·cases h
    exact .inl rfl
   ·exact ih h
theorem lookup_mem{y:Str}{k:NameKind}:∀{names:List (Str × NameKind)},names.lookup y=Z k->(y,k)∈names
 | [],h=>by simp at h
 | (n,k')::r,h=>by
  rw[ZCe]at h;split at h
  ·cases h
   rename_i hb;rw[show y=n by simpa using hb];exact ZAp ..
  ·exact ZAq _ (lookup_mem h)
theorem ZwQ(T:Zdt X N scope fr)(hcl:∀y c,cl.lookup y=Z c->X.env.cells.lookup y=Z c)(hfr:∀y∈scope.names,y.2=.free->(cl.lookup y.1).isSome=ZFt)
  (I:Inv X pins σ H s) (hc:X.calm=ZFt) (hf:∀b∈fp,Zgk X pins H b) (hfl:∀b∈fp,b<s.heap.objs.size) (hC:s.heap.objs.size<=C):(ZX X N scope cl C s H fp).Ok:=by
 refine⟨I.ok.mod,T.kind,I.ok.glob,I.ok.blt,hC,λy z c h1 h2=>I.ok.inj y z c (hcl y c h1) (hcl z c h2),λy h=>?_,λy c h=>?_,λ_=>I.ok.hd hc,I.ok.frames,.inl rfl,λb hb=>⟨?_,λy c h=>?_⟩,λb o h=>I.bs b o h,
  ZBm I.ok.bsz I.sz,λb o h hb=>?_,λb hb hs=>?_,I.stack,I.stkFree⟩
 ·have h':(relabel scope X.env).names.lookup y=Z .cell\/(relabel scope X.env).names.lookup y=Z .free:=h
  have hm:(y,ZCF)∈scope.names:=by
   rcases h' with h' | h'
   ·rcases ZbA h' with q | ⟨_,q⟩
    ·exact absurd rfl (T.cell _ (lookup_mem q))
    ·exact lookup_mem q
   ·rcases ZbA h' with q | ⟨e,_⟩
    ·exact lookup_mem q
    ·cases e
  exact ZAX.mp (hfr _ hm rfl)
 ·exact absurd h (by show ¬ZFu=ZFt; simp)
 ·exact ZAK (ZAS (hfl b hb) hC)
 ·obtain⟨_,_,_,_,q,_⟩:=hf b hb
  exact q y c (hcl y c h)
 ·obtain⟨_,_,_,q,_⟩:=hf b hb
  rcases q with q | q
  ·exact I.ok.noex b o h q
  ·exact absurd (ZAS (ZAG h) (ZBm I.ok.bsz q)) (ZCc _)
 ·obtain⟨_,q1,q2,_⟩:=hf b hb
  rcases ZAy.mp (I.stkSub b hs)with z | z
  ·exact q1 z
  ·exact q2 z
theorem ZoT{D:Addr}{h1:Heap}{tk:Nat}(T:Zdt X N scope fr)(hcl:∀y c,cl.lookup y=Z c->X.env.cells.lookup y=Z c)(hfr:∀y∈scope.names,y.2=.free->(cl.lookup y.1).isSome=ZFt)
  (I:Inv X pins σ H s) (hc:X.calm=ZFt) (hf:∀b∈fp,Zgk X pins H b) (hfl:∀b∈fp,b<s.heap.objs.size) (hD:s.heap.objs.size=D) (hC:D<C) (ns:h1.Ns C (λ_=>Z_)) (hl:h1.get? D=Z { cls:=.type "list",data:=.seq #[] 0 })
  (k:∀b o,s.heap.get? b=Z o->h1.get? b=Z o):Inv (ZX X N scope cl C s H fp) [] (ZA0 fr.length Z_++σ) (upd H D (.lst [])) { s with heap:=h1,toks:=tk }:=by
 have hn:H D=Z_:=I.hok.fresh (ZD0 hD);have hDC:s.heap.objs.size<=C:=ZBm (ZD0 hD) (ZCj hC);have hCn:H C=Z_:=I.hok.fresh hDC;refine⟨ZwQ T hcl hfr I hc hf hfl hDC,rfl,I.bare,Un.laid k (ZD0 hD) hn,⟨_,ns,λi y v e1 e2 e3=>?_⟩,λy c h=>?_,?_,λy c h=>?_,λp hp=>absurd (show p∈([]:List (Addr × Obj)) from hp) (by simp),I.hok.laid k (ZD0 hD) ⟨ZCa _,[],0,.nil,hl⟩,?_⟩
 ·have hge:fr.length<=i:=by
   apply ZCO;intro hlt;rw[ZA4 (by rw[ZBi]; exact hlt),ZCU,if_pos hlt]at e2;cases e2
  rw[ZBe (by rw[ZBi]; exact hge),ZBi]at e2;obtain⟨j,rfl⟩:∃j,i=j+fr.length:=⟨i-fr.length,by omega⟩;rw[Nat.add_sub_cancel]at e2
  ·have e3':Vis scope y:=by
    have e3:Vis (relabel scope X.env) y:=e3;rcases e3 with q | q | q
    ·rcases ZbA q with q | ⟨z,_⟩
     ·exact .inl q
     ·cases z
    ·rcases ZbA q with q | ⟨_,q⟩
     ·exact .inr (.inl q)
     ·exact .inr (.inr q)
    ·rcases ZbA q with q | ⟨z,_⟩
     ·exact .inr (.inr q)
     ·cases z
   have hfree:=T.vis j y e1 e3';have hm:=lookup_mem hfree;have hN:=T.same j y e1 hfree;have hcap:=T.cap _ hm rfl;obtain⟨m,_,hl⟩:=I.loc;obtain⟨u,ru,lu⟩:=hl j y v hN e2 (by
    rcases hcap with q | q
    ·exact .inr (.inl q)
    ·exact .inr (.inr q))
   refine⟨u,ru,?_⟩;obtain⟨c,hcc⟩:=ZAX.mp (hfr _ hm rfl);rcases lu with⟨q,_⟩ | ⟨_,c',e,z⟩
   ·rcases hcap with q' | q'<;>(rw[q']at q; cases q)
   ·refine .inr ⟨?_,c,hcc,?_⟩
    ·rcases e3 with q | q | q
     ·have q:(relabel scope X.env).names.lookup y=Z .local:=q
      rcases ZbA q with q | ⟨z,_⟩
      ·rw[hfree]at q; cases q
      ·cases z
     ·exact .inl q
     ·exact .inr q
    ·rw[hcl y c hcc]at e
     cases e;obtain⟨o,ho,hd⟩:=z;exact⟨o,k _ _ ho,hd⟩
 ·obtain⟨v,o,ho,hd⟩:=I.cell y c (hcl y c h)
  exact⟨v,o,k _ _ ho,hd⟩
 ·show upd H D (.lst []) C=Z_
  rw[ZB (ZDm hC)];exact hCn
 ·have hq:=I.freeC y c (hcl y c h)
  obtain⟨v,o,ho,_⟩:=I.cell y c (hcl y c h);have:c≠D:=ZAK (by rw[<-hD]; exact ZAG ho);rw[ZB this];exact hq
 ·show(ZA0 fr.length Z_++σ).length=N.length
  rw[ZAE,ZBi,I.len,T.len,Nat.add_comm]
def XTs(Y:Cx)(ifs:List Expr)(f:HM.TF):Prop:=∀r c,f r=Z c->∀(pins:List (Addr × Obj)) (s:Shared) (σ:L2.St) (H:Hp) (Q:Bool->Hp->Prop),Inv Y pins σ H s->(Now Y.K r σ H λF0 H0 F=>∀F' H',Ext F H F' H'->Q c H') ->
 wpAny (model Y.prog Y.w) Y.A (Zrn ifs Y.env) (TP Y pins σ Q) Y.xe s
theorem Zas:XTs Y [] HM.ZE:=by intro r c h pins s σ H Q I ⟨F0,H0,F,at_,k⟩;cases h;exact wpAny_tests_nil ⟨H,I,k F H at_.refl⟩
theorem ZcB{e:Expr}{f:HM.TF}(h:XT Y e f):XTs Y [e] f:=λr c hc pins s σ H Q I q=>wpAny_tests_one (h r c hc pins s σ H Q I q)
def ItE(K:ZAo)(J:It)(ds:List PyData)(F:Hp):Prop:=∀F' H,Zs F F'->Zs F' H ->
 (∀(i:Nat) (d:PyData),ds[i]?=Z d->J.go i H/\∀x H',J.yld i H x H'->∃F2,Ext (ZbW F' H) H F2 H'/\Rep K F2 d x)/\J.stop ds.length H
theorem ItD.e{K:ZAo}{J:It}{ds:List PyData}{F:Hp}(h:ItD K J ds F):ItE K J ds F:=λF' H s1 s2=>by obtain⟨a,b⟩:=h F' H s1 s2;refine⟨λi d hd=>⟨(a i d hd).1,λx H' hy=>?_⟩,b⟩;obtain⟨e,r⟩:=(a i d hd).2 x H' hy;subst e;exact⟨_,.refl (Ext.refl s2).tups.sub,r⟩
def XIE(X:Cx)(tg e:Expr)(f:HM.IF):Prop:=∀r ds,f r=Z ds->PI X tg e λσ H R=>Now X.K r σ H λF0 H0 F=>∀J F' H',Ext F H F' H'->ItE X.K J ds F'->R J H'
theorem XI.e{X:Cx}{tg e:Expr}{f:HM.IF}(h:XI X tg e f):XIE X tg e f:=λr ds hr pins s σ H R I ⟨F0,H0,F,at_,k⟩=>h r ds hr pins s σ H R I ⟨F0,H0,F,at_,λJ F' H' x q=>k J F' H' x q.e⟩
theorem ZpJ{it D:Addr}{tn:Nat->Heap->Prop}{J:It}{elt iter:Expr}{ifs:List Expr}{tg:Expr}{pos:Pos}{dec:PyData->Option (List PyData)}{fc:HM.TF}{fe:HM.EF}{s4:Shared}{r:HM.Env}{ds out:List PyData}{Fs Hs F0 H0 F1:Hp}
  {R:Result->Shared->Prop} (T:Zdt X N scope fr) (I2:Inv X pins σ H1 s2) (W:Turn X.prog X.w X.K tg J fp it tn) (hf:∀b∈fp,Zgk X pins H1 b)
  (I4:Inv (ZX X N scope cl C s2 H1 fp) [] (ZA0 fr.length Z_++σ) (upd H1 D (.lst [])) s4) (tn0:tn 0 s4.heap) (hD:s2.heap.objs.size<=D) (hfl:∀b∈fp,b<s2.heap.objs.size) (hbl:X.calm=ZFt)
  (hc:XTs (ZX X N scope cl C s2 H1 fp) ifs fc) (he:XE (ZX X N scope cl C s2 H1 fp) elt fe) (at_:At X.K F0 H0 Fs Hs r σ) (x1:Ext Fs Hs F1 H1) (itd:ItE X.K J ds F1) (hbind:ZjW (ZX X N scope cl C s2 H1 fp) fr.length tg dec) (hbig:ds.length<HM.big) (go:goG dec fc fe r ds=Z out)
  (hR:∀s',(∃F H vs,Inv (ZX X N scope cl C s2 H1 fp) [] (ZA0 fr.length Z_++σ) H s'/\Ext Fs Hs F H/\H D=Z (.lst vs)/\F D=Z_/\Zv X.K F out vs)->R (.ok .next) s') :
  codeAny (model X.prog X.w) X.A (.compLoop (.ListComp elt [⟨tg,iter,ifs,0⟩] scope pos) 0 (.ref it) (.ref D) (compEnvC scope cl C X.env)) R s4:=by
 have hH1D:H1 D=Z_:=I2.hok.fresh hD;have hHsD:Hs D=Z_:=x1.hh.free hH1D;have hF1D:F1 D=Z_:=x1.sub.free hH1D;have hfpD:∀b∈fp,b≠D:=λb hb=>ZAK (ZAS (hfl b hb) hD);have okY:=I4.ok;have stat:∀{H:Hp},(∀b∈fp,H b=Z_)->∀b∈fp,Zgk (ZX X N scope cl C s2 H1 fp) [] H b:=λhn b hb=>⟨hn b hb,(okY.exf b hb).1,okY.exfs b hb,.inl hb,(okY.exf b hb).2,λp hp=>absurd (show p∈([]:List (Addr × Obj)) from hp) (by simp)⟩;refine Zt6 (λn s'=>∃(j:Nat) (sv:List (Option V)) (F H:Hp) (ys:List PyData) (vs:List V) (rest:List PyData),sv.length=fr.length/\Inv (ZX X N scope cl C s2 H1 fp) [] (sv++σ) H s'/\tn j s'.heap/\(∀b∈fp,H b=Z_)/\Ext Fs Hs F H/\Zs F1 F/\At X.K F0 H0 F H r σ /\
  H D=Z (.lst vs)/\F D=Z_/\Zv X.K F ys vs/\j+n=ds.length/\ys.length<=j/\goG dec fc fe r (ds.drop j)=Z rest/\out=ys++rest) ?_ ds.length
  ⟨0,ZA0 fr.length Z_,F1,_,[],[],out,ZBi,I4,tn0,λb hb=>by rw[ZB (hfpD b hb)]; exact(hf b hb).1,x1.lay' hH1D,Zs.refl _,(at_.grow x1).grow ((at_.grow x1).refl.lay' hH1D),ZI,hF1D,.nil,by omega,ZAz _,go,rfl⟩
 rintro n s5 ⟨j,sv,F,H,ys,vs,rest,hsv,I5,tn5,hfp5,x5,sF,at5,hHD,hFD,rys,hjn,hyl,hgo,hout⟩
 obtain⟨it1,it2⟩:=itd F H sF at5.sub;cases n with
 | zero =>
  have ej:j=ds.length:=by omega
  subst ej;rw[ZEE]at hgo;cases hgo;rw[ZBa]at hout;subst hout;refine thn (W.done (ZX X N scope cl C s2 H1 fp) rfl rfl rfl rfl _ [] s5 _ H No I5 (stat hfp5) tn5 it2) λrv s6 ⟨e,I6⟩=>?_;subst e;refine hR s6 ⟨F,H,vs,I6.weak (by rw[ZAE,ZAE,ZBi,hsv]) λi v hv=>?_,x5,hHD,hFD,rys⟩
  by_cases hi:i<fr.length
  ·rw[ZA4 (by rw[ZBi]; exact hi),ZCU,if_pos hi]at hv
   cases hv
  ·rw[ZBe (by rw[ZBi]; omega),ZBi]at hv
   rw[ZBe (by omega),hsv];exact hv
 | succ n =>
  have hlt:j<ds.length:=by omega
  obtain⟨jg,jy⟩:=it1 j ds[j] (ZAx hlt);obtain⟨F2,x5,sF,at5,hFD,rys,jy⟩:∃F2,Ext Fs Hs F2 H/\Zs F1 F2/\At X.K F0 H0 F2 H r σ/\F2 D=Z_/\Zv X.K F2 ys vs/\∀x H',J.yld j H x H'->∃F3,Ext F2 H F3 H'/\Rep X.K F3 ds[j] x :=
   ⟨ZbW F H,x5.tups,sF.trans (ZcN at5.sub),at5.grow at5.refl.tups,by unfold ZbW; rw[hHD]; exact hFD,rys.mono (ZcN at5.sub),jy⟩
  clear it1 it2
  rw[ZDj hlt]at hgo;refine thn (W.item (ZX X N scope cl C s2 H1 fp) rfl rfl rfl rfl j [] s5 _ H No I5 (stat hfp5) tn5 jg) λrv s6 ⟨u,e,h6⟩=>?_;subst e;refine thn h6 λ_ s7 ⟨xv,H7,I7,r7,y7,tn7,fr7⟩=>?_;obtain⟨F7,x7,rx⟩:=jy xv H7 y7;obtain⟨F2,x5,sF,at5,hHD,hFD,rys,rx⟩:∃F2,Ext Fs Hs F2 H7/\Zs F1 F2/\At X.K F0 H0 F2 H7 r σ/\H7 D=Z (.lst vs)/\F2 D=Z_/\Zv X.K F2 ys vs/\Rep X.K F2 ds[j] xv:=by
   refine⟨F7,x5.trans x7,sF.trans x7.ff,at5.grow x7,x7.hh _ _ hHD,?_,rys.mono x7.ff,rx⟩;cases q:F7 D with
   | none=>rfl
   | some o =>
    rcases x7.new D o q with z | z
    ·rw[hFD]at z; cases z
    ·exact(z.no hHD λ_ q=>by cases q).elim
  have I7':=I7.pinned (stat fr7) (W.obj _ _ tn7);unfold goG at hgo;split at hgo
  case h_2=>cases hgo
  rename_i zs hzs;have dok:=hbind _ s7 σ sv H7 F2 ds[j] zs xv u hsv I7' r7 at5.sub rx hzs;refine thn dok λ_ s8 ⟨ws,hws,I8,rws⟩=>?_;have atp:=at5.pushes rws;have again:∀{s9:Shared} {F9 H9:Hp} {zs9:List PyData} {ws9:List V} {rest':List PyData},Inv (ZX X N scope cl C s2 H1 fp) ([]++Zkj fp s7.heap) (ws.map Z++σ) H9 s9->Ext Fs Hs F9 H9->Zs F2 F9->At X.K F0 H0 F9 H9 r σ->H9 D=Z (.lst ws9)->F9 D=Z_->Zv X.K F9 zs9 ws9->zs9.length<=j+1->goG dec fc fe r (ds.drop (j+1))=Z rest'->out=zs9++rest' ->
    ∃m,m<n+1/\∃(j:Nat) (sv:List (Option V)) (F2 H:Hp) (ys:List PyData) (vs:List V) (rest:List PyData),sv.length=fr.length/\Inv (ZX X N scope cl C s2 H1 fp) [] (sv++σ) H s9/\tn j s9.heap/\(∀b∈fp,H b=Z_)/\Ext Fs Hs F2 H/\Zs F1 F2/\At X.K F0 H0 F2 H r σ /\
     H D=Z (.lst vs)/\F2 D=Z_/\Zv X.K F2 ys vs/\j+m=ds.length/\ys.length<=j/\goG dec fc fe r (ds.drop j)=Z rest/\out=ys++rest:=by
   intro s9 F9 H9 zs9 ws9 rest' I9 x9 s9F a9 h9 f9 r9 l9 g9 o9;refine⟨n,ZCP n,j+1,ws.map Z,F9,H9,zs9,ws9,rest',by rw[ZAl]; exact hws,I9.unpinned,W.keep _ _ _ tn7 λb hb o e=>(I9.pin (b,o) (ZAL _ (ZAL _ (Zgr hb e)))).1,λb hb=>?_,x9,sF.trans s9F,a9,h9,f9,r9,by omega,l9,g9,o9⟩;obtain⟨o,e,d⟩:=W.obj _ _ tn7 b hb;exact(I9.pin (b,o) (ZAL _ (ZAL _ (Zgr hb e)))).2.1
  have noD:∀{F' H':Hp},Ext F2 H7 F' H'->F' D=Z_:=λ{F' H'} y=>by
   cases q:F' D with
   | none=>rfl
   | some o =>
    rcases y.new D o q with z | z
    ·rw[hFD]at z; cases z
    ·exact(z.no hHD λ_ q=>by cases q).elim
  split at hgo
  ·rename_i hcv
   split at hgo
   ·rename_i y hy
    obtain⟨rest',g1,g2⟩:=ZAn.mp hgo;subst g2;refine thn (hc _ _ hcv _ s8 _ H7 (λc' H'=>c'=ZFt/\∃F',Ext F2 H7 F' H') I8 ⟨F0,H0,F2,atp,λF' H' y=>⟨rfl,F',y⟩⟩) λok s9 ⟨H9,I9,eok,F9,x9⟩=>?_;subst eok;rw[if_pos rfl];refine thn (he _ _ hy _ s9 _ H9 (λv' H'=>∃F',Ext F9 H9 F' H'/\Rep X.K F' y v') I9 ⟨F0,H0,F9,atp.grow x9,λv' F' H' x q=>⟨F',x,q⟩⟩) λu' s10 ⟨v',H10,I10,r10,F10,x10,q10⟩=>?_;have x910:=x9.trans x10;have hHD':H10 D=Z (.lst vs):=x910.hh _ _ hHD;have hFD':=noD x910;refine thn (Zhl (X:=ZX X N scope cl C s2 H1 fp) _ s10 _ H10 (.ref D) [v'] (.ref D) [u'] (λ_ H'=>H'=upd H10 D (.lst (vs++[v']))) I10 rfl (.cons r10 .nil) ⟨D,vs,v',rfl,rfl,hHD',?_,rfl⟩) λ_ s11 ⟨_,H11,I11,_,e11⟩=>?_
    ·have:=rys.1
     exact Zfz (by omega)
    subst e11;refine again (zs9:=ys++[y]) I11 ((x5.trans x910).chg _ hHsD hFD' λu z=>by rw[hHD']at z; cases z; rfl) x910.ff ((at5.grow x910).chgNew _ at_ (x5.trans x910).hh hHsD hFD' λu z=>by rw[hHD']at z; cases z; rfl) ZI hFD' ((rys.mono x910.ff).append (.one q10)) (by rw[ZAE]; show ys.length+1<=j+1; omega) g1 (by rw[hout,ZBE]; rfl)
   ·cases hgo
  ·rename_i hcv
   refine thn (hc _ _ hcv _ s8 _ H7 (λc' H'=>c'=ZFu/\∃F',Ext F2 H7 F' H') I8 ⟨F0,H0,F2,atp,λF' H' y=>⟨rfl,F',y⟩⟩) λok s9 ⟨H9,I9,eok,F9,x9⟩=>?_;subst eok;rw[if_neg (by simp)];exact again (zs9:=ys) I9 (x5.trans x9) x9.ff (at5.grow x9) (x9.hh _ _ hHD) (noD x9) (rys.mono x9.ff) (by omega) hgo hout
  ·cases hgo
theorem Zpm{s':Shared}{sv:List (Option V)}{h':Heap}(I2:Inv X pins σ H1 s2)(hf:∀b∈fp,Zgk X pins H1 b)(hC:s2.heap.objs.size<=C)
  (I:Inv (ZX X N scope cl C s2 H1 fp) [] (sv++σ) H s') (hs:ZB9 C s'.heap h'):Inv X pins σ H { s' with heap:=h' }:=by
 have u:Un (frs X.stack) fp H1 H s2.heap s'.heap:=I.base;have hCn:H C=Z_:=I.free;have ne:∀b o,s2.heap.get? b=Z o->b≠C:=λb o e=>ZAK (ZAS (ZAG e) hC);refine I2.call' (s':={ s' with heap:=h' }) (ch:=fp) I.os ⟨λb o e n hb hx=>(hs.2 b (ne b o e)).trans (u.keep b o e n hb hx),λb o e n hb hx=>?_,u.free,λb o e hx=>?_,u.tups,u.frzs,u.tbls⟩ (λb o e=>?_) I.bare λb hb=>?_
 ·obtain⟨sl,q⟩:=u.slot b o e n hb hx
  exact⟨sl,(hs.2 b (ne b o e)).trans q⟩
 ·obtain⟨o',q⟩:=u.there b o e hx
  exact⟨o',(hs.2 b (ne b o e)).trans q⟩
 ·refine(I.hok b o e).stay (λc w' hc q=>(hs.2 c ?_).trans q) (λ_ q=>q) λ_ _ q=>q
  rintro rfl
  rcases hc with rfl | hc
  ·rw[hCn]at e; cases e
  ·rw[hCn]at hc; cases hc
 ·obtain⟨q0,q1,q2,q3,q4,q5⟩:=hf b hb
  exact⟨q3,q1,q4,q5⟩
variable{elt iter:Expr}{ifs:List Expr}{tg:Expr}{pos:Pos}{fi:HM.IF}{dec:PyData->Option (List PyData)}{fc:HM.TF}{fe:HM.EF}
theorem Zpz(T:Zdt X N scope fr)(I:Inv X pins σ H s):∀y∈scope.names,y.2=.free->∃c,X.env.cells.lookup y.1=Z c:=λy hy e=>I.ok.has y.1 (T.cap y hy e)
theorem Zoe(hxe:X.xe=λ_ _=>False)(hcalm:X.calm=ZFt)(T:Zdt X N scope fr)(hbind:∀cl C s H ex,ZjW (ZX X N scope cl C s H ex) fr.length tg dec)(hi:XIE X tg iter fi)(hc:∀cl C s H ex,XTs (ZX X N scope cl C s H ex) ifs fc)(he:∀cl C s H ex,XE (ZX X N scope cl C s H ex) elt fe)
  (hs:∀x,ZBN iter X.env x=pure x:=by intro _; rfl):XF X (.ListComp elt [⟨tg,iter,ifs,0⟩] scope pos) (Zf6 dec fi fc fe):=by
 intro r b h;unfold Zf6 at h;split at h
 ·rename_i ds hds
  split at h
  ·rename_i hbig
   obtain⟨out,hgo,e⟩:=ZAn.mp h;subst e;intro pins s σ H Q I ⟨F0,H0,F,at_,k⟩;obtain⟨cl,hclos,hcl,hfr⟩:=Zgi (Zpz T I);rw[eval_ListComp];refine wpAny_comprehension_free (use:=Z_) rfl hs hclos T.kind T.names (thn (hi r ds hds pins s σ H (λJ H'=>∃F',Ext F H F' H'/\ItE X.K J ds F') I ⟨F0,H0,F,at_,λJ F' H' x q=>⟨F',x,q⟩⟩) λv s1 h1=>thn h1 λitv s2 h2=>?_);obtain⟨it,fp,tn,J,H1,rfl,I2,W,st2,f2,F1,x1,itd⟩:=h2;have hfl:∀b∈fp,b<s2.heap.objs.size:=λb hb=>let ⟨o,ho,_⟩:=W.obj 0 _ st2 b hb; ZAG ho
   refine ZBn (ZD1 T.cell (by intro y hy; simp at hy) (λh1 hns hsb=>?_) T.kind);dsimp only at hns hsb ⊢;generalize hP:s2.heap.push { cls:=.type "list",dict:=Z_,data:=.seq ([]:List Value).toArray }=h0 at hns hsb ⊢;have hsz:h0.objs.size=s2.heap.objs.size+1:=by rw[<-hP,ZCw]
   have hDC:s2.heap.objs.size<h0.objs.size:=by rw[hsz]; exact ZCP _
   have old:∀b o,s2.heap.get? b=Z o->h1.get? b=Z o:=λb o e=>hsb.extBut b o (ZAK (ZCm (ZAG e) hDC)) (ZAs _ (by rw[<-hP]; exact ZAs _ e));have hl:h1.get? s2.heap.objs.size=Z { cls:=.type "list",data:=.seq #[] 0 }:=hsb.extBut _ _ (ZAK hDC) (ZAs _ (by rw[<-hP]; exact ZAH _ rfl));have I4:Inv (ZX X N scope cl h0.objs.size s2 H1 fp) [] (ZA0 fr.length Z_++σ) (upd H1 s2.heap.objs.size (.lst [])) { s2 with heap:=h1,toks:=s2.toks+([]:List (Str × Value)).length }:=ZoT T hcl hfr I2 hcalm f2 hfl rfl hDC hns hl old;have tn1:tn 0 h1:=W.keep _ _ _ st2 λb _ o e=>old b o e;have hHsD:H s2.heap.objs.size=Z_:=x1.hh.free (I2.hok.fresh (ZAz _));have loop:codeAny (model X.prog X.w) X.A (.compLoop (.ListComp elt [⟨tg,iter,ifs,0⟩] scope pos) 0 (.ref it) (.ref s2.heap.objs.size) (compEnvC scope cl h0.objs.size X.env)) (compPost (model X.prog X.w) X.A X.xe Z_ (EP X pins σ Q) (.ref s2.heap.objs.size) h0.objs.size)
     { s2 with heap:=h1,toks:=s2.toks+([]:List (Str × Value)).length }:=by
    refine ZpJ T I2 W f2 I4 tn1 (ZAz _) hfl hcalm (hc _ _ _ _ _) (he _ _ _ _ _) at_ x1 itd (hbind _ _ _ _ _) hbig hgo λs' ⟨F',H',vs,I',x',hD',hFD',rs⟩=>?_;obtain⟨m,hn,_⟩:=id I'.loc;refine⟨m,hn,λh2 hs2=>⟨.ref s2.heap.objs.size,H',Zpm I2 f2 (ZCj hDC) I' hs2,rfl,k _ F' H' x' ⟨[s2.heap.objs.size],.ol hD' rs,by simp,λa ha=>?_⟩⟩⟩;obtain rfl:a=s2.heap.objs.size:=by simpa using ha
    exact⟨hFD',hHsD⟩
   exact codeAny_compStart_list loop (W.self _ 0 _ _ _ tn1 loop)
  ·cases h
 ·cases h
theorem Zhv(i:Nat){y:Str}{py spos:Pos}(hN:X.N.Nodup)(hxe:X.xe=λ_ _=>False)(hcalm:X.calm=ZFt)(T:Zdt X N scope fr)(hbind:∀cl C s H ex,ZjW (ZX X N scope cl C s H ex) fr.length tg dec)(hi:XIE X tg iter fi)(hc:∀cl C s H ex,XTs (ZX X N scope cl C s H ex) ifs fc)(he:∀cl C s H ex,XE (ZX X N scope cl C s H ex) elt fe)
  (hiy:X.N[i]?=Z y:=by rfl) (hy:X.env.scope.names.lookup y=Z .local:=by rfl) (hsw:ZCq (.ListComp elt [⟨tg,iter,ifs,0⟩] scope pos) (Z (.Name y py)) spos.line X.env=pure ZFt:=by rfl)
  (hs:∀x,ZBN iter X.env x=pure x:=by intro _; rfl):XS X (.Assign [.Name y py] (.ListComp elt [⟨tg,iter,ifs,0⟩] scope pos) spos) (HM.ZU i (Zf6 dec fi fc fe)):=by
 intro r o h;obtain⟨b,hb,e⟩:=ZAn.mp h;subst e;unfold Zf6 at hb;split at hb
 ·rename_i ds hds
  split at hb
  ·rename_i hbig
   obtain⟨out,hgo,e⟩:=ZAn.mp hb;subst e;intro pins s σ H E I ⟨F0,H0,F,at_,k⟩;obtain⟨cl,hclos,hcl,hfr⟩:=Zgi (Zpz T I);rw[exec_Assign_Name_used _ _ _ _ hsw];refine ZAm (wpAny_standAt (ZAm ?_));show wpAny _ X.A (do let _ <-comprehension (.ListComp elt [⟨tg,iter,ifs,0⟩] scope pos) scope X.env _ (newList []) ZFu (eval iter X.env) (Z (assign (.Name y py) X.env))) _ _ s;refine ZAm (ZBM (wpAny_comprehension_free (use:=Z (assign (.Name y py) X.env)) (Q:=λ_ s'=>SP X pins E .next s') rfl hs hclos T.kind T.names (thn (hi r ds hds pins s σ H (λJ H'=>∃F',Ext F H F' H'/\ItE X.K J ds F') I ⟨F0,H0,F,at_,λJ F' H' x q=>⟨F',x,q⟩⟩) λv s1 h1=>thn h1 λitv s2 h2=>?_)) (λ_ s' hq=>ZAr (ZAr hq)) λ_ _ e=>e)
   obtain⟨it,fp,tn,J,H1,rfl,I2,W,st2,f2,F1,x1,itd⟩:=h2;have hfl:∀b∈fp,b<s2.heap.objs.size:=λb hb=>let ⟨o,ho,_⟩:=W.obj 0 _ st2 b hb; ZAG ho
   refine ZBn (ZD1 T.cell (by intro y hy; simp at hy) (λh1 hns hsb=>?_) T.kind);dsimp only at hns hsb ⊢;generalize hP:s2.heap.push { cls:=.type "list",dict:=Z_,data:=.seq ([]:List Value).toArray }=h0 at hns hsb ⊢;have hsz:h0.objs.size=s2.heap.objs.size+1:=by rw[<-hP,ZCw]
   have hDC:s2.heap.objs.size<h0.objs.size:=by rw[hsz]; exact ZCP _
   have old:∀b o,s2.heap.get? b=Z o->h1.get? b=Z o:=λb o e=>hsb.extBut b o (ZAK (ZCm (ZAG e) hDC)) (ZAs _ (by rw[<-hP]; exact ZAs _ e));have hl:h1.get? s2.heap.objs.size=Z { cls:=.type "list",data:=.seq #[] 0 }:=hsb.extBut _ _ (ZAK hDC) (ZAs _ (by rw[<-hP]; exact ZAH _ rfl));have I4:Inv (ZX X N scope cl h0.objs.size s2 H1 fp) [] (ZA0 fr.length Z_++σ) (upd H1 s2.heap.objs.size (.lst [])) { s2 with heap:=h1,toks:=s2.toks+([]:List (Str × Value)).length }:=ZoT T hcl hfr I2 hcalm f2 hfl rfl hDC hns hl old;have tn1:tn 0 h1:=W.keep _ _ _ st2 λb _ o e=>old b o e;have hHsD:H s2.heap.objs.size=Z_:=x1.hh.free (I2.hok.fresh (ZAz _));have loop:codeAny (model X.prog X.w) X.A (.compLoop (.ListComp elt [⟨tg,iter,ifs,0⟩] scope pos) 0 (.ref it) (.ref s2.heap.objs.size) (compEnvC scope cl h0.objs.size X.env)) (compPost (model X.prog X.w) X.A X.xe (Z (assign (.Name y py) X.env)) (λ_ s'=>SP X pins E .next s') (.ref s2.heap.objs.size) h0.objs.size)
     { s2 with heap:=h1,toks:=s2.toks+([]:List (Str × Value)).length }:=by
    refine ZpJ T I2 W f2 I4 tn1 (ZAz _) hfl hcalm (hc _ _ _ _ _) (he _ _ _ _ _) at_ x1 itd (hbind _ _ _ _ _) hbig hgo λs' ⟨F',H',vs,I',x',hD',hFD',rs⟩=>?_;obtain⟨m,hn,_⟩:=id I'.loc;have IX:Inv X pins σ H' s':=Zpm (h':=s'.heap) I2 f2 (ZCj hDC) I' (ZFs _ _);have hCn:H' h0.objs.size=Z_:=I'.free;have neL:h0.objs.size≠X.env.locals:=ZDm (ZCm I2.lt hDC);have neC:∀z c,X.env.cells.lookup z=Z c->c≠h0.objs.size:=λz c hz=>by obtain⟨v,o,ho,_⟩:=I2.cell z c hz;exact ZAK (ZCm (ZAG ho) hDC)
    have neP:∀p∈X.pn++pins,p.1≠h0.objs.size:=λp hp=>ZAK (ZCm (ZAG (I2.pin p hp).1) hDC);show wpAny _ X.A (assign (.Name y py) X.env (.ref s2.heap.objs.size)) _ _ _;refine wpAny_assign_Name (Zne IX hN hiy (.inl hy) (v:=.ref s2.heap.objs.size) rfl (λs3 I3 hsa=>?_) (.inr hy));obtain⟨a,sa,ea⟩:=hsa;have neA:h0.objs.size≠a:=by
     rcases ea with e | e
     ·rw[e]; exact neL
     ·exact ZBy (neC _ _ e)
    refine⟨m,hn.sameBut sa neA,λh2 hs2=>?_⟩;refine⟨_,H',I3.turned (t':=s3.toks) (it:=h0.objs.size) (λb o hb e=>(hs2.2 b hb).trans e) hCn neL (.inr (ZBm I2.sz (ZCj hDC))) neC neP,k _ F' H' ((at_.grow x').storeNew at_ x'.hh (fp':=[s2.heap.objs.size]) (.ol hD' rs) (by simp) λa ha=>?_)⟩;obtain rfl:a=s2.heap.objs.size:=by simpa using ha
    exact⟨hFD',hHsD⟩
   exact codeAny_compStart_list loop (W.self _ 0 _ _ _ tn1 loop)
  ·cases hb
 ·cases hb
end
end HP
namespace HP
open PySem PySem.Spec PyProof.Rows L2
variable{py spos:Pos}{y:Str}
variable[FX]
def ZuA(d:PyData):Option (List PyData):=Z [d]
def ZmK:PyData->Option (List PyData)
 | .tuple [x,y]=>Z [x,y]
 | _=>Z_
theorem ZxP(c:HM.TF)(e:HM.EF)(r:HM.Env):∀xs,HM.Zak c e r xs=goG ZuA c e r xs
 | []=>rfl
 | x::xs=>by unfold HM.Zak goG;rw[ZxP c e r xs];rfl
theorem ZyC(c:HM.TF)(e:HM.EF)(r:HM.Env):∀xs,HM.Zdh c e r xs=goG ZmK c e r xs
 | []=>rfl
 | x::xs=>by
  have ih:=ZyC c e r xs;unfold HM.Zdh goG;split
  ·rename_i h; cases h
  ·rename_i a b q h
   cases h;rw[ih];rfl
  ·rename_i h1
   have hn:ZmK x=Z_:=by
    unfold ZmK;split
    ·exact(h1 _ _ _ rfl).elim
    ·rfl
   rw[hn]
theorem Zrw(i:HM.IF)(c:HM.TF)(e:HM.EF):HM.ZF i c e=Zf6 ZuA i c e:=by
 funext r
 unfold HM.ZF Zf6;cases i r with
 | none=>rfl
 | some xs=>dsimp only; rw[ZxP]
theorem ZmR(i:HM.IF)(c:HM.TF)(e:HM.EF):HM.Za2 i c e=Zf6 ZmK i c e:=by
 funext r
 unfold HM.Za2 Zf6;cases i r with
 | none=>rfl
 | some xs=>dsimp only; rw[ZyC]
theorem Zpe{K:ZAo}{F:Hp}{d1 d2:PyData}{v:V}(h:Rep K F (.tuple [d1,d2]) v):∃a v1 v2,v=.ref a/\F a=Z (.tup [v1,v2])/\Rep K F d1 v1/\Rep K F d2 v2:=by
 cases h with
 | @tup a ds vs h1 h2 h3 =>
  cases vs with
  | nil=>simp at h2
  | cons v1 vs=>cases vs with
   | nil=>simp at h2
   | cons v2 vs=>cases vs with
    | nil=>exact⟨a,v1,v2,rfl,h1,h3 0 _ _ rfl rfl,h3 1 _ _ rfl rfl⟩
    | cons _ _=>simp at h2
section
variable{X:Cx}{N:List Str}{scope:Scope}{x x2:Str}{px px2 pt:Pos}{kt:Nat}
theorem Ztf(T:Zdt X N scope [x])(cl:List (Str × Addr))(C:Addr)(s₀:Shared)(H₀:Hp)(ex:List Addr):ZjW (ZX X N scope cl C s₀ H₀ ex) 1 (.Name x px) ZuA:=by
 intro pins s σ sv H F d ys xv u hsv I r sub q hd;cases hd;have hx:=T.loc x (ZAu.mpr rfl);refine thn (ZgB (X:=ZX X N scope cl C s₀ H₀ ex) (i:=0) T.nd (T.first 0 x rfl) (.inl (ZCn hx)) (.inr (ZCn hx)) _ s _ H xv u (λσ' H'=>σ'=(sv++σ).set 0 (Z xv)/\H'=H) I r ⟨rfl,rfl⟩) λ_ s' ⟨σ',H',I',e1,e2⟩=>?_
 subst e1 e2;refine⟨[xv],rfl,?_,.one q⟩;cases sv with
 | nil=>simp at hsv
 | cons a sv=>cases sv with
  | nil=>exact I'
  | cons _ _=>simp at hsv
theorem Zp8(T:Zdt X N scope [x,x2])(cl:List (Str × Addr))(C:Addr)(s₀:Shared)(H₀:Hp)(ex:List Addr):ZjW (ZX X N scope cl C s₀ H₀ ex) 2 (.Tuple [.Name x px,.Name x2 px2] kt pt) ZmK:=by
 intro pins s σ sv H F d ys xv u hsv I r sub q hd;have hx:=T.loc x (ZAp ..);have hx2:=T.loc x2 (ZAq _ (ZAp ..));unfold ZmK at hd;split at hd
 ·rename_i d1 d2
  cases hd;obtain⟨pa,v1,v2,e7,hpa,rx1,rx2⟩:=Zpe q;subst e7;refine thn (Zs7 (X:=ZX X N scope cl C s₀ H₀ ex) (n:=2) rfl (ZiU (ZgB (X:=ZX X N scope cl C s₀ H₀ ex) (i:=0) T.nd (T.first 0 x rfl) (.inl (ZCn hx)) (.inr (ZCn hx))) (ZiU (ZgB (X:=ZX X N scope cl C s₀ H₀ ex) (i:=1) T.nd (T.first 1 x2 rfl) (.inl (ZCn hx2)) (.inr (ZCn hx2))) Zrz)) rfl rfl _ s _ H (.ref pa) u (λσ' H'=>σ'=((sv++σ).set 0 (Z v1)).set 1 (Z v2)/\H'=H) I r ⟨pa,[v1,v2],rfl,.of (sub _ _ hpa),rfl,v1,[v2],rfl,v2,[],rfl,rfl,rfl,rfl⟩) λ_ s' ⟨σ',H',I',e1,e2⟩=>?_
  subst e1 e2;refine⟨[v1,v2],rfl,?_,.cons rx1 (.one rx2)⟩;cases sv with
  | nil=>simp at hsv
  | cons a sv=>cases sv with
   | nil=>simp at hsv
   | cons b sv=>cases sv with
    | nil=>exact I'
    | cons _ _=>simp at hsv
 ·cases hd
def Zt3(kinds:Str->Option NameKind)(XN N:List Str)(names:List (Str × NameKind))(fr:List Str):Bool :=
 names.all (λy=>y.2 != .cell)&&names.all (λy=>y.2 != .local||names.lookup y.1==Z .local)&&fr.all (λx=>names.lookup x==Z .local)&&(ZAw fr.length).all (λi=>N[i]?==fr[i]?)&&decide N.Nodup&&N.length==XN.length+fr.length &&
 names.all (λy=>y.2 != .free||kinds y.1==Z .cell||kinds y.1==Z .free) &&
 (ZAw (N.length-fr.length)).all (λi=>match N[i+fr.length]? with
  | some y=>(names.lookup y != Z .free||XN[i]?==Z y)&&(names.lookup y==Z .free||(names.lookup y != Z .local&&names.lookup y != Z .cell))
  | none=>ZFt)
theorem ZA{X:Cx}{N XN:List Str}{scope sc:Scope}{fr:List Str}(hs:X.env.scope=sc:=by rfl)(hN:X.N=XN:=by rfl)(hk:scope.kind=.function:=by rfl)(h:Zt3 (λy=>sc.names.lookup y) XN N scope.names fr=ZFt:=by decide +kernel):Zdt X N scope fr:=by
 subst hN;unfold Zt3 at h;simp only[ZAW,ZAF,ZCY,bne_iff_ne,beq_iff_eq,decide_eq_true_eq]at h;obtain⟨⟨⟨⟨⟨⟨⟨h1,h2⟩,h3⟩,h4⟩,h5⟩,h6⟩,h7⟩,h8⟩:=h;have at_:∀(i:Nat) (y:Str),N[i+fr.length]?=Z y->(scope.names.lookup y≠Z .free\/X.N[i]?=Z y)/\(scope.names.lookup y=Z .free\/(scope.names.lookup y≠Z .local/\scope.names.lookup y≠Z .cell)):=λi y e=>by have hi:i+fr.length<N.length:=(ZAC.mp e).1;have:=h8 i (ZA5.mpr (by omega));rw[e]at this;simpa only[ZAW,ZCY,bne_iff_ne,beq_iff_eq]using this
 refine⟨hk,h1,λy hy e=>(h2 y hy).resolve_left (λz=>z e),h3,λi x e=>?_,h5,h6,λy hy e=>?_,λi y e q=>(at_ i y e).1.resolve_left (λz=>z q),λi y e v=>?_⟩
 ·rw[h4 i (ZA5.mpr (ZAC.mp e).1)]
  exact e
 ·have:=h7 y hy
  rw[show X.env.kindOf y.1=sc.names.lookup y.1 by rw[<-hs]; rfl];rcases this with(z | z) | z
  ·exact absurd e z
  ·exact .inl z
  ·exact .inr z
 ·rcases(at_ i y e).2 with z | ⟨z1,z2⟩
  ·exact z
  ·rcases v with v | v | v
   ·exact absurd v z1
   ·exact absurd v z2
   ·exact v
variable{elt iter:Expr}{ifs:List Expr}{pos:Pos}{fi:HM.IF}{fc:HM.TF}{fe:HM.EF}
theorem Zad(hxe:X.xe=λ_ _=>False)(hcalm:X.calm=ZFt)(T:Zdt X N scope [x])(hi:XI X (.Name x px) iter fi)(hc:∀cl C s H ex,XTs (ZX X N scope cl C s H ex) ifs fc)(he:∀cl C s H ex,XE (ZX X N scope cl C s H ex) elt fe)
  (hs:∀x,ZBN iter X.env x=pure x:=by intro _; rfl):XF X (.ListComp elt [⟨.Name x px,iter,ifs,0⟩] scope pos) (HM.ZF fi fc fe):=by
 rw[Zrw];exact Zoe hxe hcalm T (Ztf T) hi.e hc he hs
theorem Zio(hxe:X.xe=λ_ _=>False)(hcalm:X.calm=ZFt)(T:Zdt X N scope [x,x2])(hi:XI X (.Tuple [.Name x px,.Name x2 px2] kt pt) iter fi)(hc:∀cl C s H ex,XTs (ZX X N scope cl C s H ex) ifs fc)(he:∀cl C s H ex,XE (ZX X N scope cl C s H ex) elt fe)
  (hs:∀x,ZBN iter X.env x=pure x:=by intro _; rfl):XF X (.ListComp elt [⟨.Tuple [.Name x px,.Name x2 px2] kt pt,iter,ifs,0⟩] scope pos) (HM.Za2 fi fc fe):=by
 rw[ZmR];exact Zoe hxe hcalm T (Zp8 T) hi.e hc he hs
theorem ZdU(i:Nat)(hN:X.N.Nodup)(hxe:X.xe=λ_ _=>False)(hcalm:X.calm=ZFt)(T:Zdt X N scope [x])(hi:XI X (.Name x px) iter fi)(hc:∀cl C s H ex,XTs (ZX X N scope cl C s H ex) ifs fc)(he:∀cl C s H ex,XE (ZX X N scope cl C s H ex) elt fe)
  (hiy:X.N[i]?=Z y:=by rfl) (hy:X.env.scope.names.lookup y=Z .local:=by rfl) (hsw:ZCq (.ListComp elt [⟨.Name x px,iter,ifs,0⟩] scope pos) (Z (.Name y py)) spos.line X.env=pure ZFt:=by rfl)
  (hs:∀x,ZBN iter X.env x=pure x:=by intro _; rfl):XS X (.Assign [.Name y py] (.ListComp elt [⟨.Name x px,iter,ifs,0⟩] scope pos) spos) (HM.ZU i (HM.ZF fi fc fe)):=by
 rw[Zrw];exact Zhv i hN hxe hcalm T (Ztf T) hi.e hc he hiy hy hsw hs
theorem Zqu(i:Nat)(hN:X.N.Nodup)(hxe:X.xe=λ_ _=>False)(hcalm:X.calm=ZFt)(T:Zdt X N scope [x,x2])(hi:XI X (.Tuple [.Name x px,.Name x2 px2] kt pt) iter fi)(hc:∀cl C s H ex,XTs (ZX X N scope cl C s H ex) ifs fc)(he:∀cl C s H ex,XE (ZX X N scope cl C s H ex) elt fe)
  (hiy:X.N[i]?=Z y:=by rfl) (hy:X.env.scope.names.lookup y=Z .local:=by rfl) (hsw:ZCq (.ListComp elt [⟨.Tuple [.Name x px,.Name x2 px2] kt pt,iter,ifs,0⟩] scope pos) (Z (.Name y py)) spos.line X.env=pure ZFt:=by rfl)
  (hs:∀x,ZBN iter X.env x=pure x:=by intro _; rfl):XS X (.Assign [.Name y py] (.ListComp elt [⟨.Tuple [.Name x px,.Name x2 px2] kt pt,iter,ifs,0⟩] scope pos) spos) (HM.ZU i (HM.Za2 fi fc fe)):=by
 rw[ZmR];exact Zhv i hN hxe hcalm T (Zp8 T) hi.e hc he hiy hy hsw hs
end
end HP
namespace HP
open PySem PySem.Spec PyProof.Rows L2
variable{p:Addr}{r:HM.Env}{F F0 H H0:Hp}{σ:L2.St}{kvs:List (List Key × List PyData)}{ds:List PyData}{i:Nat}{p1 p2 p3 p4:Pos}{K:ZAo}{x:Str}{Q:Value->Shared->Prop}
variable[FX]
section
variable{prog:Program}{w:World}{K:Type}[DecidableEq K]{knd:HeapKind prog w K}{A:Around}{E:Value->Shared->Prop}{s:Shared}
theorem Zmq{d a:Addr}{xs:List (K × Addr × Value)}{k:K}{v:Value}(hu:knd.room A)(hkey:knd.is s.heap k a)(hm:s.heap.DictOfH knd d xs)(hsz:xs.length<=sizeLine)
  (h1:∀p,atKey xs k=Z p->Q p.2 { s with toks:=s.toks+knd.draws k })
  (h2:atKey xs k=Z_->∀h',h'.DictOfH knd d (storedH xs k a v)->ZB9 d s.heap h'->Q v { s with heap:=h',toks:=s.toks+knd.draws k }) :
  wpAny (model prog w) A (dictSetDefault d (.ref a) v) Q E s:=by
 obtain⟨o,es,ep,ho,hc,hd,he,his,hn⟩:=hm;unfold dictSetDefault
 try with_reducible refine ZBG ?_
 refine ZAm (knd.pyHash hu hkey ?_);refine ZAm (wpAny_dictFind_heap (s:={ s with toks:=s.toks+knd.draws k }) hu hkey ho hd he his hn ?_ ?_)
 ·intro hno
  have hnot:k ∉ xs.map (·.1):=not_mem_keys_of_get hno;have hnk:=atKey_none_of_get hno;refine ZAm (ZEw (ZAm (wpAny_updateDictKeys (hz:=by have e:=size_of_entries he; omega) (s:={ s with toks:=s.toks+knd.draws k }) ho hd (ZAr (h2 hnk _ ⟨_,_,ep+1,ZBt _ ho (Obj.isFreed_of_dict (Obj.data_mapDictKeys hd _)),
   hc.mapDictKeys _,Obj.data_mapDictKeys hd _,?_,?_,?_⟩ (ZBq ..))))))
  ·rw[storedH_new hnk]
   simp[he,entryOfKey]
  ·rw[storedH_new hnk]
   intro x hx;rcases ZAV.mp hx with hx | hx
   ·exact knd.keeps (his x hx) ho hd (ZBq ..)
   ·simp only[ZAu]at hx
    subst hx;exact knd.keeps hkey ho hd (ZBq ..)
  ·rw[storedH_new hnk]
   rw[ZAN,ZB7];refine⟨hn,by simp,?_⟩;intro x hx y hy;simp only[ZAt,ZCl,ZAu]at hy;subst hy;exact λe=>hnot (e▸hx)
 ·intro j p hj
  refine ZAm (ZDD (s:={ s with toks:=s.toks+knd.draws k }) ho hd ?_);rw[entry_at he j,hj];exact ZAm (ZEw (ZAr (h1 p (atKey_of_get hn hj))))
theorem ZkG(d a:Addr)(hd:(d==ZBY)=ZFu)(dflt:Value) :
  MeetsIn prog w (Builtin.«dict.setdefault» ⟨[.ref d,.ref a,dflt],[]⟩) (λA R s=>knd.room A.in1/\∃k xs,knd.is s.heap k a/\s.heap.DictOfH knd d xs/\xs.length<=sizeLine /\
   (∀p,atKey xs k=Z p->R (.ok (.ret p.2)) { s with toks:=s.toks+knd.draws k }) /\
   (atKey xs k=Z_->∀h',h'.DictOfH knd d (storedH xs k a dflt)->ZB9 d s.heap h'->R (.ok (.ret dflt)) { s with heap:=h',toks:=s.toks+knd.draws k })) :=
 .of_wp λA R s ⟨hu,k,xs,hkey,hm,hz,h1,h2⟩=>by unfold Builtin.«dict.setdefault»;refine ZAm ?_;unfold Builtin.Dict.keyAndDefault;refine ZAm (wpAny_notOrdered_dict hm.typeIs ?_);show wpAny _ _ (pure (d,ZBh a,Z dflt)) _ _ s;refine ZAr ?_;show wpAny _ _ (if(d==ZBY)=ZFt then _ else(dictSetDefault d (.ref a) dflt >>= _)) _ _ s;rw[if_neg (by rw[hd]; exact ZBd)];exact ZAm (Zmq hu hkey hm hz (λp hp=>ZAr ⟨p.2,rfl,h1 p hp⟩) λhn h' hm' hs'=>ZAr ⟨dflt,rfl,h2 hn h' hm' hs'⟩)
end
section
variable{X:Cx}{pins:List (Addr × Obj)}{σ:L2.St}{H:Hp}{s:Shared}{a b:Addr}{z:V}{r:Value}{A:Around}{E:Value->Shared->Prop}{kvs:List (List Key × V)}{k:List Key}
theorem Zxk(hu:A.units+1<cLine)(I:Inv X pins σ H s)(e:H a=Z (.dT kvs))(eb:H b=Z (.tup (k.map kV)))(hl:kvs.length<sizeLine)(rz:RelV z r)
  (h1:∀v,Za3 kvs k=Z v->∀w' s',Inv X pins σ H s'->RelV v w'->Q w' s') (h2:Za3 kvs k=Z_->∀s',Inv X pins σ (upd H a (.dT (kvs++[(k,z)]))) s'->Q r s') :
  wpAny (model X.prog X.w) A (call (.builtin "dict.setdefault") [.ref a,.ref b,r]) Q E s:=by
 obtain⟨zz,hd,xs,rel,dd⟩:=ZvT I.hok e;have hz:xs.length<=sizeLine:=by rw[<-ZCX rel]; exact zz
 have hv:=rel.val k;refine call_meetsIn ZD9 dd.typeIs PySem.F.entry_dict_setdefault (PySem.F.args_dict_setdefault_3 _ _ _) (ZkG (knd:=ZDl (ZaB X.prog X.w)) a b hd r) ⟨ZCz hu,k,xs,Zhd I.hok eb,dd,hz,λp hp=>?_,λhn h' dd' hs=>?_⟩
 ·rw[hp]at hv
  cases hvv:Za3 kvs k with
  | none=>rw[hvv]at hv; exact hv.elim
  | some v=>rw[hvv]at hv; exact h1 v hvv _ _ (I.tok _) hv
 ·rw[hn]at hv
  have hvv:Za3 kvs k=Z_:=by
   cases hvv:Za3 kvs k with
   | none=>rfl
   | some v=>rw[hvv]at hv; exact hv.elim
  refine h2 hvv _ ?_;have hp:=rel.put k eb rz;have epk:putK kvs k z=kvs++[(k,z)]:=by unfold putK;rw[if_neg];rw[Zi5,hvv];simp
  rw[epk]at hp;obtain⟨q,es,ep,hq,g2,g3,g4,_,g5⟩:=dd';refine Zkk I (by rw[e]; exact ZDw) hs ⟨q,hq⟩ ⟨by rw[ZAE]; exact hl,hd,_,hp.keeps λc ys ec=>?_,q,es,ep,hq,g2,g3,g4,g5⟩;rw[ZB (ZvV ec e (λz=>nomatch z))];exact ec
end
def ZzP(td ty tx:TE):TE:=λσ H Q=>td σ H λx H1=>∃a,x=.ref a/\IsD H1 a/\ty σ H1 λy H2=>tx σ H2 λz H3=>∃kvs k b,H3 a=Z (.dT kvs)/\y=.ref b/\H3 b=Z (.tup (k.map kV))/\kvs.length<sizeLine /\
 (∀v,Za3 kvs k=Z v->Q v H3)/\(Za3 kvs k=Z_->Q z (upd H3 a (.dT (kvs++[(k,z)]))))
section
variable{X:Cx}{o e f:Expr}{apos cpos:Pos}{td ty tx:TE}
theorem Zye(hu:X.A.units+1<cLine)(ho:PE X o td)(he:PE X e ty)(hf:PE X f tx)(m:M2 X o "setdefault" apos e f cpos):PE X (.Call (.Attribute o "setdefault" apos) [e,f] [] cpos) (ZzP td ty tx):=by intro pins s σ H Q I h;refine wpAny_Call_method m.base m.few m.line ZEM ZD9 PySem.F.type_dict_setdefault (thn (ho pins s σ H _ I h) λu s1 ⟨x,H1,I1,rx,a,ex,d,q1⟩=>?_);subst ex;obtain rfl:u=ZBh a:=rx;obtain⟨t1,t2,_⟩:=ZtF I1 d;refine⟨t1,t2,?_⟩;rw[m.trees];refine ZC0 rfl (ZDX (ZDo (thn (he pins s1 σ H1 _ I1 q1) λiv s2 ⟨y,H2,I2,ry,q2⟩=>ZDo (thn (hf pins s2 σ H2 _ I2 q2) λfv s3 ⟨z,H3,I3,rz,kvs,k,b,ea,ey,eb,hl,q3,q4⟩=>ZEq ?_))));subst ey;obtain rfl:iv=ZBh b:=ry;exact Zxk hu I3 ea eb hl rz (λv hv w' s4 I4 rw'=>⟨v,H3,I4,rw',q3 v hv⟩) λhn s4 I4=>⟨z,_,I4,rz,q4 hn⟩
end
def OT(K:ZAo)(F H:Hp)(kvs:List (List Key × List PyData))(vvs:List (List Key × V))(ls:List Addr):Prop:=kvs.map (·.1)=vvs.map (·.1)/\vvs.map (·.2)=ls.map V.ref /\
 ∀(i:Nat) (ds:List PyData) (l:Addr),(kvs.map (·.2))[i]?=Z ds->ls[i]?=Z l->∃vs,H l=Z (.lst vs)/\Zv K F ds vs
section
variable{K:ZAo}{F F' H H':Hp}{kvs:List (List Key × List PyData)}{vvs:List (List Key × V)}{ls:List Addr}
theorem OT.len(q:OT K F H kvs vvs ls):kvs.length=ls.length/\kvs.length=vvs.length:=by have e1:=congrArg ZA8 q.1;have e2:=congrArg ZA8 q.2.1;rw[ZAl,ZAl]at e1 e2;omega
theorem OT.mono(q:OT K F H kvs vvs ls)(s:Zs F F')(k:∀a∈ls,∀o,H a=Z o->H' a=Z o):OT K F' H' kvs vvs ls :=
 ⟨q.1,q.2.1,λi ds l h1 h2=>let ⟨vs,q1,q2⟩:=q.2.2 i ds l h1 h2; ⟨vs,k l (ZAR h2) _ q1,q2.mono s⟩⟩
theorem OT.snoc(q:OT K F H kvs vvs ls)(k:List Key)(hp:H p=Z (.lst [])):OT K F H (kvs++[(k,[])]) (vvs++[(k,.ref p)]) (ls++[p]):=by
 refine⟨by rw[ZAN,ZAN,q.1]; rfl,by rw[ZAN,ZAN,q.2.1]; rfl,λi ds l h1 h2=>?_⟩;have hl:=q.len;rw[ZAN]at h1
 by_cases hi:i<kvs.length
 ·rw[ZA4 (by rw[ZAl]; exact hi)]at h1
  rw[ZA4 (by omega)]at h2;exact q.2.2 i ds l h1 h2
 ·rw[ZBe (by rw[ZAl]; omega),ZAl]at h1
  rw[ZBe (by omega),<-hl.1]at h2;cases hj:i-kvs.length with
  | zero=>rw[hj]at h1 h2;cases h1; cases h2;exact⟨[],hp,.nil⟩
  | succ j=>rw[hj]at h1; cases h1
theorem OT.look(q:OT K F H kvs vvs ls)(k:List Key):(∀ds,HM.Zi kvs k=Z ds->∃l' vs,Za3 vvs k=Z (.ref l')/\l'∈ls/\H l'=Z (.lst vs)/\Zv K F ds vs)/\(HM.Zi kvs k=Z_->Za3 vvs k=Z_):=Zlk k kvs vvs ls q.1 q.2.1 q.2.2
theorem OT.app(k:List Key){d:PyData}{v:V}:∀{kvs:List (List Key × List PyData)} {vvs:List (List Key × V)} {ls:List Addr},OT K F H kvs vvs ls->ls.Nodup->Rep K F d v->∀{l':Addr} {vs:List V},Za3 vvs k=Z (.ref l')->H l'=Z (.lst vs) ->
  OT K F (upd H l' (.lst (vs++[v]))) (HM.ZdS kvs k d) vvs ls
 | [],[],_,q,_,_,l',vs,hv,_=>by cases hv
 | [],_::_,_,q,_,_,_,_,_,_=>by have:=q.len; simp at this
 | _::_,[],_,q,_,_,_,_,_,_=>by have:=q.len; simp at this
 | _::_,_::_,[],q,_,_,_,_,_,_=>by have:=q.len; simp at this
 | (k1,ds1)::kvs,(k2,v2)::vvs,l1::ls,q,nd,rd,l',vs,hv,hl=>by
  obtain⟨q1,q2,q3⟩:=q;rw[ZAt,ZAt]at q1 q2;injection q1 with e1 e2
  injection q2 with e3 e4
  have e1:k1=k2:=e1;have e3:v2=.ref l1:=e3;subst e1 e3;have rest:OT K F H kvs vvs ls:=⟨e2,e4,λi ds l h1 h2=>q3 (i+1) ds l (by simpa using h1) (by simpa using h2)⟩;obtain⟨n1,n2⟩:=ZBf.mp nd;obtain⟨us,f1,f2⟩:=q3 0 ds1 l1 rfl rfl;unfold HM.ZdS
  by_cases hk:k1=k
  ·rw[if_pos hk]
   rw[ZeB (p:=(k1,V.ref l1)) hk]at hv;cases hv;rw[hl]at f1;cases f1;refine⟨by rw[ZAt,ZAt,e2],by rw[ZAt,ZAt,e4],λi ds l h1 h2=>?_⟩;cases i with
   | zero=>cases h1; cases h2;exact⟨_,ZI,f2.append (.one rd)⟩
   | succ i=>rw[ZAt,ZBb]at h1;rw[ZBb]at h2;obtain⟨us,g1,g2⟩:=rest.2.2 i ds l h1 h2;exact⟨us,by rw[ZB (λz=>n1 (by rw[<-z]; exact ZAR h2))]; exact g1,g2⟩
  ·rw[if_neg hk]
   rw[Zev (p:=(k1,V.ref l1)) hk]at hv;have ih:=OT.app k rest n2 rd hv hl;have hne:l1≠l':=by
    rintro rfl
    have:∀(vvs:List (List Key × V)) (ls:List Addr),vvs.map (·.2)=ls.map V.ref->∀l',Za3 vvs k=Z (.ref l')->l'∈ls:=by
     intro vvs
     induction vvs with
     | nil=>intro ls _ l' h; cases h
     | cons p vvs ih =>
      intro ls he l' h;cases ls with
      | nil=>simp at he
      | cons l ls =>
       rw[ZAt,ZAt]at he;injection he with he1 he2
       by_cases hp:p.1=k
       ·rw[ZeB hp]at h
        rw[he1]at h;cases h;exact ZAp
       ·rw[Zev hp]at h
        exact ZAq _ (ih ls he2 l' h)
    exact n1 (this vvs ls e4 _ hv)
   refine⟨by rw[ZAt,ZAt,ih.1],by rw[ZAt,ZAt,e4],λi ds l h1 h2=>?_⟩;cases i with
   | zero=>cases h1; cases h2;exact⟨us,by rw[ZB hne]; exact f1,f2⟩
   | succ i=>rw[ZAt,ZBb]at h1;rw[ZBb]at h2;exact ih.2.2 i ds l h1 h2
end
theorem Zbo.otl{K:ZAo}{F0 H0 F H:Hp}{r:HM.Env}{σ:L2.St}{fp:Nat->List Addr}{i:Nat}{kvs:List (List Key × List PyData)}(e:Zbo K F0 H0 F H r σ fp)(h:r[i]?=Z (Z (.otl kvs))) :
  ∃a vvs ls,σ[i]?=Z (Z (.ref a))/\H a=Z (.dT vvs)/\OT K F H kvs vvs ls/\fp i=a::ls:=by
 obtain⟨v,h1,h2⟩:=e.at_ i _ h;generalize hf:fp i=q at h2;cases h2 with
 | otl k1 k2 k3 k4=>exact⟨_,_,_,h1,k1,⟨k2,k3,k4⟩,rfl⟩
theorem Zbo.otlNew{Fb Hb:Hp}{fp:Nat->List Addr}(k:List Key)(eb:Zbo K F0 H0 Fb Hb r σ fp)(x:Ext Fb Hb F H)(h:r[i]?=Z (Z (.otl kvs)))(hp:H p=Z (.lst []))(hF:F p=Z_)(hb:Hb p=Z_) :
  ∃a vvs,σ[i]?=Z (Z (.ref a))/\H a=Z (.dT vvs)/\vvs.length=kvs.length/\(HM.Zi kvs k=Z_->Za3 vvs k=Z_)/\At K F0 H0 F (upd H a (.dT (vvs++[(k,.ref p)]))) (r.set i (Z (.otl (kvs++[(k,[])])))) σ:=by
 have e:=eb.grow x;obtain⟨a,vvs,ls,h1,h2,h3,h4⟩:=e.otl h;have hpn:∀j,p ∉ fp j:=λj hj=>by obtain⟨o,ho⟩:=eb.there hj;rw[hb]at ho; cases ho
 have hpa:p≠a:=λz=>hpn i (by rw[h4,z]; exact ZAp);have hal:a ∉ ls:=(ZBf.mp (h4▸e.nd i)).1;have nl:ls.Nodup:=(ZBf.mp (h4▸e.nd i)).2;have hpl:p ∉ ls:=λz=>hpn i (by rw[h4]; exact ZAq _ z);refine⟨a,vvs,h1,h2,h3.len.2.symm,(h3.look k).2,?_⟩;have q:=h3.snoc k hp;have q':OT K F (upd H a (.dT (vvs++[(k,.ref p)]))) (kvs++[(k,[])]) (vvs++[(k,.ref p)]) (ls++[p]):=q.mono (Zs.refl F) λc hc o z=>by
  rw[ZB]
  ·exact z
  ·rintro rfl
   rcases ZAV.mp hc with hc | hc
   ·exact hal hc
   ·exact hpa (ZAu.mp hc).symm
 have nd':(a::(ls++[p])).Nodup:=by
  refine ZBf.mpr ⟨?_,?_⟩
  ·intro z
   rcases ZAV.mp z with z | z
   ·exact hal z
   ·exact hpa (ZAu.mp z).symm
  ·rw[ZB7]
   refine⟨nl,by simp,λx hx y hy=>?_⟩;obtain rfl:y=p:=by simpa using hy
   rintro rfl
   exact hpl hx
 refine e.changeW h1 (fp':=a::(ls++[p])) (.otl ZI q'.1 q'.2.1 q'.2.2) nd' (λc hc=>?_) λc o z hn=>?_
 ·rcases ZAy.mp hc with z | z
  ·subst z; exact .inl (by rw[h4]; exact ZAp)
  ·rcases ZAV.mp z with z | z
   ·exact .inl (by rw[h4]; exact ZAq _ z)
   ·obtain rfl:c=p:=ZAu.mp z
    exact .inr ⟨hF,eb.ext.hh.free hb,hpn⟩
 ·rw[ZB (λy=>hn (by rw[h4,y]; exact ZAp))]
  exact z
theorem At.otlApp(k:List Key)(e:At K F0 H0 F H r σ)(h:r[i]?=Z (Z (.otl kvs)))(hd:HM.Zi kvs k=Z ds) :
  ∃a vvs l vs,σ[i]?=Z (Z (.ref a))/\H a=Z (.dT vvs)/\Za3 vvs k=Z (.ref l)/\H l=Z (.lst vs)/\Zv K F ds vs/\∀d v,Rep K F d v->At K F0 H0 F (upd H l (.lst (vs++[v]))) (r.set i (Z (.otl (HM.ZdS kvs k d)))) σ:=by
 obtain⟨fp,e⟩:=e;obtain⟨a,vvs,ls,h1,h2,h3,h4⟩:=e.otl h;obtain⟨l,vs,g1,g2,g3,g4⟩:=(h3.look k).1 ds hd;have hal:a ∉ ls:=(ZBf.mp (h4▸e.nd i)).1;have nl:ls.Nodup:=(ZBf.mp (h4▸e.nd i)).2;have hne:a≠l:=λz=>hal (by rw[z]; exact g2);refine⟨a,vvs,l,vs,h1,h2,g1,g3,g4,λd v rd=>?_⟩;have q:=h3.app k nl rd g1 g3;refine e.change h1 (fp':=a::ls) (.otl (by rw[ZB hne]; exact h2) q.1 q.2.1 q.2.2) (h4▸e.nd i) (λc hc=>.inl (by rw[h4]; exact hc)) λc o z hn=>?_;rw[ZB (λy=>hn (by rw[h4,y]; exact ZAq _ g2))];exact z
section
variable{X:Cx}{a b c e:Expr}{fa fb fc:HM.EF}{pos p:Pos}{f:HM.BF}
theorem ZsX(hu:X.A.units+1<cLine)(i:Nat)(hk:XE X b fb)(hN:X.N[i]?=Z x:=by rfl)(hv:Vis X.env.scope x:=by first | exact ZBc rfl | exact ZAT (ZBc rfl) | exact ZAT (ZAT rfl))(hd:(x==("__debug__":Str))=ZFu:=by decide)(hcd:(x==("__classdict__":Str))=ZFu:=by decide)
  (hs:ZCq (.List [] p3) (Z (.Subscript (.Name x p1) b p2)) pos.line X.env=pure ZFu:=by rfl):XS X (.Assign [.Subscript (.Name x p1) b p2] (.List [] p3) pos) (HM.ZmE i fb):=by
 intro r o h;unfold HM.ZmE at h;split at h
 ·rename_i y hy
  split at h
  ·rename_i kvs hb
   split at h
   ·rename_i k hk'
    split at h
    ·rename_i hz
     split at h
     ·rename_i hl
      cases h;refine PS.imp (Zms hu (ZbL hN hv hd hcd) (hk r y hy) (ZbD (X:=X) Zl (by simp) r (.ol []) rfl) hs) λE σ H ⟨F0,H0,F,at_,kk⟩=>?_;refine⟨F0,H0,F,at_,λv F1 H1 x1 ⟨fp,r1,nd,hn⟩=>?_⟩;cases r1 with
      | @ol l _ vs hl1 rs =>
       obtain rfl:vs=[]:=rs.nil_inv;have at1:=at_.grow x1;obtain⟨u,fp,e1,e2⟩:=at1.any hb;refine⟨u,e1,F0,H0,F1,at1,λw F2 H2 x2 r2=>?_⟩;obtain⟨fq,eb⟩:=at_;have hlF:F2 l=Z_:=by
        cases q:F2 l with
        | none=>rfl
        | some o =>
         rcases x2.new l o q with z | z
         ·rw[(hn l (by simp)).1]at z; cases z
         ·exact(z.no hl1 λ_ q=>by cases q).elim
       obtain⟨aa,vvs,g1,g2,g3,g4,g5⟩:=eb.otlNew k (x1.trans x2) hb (x2.hh _ _ hl1) hlF (hn l (by simp)).2;rw[e1]at g1;cases g1;obtain⟨bb,rfl,hbb⟩:=ZbQ hk' r2;have hpk:putK vvs k (V.ref l)=vvs++[(k,.ref l)]:=by unfold putK;rw[if_neg];rw[Zi5,g4 hl];simp
       refine⟨aa,_,rfl,ZiS.t g2 (x2.sub _ _ hbb) (by rw[g3]; exact Zfz hz),?_⟩;rw[hpk];exact kk _ F2 _ g5
     ·cases h
    ·cases h
   ·cases h
  ·cases h
 ·cases h
theorem Zur(hu:X.A.units+1<cLine)(i:Nat)(hk:XE X b fb)(ha:XE X a fa)(hN:X.N[i]?=Z x:=by rfl)(hv:Vis X.env.scope x:=by first | exact ZBc rfl | exact ZAT (ZBc rfl) | exact ZAT (ZAT rfl))(hd:(x==("__debug__":Str))=ZFu:=by decide)(hcd:(x==("__classdict__":Str))=ZFu:=by decide)
  (hsl:ZpB b:=by intro _ _; rfl)
  (hbase:ZCr (.Subscript (.Name x p1) b p2) "append" X.env (eval (.Subscript (.Name x p1) b p2) X.env)=eval (.Subscript (.Name x p1) b p2) X.env:=by rfl)
  (hfew:((backTo p4 (ZAD [a] X.env)).all (λx=>!x.1)&&(ZD8 p4 (ZDh [] X.env)).all (λx=>x.1.isSome)&&decide (([a]:List Expr).length+([]:List Keyword).length+(if([]:List Keyword).isEmpty then 0 else 1)<30))=ZFt:=by rfl)
  (hline:(p3.endLine==p4.line)=ZFt:=by rfl) (hs:ZAD [a] X.env=[(ZFu,eval a X.env)]:=by rfl):XS X (.Expr (.Call (.Attribute (.Subscript (.Name x p1) b p2) "append" p3) [a] [] p4) pos) (HM.Zqm i fb fa):=by
 intro r o h;unfold HM.Zqm at h;split at h
 ·rename_i y hy
  split at h
  ·rename_i kvs hb
   split at h
   ·rename_i k hk'
    split at h
    ·rename_i d hd'
     split at h
     ·rename_i ds hds
      split at h
      ·rename_i hz
       cases h;refine PS.imp (Zih (Zn8 ZCu ZDp ZDq Zhl (Zmt hu (ZbL hN hv hd hcd) (hk r y hy) hsl) (ZaC (ha r d hd') ZbT hs) hbase hfew hline hs rfl)) λE σ H ⟨F0,H0,F,at_,kk⟩=>?_;obtain⟨aa,vvs,l,vs,e1,e2,e3,e4,e5,_⟩:=at_.otlApp k hb hds;refine⟨.ref aa,e1,F0,H0,F,at_,λw F1 H1 x1 r1=>?_⟩;obtain⟨bb,rfl,hbb⟩:=ZbQ hk' r1;have at1:=at_.grow x1;refine⟨aa,.ref l,rfl,by rw[<-e3]; exact Zcc.t (x1.hh _ _ e2) (x1.sub _ _ hbb),.inl ⟨rfl,_,SqL.of (x1.hh _ _ e4)⟩,F0,H0,F1,at1,λv F2 H2 x2 r2=>?_⟩;obtain⟨aa',vvs',l',vs',g1,g2,g3,g4,g5,g6⟩:=(at1.grow x2).otlApp k hb hds;rw[e1]at g1;cases g1;have:=(x1.trans x2).hh _ _ e2;rw[this]at g2;cases g2;rw[e3]at g3;cases g3;refine⟨_,vs',v,rfl,rfl,g4,?_,kk _ F2 _ (g6 d v r2)⟩;rw[<-g5.1];exact Zfz hz
      ·cases h
     ·cases h
    ·cases h
   ·cases h
  ·cases h
 ·cases h
theorem ZtJ{k:List Key}(h:HM.Zi kvs k=Z ds):HM.ZbN kvs k=kvs:=by unfold HM.ZbN; rw[h]
theorem ZtD{k:List Key}(h:HM.Zi kvs k=Z_):HM.ZbN kvs k=kvs++[(k,[])]:=by unfold HM.ZbN; rw[h]
theorem Zus(hu:X.A.units+1<cLine)(i:Nat){p0 p5:Pos}(hk:XE X b fb)(ha:XE X a fa)(m:M2 X (.Name x p0) "setdefault" p1 b (.List [] p2) p3)(hN:X.N[i]?=Z x:=by rfl)(hv:Vis X.env.scope x:=by first | exact ZBc rfl | exact ZAT (ZBc rfl) | exact ZAT (ZAT rfl))(hd:(x==("__debug__":Str))=ZFu:=by decide)(hcd:(x==("__classdict__":Str))=ZFu:=by decide)
  (hbase:ZCr (.Call (.Attribute (.Name x p0) "setdefault" p1) [b,.List [] p2] [] p3) "append" X.env (eval (.Call (.Attribute (.Name x p0) "setdefault" p1) [b,.List [] p2] [] p3) X.env)=eval (.Call (.Attribute (.Name x p0) "setdefault" p1) [b,.List [] p2] [] p3) X.env:=by rfl)
  (hfew:((backTo p5 (ZAD [a] X.env)).all (λx=>!x.1)&&(ZD8 p5 (ZDh [] X.env)).all (λx=>x.1.isSome)&&decide (([a]:List Expr).length+([]:List Keyword).length+(if([]:List Keyword).isEmpty then 0 else 1)<30))=ZFt:=by rfl)
  (hline:(p4.endLine==p5.line)=ZFt:=by rfl) (hs:ZAD [a] X.env=[(ZFu,eval a X.env)]:=by rfl):XS X (.Expr (.Call (.Attribute (.Call (.Attribute (.Name x p0) "setdefault" p1) [b,.List [] p2] [] p3) "append" p4) [a] [] p5) pos) (HM.Zpt i fb fa):=by
 intro r o h;unfold HM.Zpt at h;split at h
 ·rename_i y hy
  split at h
  ·rename_i kvs hb
   split at h
   ·rename_i k hk'
    split at h
    ·rename_i hzz
     split at h
     ·rename_i d hd'
      split at h
      ·rename_i ds hds
       split at h
       ·rename_i hz
        cases h;have hi:i<r.length:=(ZAC.mp hb).1;have hb':(r.set i (Z (.otl (HM.ZbN kvs k))))[i]?=Z (Z (.otl (HM.ZbN kvs k))):=ZBl hi;refine PS.imp (Zih (Zn8 ZCu ZDp ZDq Zhl (Zye hu (ZbL hN hv hd hcd) (hk r y hy) (ZbD (X:=X) Zl (by simp) r (.ol []) rfl) m) (ZaC (ha _ d hd') ZbT hs) hbase hfew hline hs rfl)) λE σ H ⟨F0,H0,F,at_,kk⟩=>?_;have fin:∀{F3 H3:Hp} {l:Addr},At X.K F0 H0 F3 H3 (r.set i (Z (.otl (HM.ZbN kvs k)))) σ->(∃vs,SqL X.K H3 l vs)->(∀a' vvs',σ[i]?=Z (Z (.ref a'))->H3 a'=Z (.dT vvs')->Za3 vvs' k=Z (.ref l)) ->
          tyV X.K "list" (.ref l) H3/\Now X.K (r.set i (Z (.otl (HM.ZbN kvs k)))) σ H3 λF0 H0 F=>∀v F' H',Ext F H3 F' H'->Rep X.K F' d v->ZrH (.ref l) [v] H' λ_ H'=>E.nx σ H':=by
         intro F3 H3 l at3 hl hat;refine⟨.inl ⟨rfl,hl⟩,F0,H0,F3,at3,λv F4 H4 x4 r4=>?_⟩;obtain⟨aa',vvs',l',vs',g1,g2,g3,g4,g5,g6⟩:=(at3.grow x4).otlApp k hb' hds;obtain⟨aa2,vvs2,l2,vs2,f1,f2,f3,_⟩:=at3.otlApp k hb' hds;rw[f1]at g1;cases g1;rw[x4.hh _ _ f2]at g2;cases g2;rw[hat _ _ f1 f2]at g3;cases g3;have g7:=g6 d v r4;rw[ZDY]at g7;refine⟨_,vs',v,rfl,rfl,g4,?_,kk _ F4 _ g7⟩;rw[<-g5.1];exact Zfz hz
        obtain⟨fq,eb⟩:=at_;obtain⟨aa,vvs,ls,e1,e2,e3,e4⟩:=eb.otl hb;refine⟨.ref aa,e1,aa,rfl,.inr ⟨vvs,.inl e2⟩,F0,H0,F,⟨fq,eb⟩,λw F1 H1 x1 r1=>⟨F0,H0,F1,At.grow ⟨fq,eb⟩ x1,λv F2 H2 x2 ⟨fp,r2,nd,hn⟩=>?_⟩⟩;obtain⟨bb,rfl,hbb⟩:=ZbQ hk' r1;have x12:=x1.trans x2;have hz0:vvs.length<sizeLine:=by rw[<-e3.len.2]; exact Zfz hzz
        refine⟨vvs,k,bb,x12.hh _ _ e2,rfl,x2.hh _ _ (x1.sub _ _ hbb),hz0,λu hu'=>?_,λhno=>?_⟩
        ·have hls:∃ds0,HM.Zi kvs k=Z ds0:=by
          cases hq:HM.Zi kvs k with
          | some ds0=>exact⟨ds0,rfl⟩
          | none=>rw[(e3.look k).2 hq]at hu'; cases hu'
         obtain⟨ds0,hls⟩:=hls;have ead:=ZtJ hls;obtain⟨l0,vs0,q1,q2,q3,q4⟩:=(e3.look k).1 ds0 hls;rw[q1]at hu';cases hu';refine fin (F3:=F2) ?_ ⟨vs0,SqL.of (x12.hh _ _ q3)⟩ λa' vvs' z1 z2=>?_
         ·rw[ead]
          have:r.set i (Z (.otl kvs))=r:=by obtain⟨h1,h2⟩:=ZAC.mp hb;rw[<-h2];exact ZC4 h1
          rw[this];exact At.grow ⟨fq,eb⟩ x12
         ·rw[e1]at z1
          cases z1;rw[x12.hh _ _ e2]at z2;cases z2;exact q1
        ·have hls:HM.Zi kvs k=Z_:=by
          cases hq:HM.Zi kvs k with
          | none=>rfl
          | some ds0=>obtain⟨l0,vs0,q1,_⟩:=(e3.look k).1 ds0 hq;rw[hno]at q1; cases q1
         have ead:=ZtD hls;cases r2 with
         | @ol l _ vs hl1 rs =>
          obtain rfl:vs=[]:=rs.nil_inv;have hHl:H l=Z_:=x1.hh.free (hn l (by simp)).2;obtain⟨aa2,vvs2,g1,g2,g3,g4,g5⟩:=eb.otlNew k x12 hb hl1 (hn l (by simp)).1 hHl;rw[e1]at g1;cases g1;rw[x12.hh _ _ e2]at g2;cases g2;have hne:l≠aa:=λz=>by rw[z,e2]at hHl; cases hHl
          refine fin (F3:=F2) (by rw[ead]; exact g5) ⟨[],SqL.of (by rw[ZB hne]; exact hl1)⟩ λa' vvs' z1 z2=>?_;rw[e1]at z1;cases z1;rw[ZI]at z2;cases z2;unfold Za3 at hno ⊢;rw[Option.map_eq_none_iff]at hno;rw[List.find?_append,hno];simp
       ·cases h
      ·cases h
     ·cases h
    ·cases h
   ·cases h
  ·cases h
 ·cases h
end
end HP
namespace HP
open PySem PyProof.Rows
variable{xs:Array Nat}{b:Bool}{i j:Nat}
def Zfi(xs:Array Nat):Prop:=xs.toList.Pairwise (· < ·)
theorem Zfi.lt(h:Zfi xs){k:Nat}(hk:k<xs.size)(hik:i<k):xs.getD i 0<xs.getD k 0:=by have:=ZEx.mp h i k (by simpa using ZCm hik hk) (by simpa using hk) hik;simpa [ZCy,hk,ZCm hik hk]using this
theorem Zld{xs:Array Nat}(h:Zfi xs)(j:Nat):∀(fuel lo hi:Nat),lo<=hi->hi<=xs.size->hi-lo<=fuel->(∀i,i<lo->xs.getD i 0<j)->(∀i,hi<=i->i<xs.size->j<=xs.getD i 0) ->
  ZDE xs j fuel lo hi<=xs.size/\(∀i,i<ZDE xs j fuel lo hi->xs.getD i 0<j)/\∀i,ZDE xs j fuel lo hi<=i->i<xs.size->j<=xs.getD i 0
 | 0,lo,hi,h1,h2,h3,a,b=>by
  obtain rfl:lo=hi:=by omega
  exact⟨h2,a,b⟩
 | fuel+1,lo,hi,h1,h2,h3,a,b=>by
  unfold ZDE;split
  ·rename_i hlt
   have hm:(lo+hi) / 2<xs.size:=by omega
   have e:xs.getD ((lo+hi) / 2) j=xs.getD ((lo+hi) / 2) 0:=by simp[ZCy,hm]
   dsimp only;rw[e]
   by_cases q:xs.getD ((lo+hi) / 2) 0<j
   ·rw[if_pos q]
    refine Zld h j fuel ((lo+hi) / 2+1) hi (by omega) h2 (by omega) (λi hi'=>?_) b
    by_cases c:i=(lo+hi) / 2
    ·rw[c]; exact q
    ·exact ZCm (h.lt hm (by omega)) q
   ·rw[if_neg q]
    refine Zld h j fuel lo ((lo+hi) / 2) (by omega) (by omega) (by omega) a (λi hi' hs=>?_)
    by_cases c:i=(lo+hi) / 2
    ·rw[c]; omega
    ·have:=h.lt hs (show(lo+hi) / 2<i by omega); omega
  ·obtain rfl:lo=hi:=by omega
   exact⟨h2,a,b⟩
theorem Zgs(h:Zfi xs)(j:Nat):ZAA xs j<=xs.size/\(∀i,i<ZAA xs j->xs.getD i 0<j)/\∀i,ZAA xs j<=i->i<xs.size->j<=xs.getD i 0 :=
 Zld h j xs.size 0 xs.size (ZCa _) (ZAz _) (by omega) (λi hi=>by omega) λi h1 h2=>by omega
theorem ZsF(h:Zfi xs)(hi:i<xs.size):ZAA xs (xs.getD i 0+1)=i+1:=by
 obtain⟨a,b,c⟩:=Zgs h (xs.getD i 0+1);apply Nat.le_antisymm
 ·apply ZCO
  intro q;have h1:=b (i+1) q;have h2:=h.lt (show i+1<xs.size by omega) (ZCP i);omega
 ·apply ZCO
  intro q;have h1:=c (ZAA xs (xs.getD i 0+1)) (ZAz _) (by omega)
  by_cases e:ZAA xs (xs.getD i 0+1)=i
  ·rw[e]at h1; omega
  ·have:=h.lt hi (show ZAA xs (xs.getD i 0+1)<i by omega); omega
theorem Zr5(h:Zfi xs):ZAA xs 0=0:=by obtain⟨a,b,c⟩:=Zgs h 0;apply Nat.eq_zero_of_not_pos;intro q;have:=b 0 q;omega
theorem ZkT(h:Zfi xs)(hn:xs[ZAA xs j]?≠Z j):Zfi (ZAP xs (ZAA xs j) j):=by
 obtain⟨a,b,c⟩:=Zgs h j;unfold Zfi;rw[ZDr];have gt:∀i,ZAA xs j<=i->i<xs.size->j<xs.getD i 0:=by
  intro i h1 h2
  by_cases e:ZAA xs j=i
  ·subst e
   have h3:=c _ h1 h2;have:xs.getD (ZAA xs j) 0≠j:=λq=>hn (by
    have z:xs[ZAA xs j]?=Z (xs.getD (ZAA xs j) 0):=by simp[ZCy,h2]
    rw[z,q])
   omega
  ·have h3:=h.lt h2 (show ZAA xs j<i by omega)
   have h4:=c _ (ZAz _) (show ZAA xs j<xs.size by omega);omega
 rw[ZD2];refine⟨h.sublist (List.take_sublist ..),ZBj.mpr ⟨λx hx=>?_,h.sublist (List.drop_sublist ..)⟩,λx hx y hy=>?_⟩
 ·obtain⟨i,hi,rfl⟩:=ZCS hx
  rw[ZDa,ZAM]at hi;rw[List.getElem_drop];have:=gt (ZAA xs j+i) (by omega) (by omega);simpa [ZCy,show ZAA xs j+i<xs.size by omega]using this
 ·obtain⟨i,hi,rfl⟩:=ZCS hx
  rw[ZB1,ZAM]at hi;rw[List.getElem_take];have h1:=b i (by omega);have h1':xs.toList[i]'(by simp; omega)<j:=by simpa [ZCy,show i<xs.size by omega]using h1
  rcases ZAy.mp hy with e | e
  ·rw[e]; exact h1'
  ·obtain⟨k,hk,rfl⟩:=ZCS e
   rw[ZDa,ZAM]at hk;rw[List.getElem_drop];have h2:=gt (ZAA xs j+k) (by omega) (by omega);have h2':j<xs.toList[ZAA xs j+k]'(by simp; omega):=by simpa [ZCy,show ZAA xs j+k<xs.size by omega]using h2
   exact ZCm h1' h2'
theorem has_none(j:Nat):SetTable.has #[] j=ZFu:=by simp[SetTable.has]
structure Tab(b:Bool)(t:SetTable):Prop where
 dum:t.dummies=#[]
 rise:Zfi t.place
 led:t.led=b
 plain:t.plain=ZFt
 low:∀j∈t.place.toList,j<8
 mask:t.mask=if t.place.size<=4 then 7 else 31
theorem Tab.fresh(b:Bool):Tab b (SetTable.fresh 0 0 b):=⟨rfl,.nil,rfl,rfl,λj hj=>by simp[SetTable.fresh]at hj,rfl⟩
theorem Tab.few{t:SetTable}(h:Tab b t):t.place.size<=8:=by
 have key:∀(l:List Nat) (lo:Nat),l.Pairwise (· < ·)->(∀j∈l,lo<=j/\j<8)->l.length<=8-lo:=by
  intro l
  induction l with
  | nil=>intro lo _ _; simp
  | cons x l ih=>intro lo hp hb;have h1:=hb x (ZAp ..);have h2:=ih (x+1) (ZBj.mp hp).2 λy hy=>⟨(ZBj.mp hp).1 y hy,(hb y (ZAq _ hy)).2⟩;rw[ZAB]; omega
 have:=key t.place.toList 0 h.rise λj hj=>⟨ZCa _,h.low j hj⟩;simpa using this
theorem ZiH{t:SetTable}(h:Tab b t)(hj:j ∉ t.place.toList):t.slot j=.empty/\t.place[ZAA t.place j]?≠Z j:=by have q:t.place[ZAA t.place j]?≠Z j:=λe=>hj (by rw[<-ZBo]at e;exact ZAR e);unfold SetTable.slot;dsimp only;rw[if_neg (by simpa using q),h.dum,has_none,if_neg (by simp)];exact⟨rfl,q⟩
theorem Zxu{t:SetTable}(h:Tab b t)(j:Nat):t.put j=({ t with place:=ZAP t.place (ZAA t.place j) j },ZAA t.place j):=by
 unfold SetTable.put;dsimp only;rw[h.dum,has_none];cases t;have:=h.dum
 simp_all
theorem size_insert{α:Type}(xs:Array α)(p:Nat)(x:α):(ZAP xs p x).size=xs.size+1:=by rw[<-ZAM,(ZCb xs p x).length_eq];simp
theorem Zxn{t:SetTable}(h:Tab b t){es:Array (Int × Value)}(he:es.size=t.place.size)(h8:j<8)(hj:j ∉ t.place.toList)(v:Value) :
  layNew t es (j:Int) v=(ZAP es (ZAA t.place j) ((j:Int),v),{ t with place:=ZAP t.place (ZAA t.place j) j },ZFu,ZFu):=by
 obtain⟨e1,e2⟩:=ZiH h hj;have hfew:=h.few;have hm:t.mask=7\/t.mask=31:=by rw[h.mask]; split<;>simp
 have hbits:ZFh (j:Int) % (t.mask+1)=j:=by
  have hb:ZFh (j:Int)=j:=by unfold ZFh; omega
  rw[hb];rcases hm with e | e<;>rw[e]<;>omega
 have hfree:t.freeSlot (j:Int)=Z (j,ZFu):=by
  unfold SetTable.freeSlot SetTable.probe;have hf:10*ZFa t.mask=(10*ZFa t.mask-1)+1:=by unfold ZFa; omega
  rw[hf];unfold SetTable.probe.go;have hp:(t.probeStart (j:Int)).j=j:=hbits;rw[hp,e1];rfl
 have hle:t.place.size<=7:=by
  apply ZCO;intro q;have h8':t.place.size=8:=by omega
  have:=ZBZ (l₁:=j::t.place.toList) (l₂:=ZAw 8) (ZBf.mpr ⟨hj,h.rise.imp λq=>ZAK q⟩) (λx hx=>by
   rcases ZAy.mp hx with e | e
   ·rw[e]; exact ZA5.mpr h8
   ·exact ZA5.mpr (h.low x e))
  simp at this;omega
 have hfit:(ZDM { t with place:=ZAP t.place (ZAA t.place j) j } (ZAP es (ZAA t.place j) ((j:Int),v)).size)=ZFt:=by unfold ZDM ZDN;simp only[size_insert,he,h.dum];simp;rw[h.mask];split<;>omega
 unfold layNew;rw[hfree];dsimp only;rw[Zxu h];dsimp only;unfold SetTable.orStandIn;rw[hfit];rfl
theorem Tab.ins{t:SetTable}(h:Tab b t)(h8:j<8)(hj:j ∉ t.place.toList)(hs:t.place.size≠4):Tab b { t with place:=ZAP t.place (ZAA t.place j) j }:=by
 obtain⟨_,e2⟩:=ZiH h hj;refine⟨h.dum,ZkT h.rise e2,h.led,h.plain,λx hx=>?_,?_⟩
 ·have:=(ZCb t.place (ZAA t.place j) j).mem_iff.mp hx
  rw[ZCI]at this;rcases ZAV.mp this with q | q
  ·exact h.low x q
  ·rw[ZAu.mp q]; exact h8
 ·dsimp only
  rw[size_insert,h.mask];split<;>split<;>omega
def ZmO:List (List Nat):=(ZAw 8).flatMap λa=>(ZAw 8).flatMap λb=>(ZAw 8).flatMap λc=>(ZAw 8).flatMap λd=>(ZAw 8).filterMap λe=>if a<b/\b<c/\c<d/\d<e then Z [a,b,c,d,e]else Z_
theorem Zq9{l:List Nat}(h:l.Pairwise (· < ·))(h8:∀j∈l,j<8)(h5:l.length=5):l∈ZmO:=by
 match l,h5 with
 | [a,b,c,d,e],_=>simp at h h8;unfold ZmO;simp only[ZCQ,ZA5,ZBs];refine⟨a,by omega,b,by omega,c,by omega,d,by omega,e,by omega,?_⟩;rw[if_pos (by omega)]
theorem Zyd:∀l∈ZmO,(SetTable.layClean 31 (l.map λ(n:Nat)=>(n:Int)).toArray).map (λowner=>(ZAw 32).filterMap λj=>(owner.getD j Z_).map (j,·))=Z (l.zip (ZAw 5)):=by decide +kernel
end HP
namespace HP
open PySem PyProof.Rows
variable{es:Array (Int × Value)}{h:Heap}{ns:List Int}
def Zfg(e:Int × Value):Int:=match e.2 with
 | .int n _=>n
 | _=>0
section
variable(prog:Program)(w:World)
def ZpF(es:List (Int × Value)):Prop:=∀e∈es,∃n t,e=((intKind prog w).hash n,ZCg n t)
def Zd6(h:Heap)(a:Addr)(L:List Int):Prop:=∃o es ep t,h.get? a=Z o/\o.ExactSet/\o.data=.set es ep t/\ZpF prog w es.toList/\(es.toList.map Zfg).Perm L/\es.toList.map Zfg=t.place.toList.map (λ(j:Nat)=>(j:Int))/\Tab (!w.params.followText "set-order") t
end
section
variable{prog:Program}{w:World}{A:Around}{E:Value->Shared->Prop}{s:Shared}{a:Addr}{L:List Int}
theorem ZpF.elems{es:List (Int × Value)}(h:ZpF prog w es):ElemsOf (intKind prog w) es:=λe he=>by obtain⟨n,t,rfl⟩:=h e he;exact⟨⟨n,ZEy _ _ _ _,rfl⟩,rfl⟩
theorem Zd6.at'{h':Heap}(x:Zd6 prog w h a L)(k:∀o,h.get? a=Z o->h'.get? a=Z o):Zd6 prog w h' a L:=let ⟨o,es,ep,t,e,r⟩:=x; ⟨o,es,ep,t,k o e,r⟩
def stp(L:List Int)(n:Int):List Int:=if L.contains n then L else L++[n]
theorem Zul{k n:Int}{t:Tok}:(intKind prog w).is k (.int n t)=ZFt↔n=k:=by
 constructor
 ·intro h
  exact(intKind prog w).inj _ _ _ (ZEy _ _ _ _) h
 ·rintro rfl; exact ZEy _ _ _ _
theorem ZiZ:∀(j:Nat),j<8->(intKind prog w).hash (j:Int)=(j:Int)
 | 0,_=>rfl
 | 1,_=>rfl
 | 2,_=>rfl
 | 3,_=>rfl
 | 4,_=>rfl
 | 5,_=>rfl
 | 6,_=>rfl
 | 7,_=>rfl
 | n+8,h=>by omega
theorem Tab.fits{b:Bool}{t:SetTable}(h:Tab b t):t.fits t.place.size=ZFt:=by have hf:=h.few;unfold ZDM ZDN;rw[h.dum,h.mask];simp;split<;>omega
theorem size_of{t:SetTable}(h:es.toList.map Zfg=t.place.toList.map (λ(j:Nat)=>(j:Int))):es.size=t.place.size:=by have:=congrArg ZA8 h;simpa using this
theorem ZlP{o:Obj}{es':Array (Int × Value)}{ep:Nat}{t t':SetTable}(ho:h.get? a=Z o)(hex:o.ExactSet)(hd:o.data=.set es ep t)(hel:ZpF prog w es'.toList)(hp:(es'.toList.map Zfg).Perm L)
  (hs:es'.toList.map Zfg=t'.place.toList.map (λ(j:Nat)=>(j:Int))) (ht:Tab (!w.params.followText "set-order") t') :
  (h.update a (ZDy es' t')).get? a=Z { o with data:=.set es' (ep+1) t' }/\Zd6 prog w (h.update a (ZDy es' t')) a L:=by
 have hg:(h.update a (ZDy es' t')).get? a=Z { o with data:=.set es' (ep+1) t' }:=by
  have:=ZBt (ZDy es' t') ho (by rw[putSet_of es' t' hd]; rfl)
  rwa [putSet_of es' t' hd]at this
 exact⟨hg,_,es',ep+1,t',hg,hex,rfl,hel,hp,hs,ht⟩
theorem Zvl{b:Bool}{t:SetTable}(hr:Zfi t.place)(h8:∀j∈t.place.toList,j<8)(h5:t.place.size=5)(he:es.map (·.1)=(t.place.toList.map (λ(j:Nat)=>(j:Int))).toArray)(hl:t.led=b)(hp:t.plain=ZFt) :
  ∃t',relayAll t es 20=(es,t',ZFu)/\t'.place=t.place/\Tab b t':=by
 have hc:=Zyd _ (Zq9 hr h8 (by simpa using h5));obtain⟨owner,o1,o2⟩:=ZAn.mp hc;have hsz:es.size=5:=by have:=congrArg Array.size he;simp at this;omega
 have hlen:t.place.toList.length=5:=by simpa using h5
 have z1:(t.place.toList.zip (ZAw 5)).map (·.1)=t.place.toList:=List.map_fst_zip (by rw[hlen]; simp);have z2:(t.place.toList.zip (ZAw 5)).map (·.2)=ZAw 5:=List.map_snd_zip (by rw[hlen]; simp);have hrl:t.relaid (es.map (·.1)) 20=Z ({ mask:=31,place:=t.place,dummies:=#[],finger:=t.finger,led:=t.led,moves:=t.movedTo 31,plain:=t.plain },(ZAw 5).toArray):=by
  unfold SetTable.relaid SetTable.laid;have e31:SetTable.sizeAbove 20-1=31:=by decide
  rw[e31,he,o1];show Z _=Z _;rw[o2,z1,z2]
 refine⟨{ mask:=31,place:=t.place,dummies:=#[],finger:=t.finger,led:=t.led,moves:=t.movedTo 31,plain:=t.plain },?_,rfl,⟨rfl,hr,hl,hp,h8,?_⟩⟩
 ·unfold relayAll
  rw[hrl];dsimp only;have ef:(ZAw 5).toArray.filterMap (λx=>es[x]?)=es:=by apply Array.toList_inj.mp;rw[Array.toList_filterMap];have:=filterMap_getElem?_range es;rw[hsz]at this;simpa using this
  rw[ef];have ec:coversAll (ZAw 5).toArray es.size=ZFt:=by rw[hsz]; decide
  have et:ZDM { mask:=31,place:=t.place,dummies:=#[],finger:=t.finger,led:=t.led,moves:=t.movedTo 31,plain:=t.plain } es.size=ZFt:=by unfold ZDM ZDN;simp[h5,hsz]
  rw[ec,et];rfl
 ·dsimp only
  rw[h5];rfl
theorem ZuI{j:Nat}{tk:Tok}{Q:Bool->Shared->Prop}(h8:j<8)(hX:Zd6 prog w s.heap a L)
  (h:∀b h',ZB9 a s.heap h'->Zd6 prog w h' a (stp L j)->Q b { s with heap:=h' }) :
  wpAny (model prog w) A (setAddHashed a (.int j tk) ((intKind prog w).hash j)) Q E s:=by
 obtain⟨o,es,ep,t,ho,hex,hd,hen,hpm,hpl,ht⟩:=hX;have hel:=hen.elems;have hsc:(ZCg (j:Int) tk).scannable=ZFt:=rfl;have hkey:(intKind prog w).is (j:Int) (.int j tk)=ZFt:=ZEy _ _ _ _;have hsz:=size_of hpl;have hfew:=ht.few;have hf:t.fits es.size=ZFt:=by rw[hsz]; exact ht.fits
 have hsb:scanBound=4096:=rfl;have hb:es.size<scanBound:=by omega
 unfold setAddHashed setAddHashedIn;refine ZBG (ZAm (ZDF ho hd hf ?_));dsimp only;rw[byScan_of hsc hb hel];simp only[↓reduceIte];unfold setAddByScan;refine ZAm (ZAm (ZEw (ZAm (wpAny_setScan_of hkey ho hd hf hel ?_))));cases hr:List.findIdx? (λe=>(intKind prog w).is (j:Int) e.2) es.toList with
 | some i =>
  dsimp only;obtain⟨hi,hpi,_⟩:=List.findIdx?_eq_some_iff_getElem.mp hr;have hmem:(j:Int)∈L:=by refine hpm.mem_iff.mp (ZAv.mpr ⟨es.toList[i],ZBJ hi,?_⟩);obtain⟨m,u,e⟩:=hen _ (ZBJ hi);rw[e]at hpi ⊢;exact Zul.mp hpi
  refine ZAr (ZAr ?_);have e:s={ s with heap:=s.heap }:=by cases s; rfl
  have q:=h ZFu s.heap (ZFs a s.heap) ⟨o,es,ep,t,ho,hex,hd,hen,by unfold stp; rw[if_pos (by simpa using hmem)]; exact hpm,hpl,ht⟩;rw[e];exact q
 | none =>
  dsimp only;have hne:∀e∈es.toList,Zfg e≠(j:Int):=λe he hv=>by obtain⟨m,u,e1⟩:=hen e he;have no:=List.findIdx?_eq_none_iff.mp hr e he;rw[e1]at no hv;have yes:(intKind prog w).is (j:Int) (.int m u)=ZFt:=Zul.mpr hv;exact absurd (yes.symm.trans no) (by simp)
  have hnm:(j:Int) ∉ L:=λhm=>by obtain⟨e,he,hv⟩:=ZAv.mp (hpm.mem_iff.mpr hm);exact hne e he hv
  have hj:j ∉ t.place.toList:=λhm=>by
   have:(j:Int)∈es.toList.map Zfg:=by rw[hpl]; exact ZAv.mpr ⟨j,hm,rfl⟩
   obtain⟨e,he,hv⟩:=ZAv.mp this;exact hne e he hv
  obtain⟨mk,pl,dm,fg,ld,mv,pn⟩:=t;obtain rfl:pn=ZFt:=ht.plain;obtain rfl:dm=#[]:=ht.dum;rw[ZiZ j h8,Zxn ht hsz h8 hj];dsimp only;obtain⟨_,hnj⟩:=ZiH ht hj;obtain⟨hle,_,_⟩:=Zgs ht.rise j;have hen1:ZpF prog w (ZAP es (ZAA pl j) ((j:Int),ZCg j tk)).toList:=λe he=>by
   have:=(ZCb _ _ _).mem_iff.mp he;rw[ZCI]at this;rcases ZAV.mp this with q | q
   ·exact hen e q
   ·exact⟨j,tk,by rw[ZiZ j h8]; exact ZAu.mp q⟩
  have hpm1:((ZAP es (ZAA pl j) ((j:Int),ZCg j tk)).toList.map Zfg).Perm (stp L j):=by unfold stp;rw[if_neg (by simpa using hnm)];refine((ZCb _ _ _).map Zfg).trans ?_;rw[ZCI,ZAN];exact hpm.append_right _
  have hpl1:(ZAP es (ZAA pl j) ((j:Int),ZCg j tk)).toList.map Zfg=(ZAP pl (ZAA pl j) j).toList.map (λ(j:Nat)=>(j:Int)):=by rw[ZDr,ZDr,ZAN,ZAN,ZAt,ZAt,List.map_take,List.map_take,List.map_drop,List.map_drop,hpl];rfl
  have hs1:(ZAP es (ZAA pl j) ((j:Int),ZCg j tk)).size=es.size+1:=size_insert _ _ _;generalize hE:ZAP es (ZAA pl j) ((j:Int),ZCg j tk)=es1 at hen1 hpm1 hpl1 hs1 ⊢;have hz1:es1.size<=sizeLine:=by rw[ZBR]; omega
  refine ZAm (ZAr ?_);simp only[↓reduceIte];refine ZAm ?_;rw[hashByValue_scannable 8 hsc];refine ZAr ?_;rw[show plainKind (ZCg (j:Int) tk)=ZFt from rfl];simp only[↓reduceIte];show wpAny (model prog w) A (do
    storeSet a es1 (⟨mk,ZAP pl (ZAA pl j) j,#[],fg,ld,mv,ZFt⟩:SetTable)
    if(!ZFu&&ZDb (⟨mk,ZAP pl (ZAA pl j) j,#[],fg,ld,mv,ZFt⟩:SetTable))=ZFt then _ else _) _ E s
  refine ZAm (wpAny_storeSet_of ho hd ?_ hz1);have hsb1:=ZBq s.heap a (ZDy es1 (⟨mk,ZAP pl (ZAA pl j) j,#[],fg,ld,mv,ZFt⟩:SetTable))
  by_cases h4:pl.size=4
  ·have hm:mk=7:=by have q:=ht.mask; dsimp only at q; rw[h4]at q; exact q
   have htf:ZDb (⟨mk,ZAP pl (ZAA pl j) j,#[],fg,ld,mv,ZFt⟩:SetTable)=ZFt:=by unfold ZDb ZDN;simp[size_insert,h4,ht.dum,hm]
   have hg:(s.heap.update a (ZDy es1 (⟨mk,ZAP pl (ZAA pl j) j,#[],fg,ld,mv,ZFt⟩:SetTable))).get? a=Z { o with data:=.set es1 (ep+1) (⟨mk,ZAP pl (ZAA pl j) j,#[],fg,ld,mv,ZFt⟩:SetTable) }:=by
    have:=ZBt (ZDy es1 (⟨mk,ZAP pl (ZAA pl j) j,#[],fg,ld,mv,ZFt⟩:SetTable)) ho (by rw[putSet_of _ _ hd]; rfl)
    rwa [putSet_of _ _ hd]at this
   have hh:es1.map (·.1)=((ZAP pl (ZAA pl j) j).toList.map (λ(j:Nat)=>(j:Int))).toArray:=by
    apply Array.toList_inj.mp;rw[Array.toList_map,<-hpl1];refine ZBL λe he=>?_;obtain⟨m,u,e1⟩:=hen1 e he;have hm:m∈es1.toList.map Zfg:=ZAv.mpr ⟨e,he,by rw[e1]; rfl⟩;rw[hpl1]at hm;obtain⟨k,hk,rfl⟩:=ZAv.mp hm;have hk8:k<8:=by
     have:=(ZCb _ _ _).mem_iff.mp hk;rw[ZCI]at this;rcases ZAV.mp this with q | q
     ·exact ht.low k q
     ·rw[ZAu.mp q]; exact h8
    rw[e1];exact ZiZ (prog:=prog) (w:=w) k hk8
   obtain⟨t',r1,r2,r3⟩:=Zvl (b:=!w.params.followText "set-order") (t:=(⟨mk,ZAP pl (ZAA pl j) j,#[],fg,ld,mv,ZFt⟩:SetTable)) (es:=es1) (ZkT ht.rise hnj)
    (λk hk=>by
     have:=(ZCb _ _ _).mem_iff.mp hk;rw[ZCI]at this;rcases ZAV.mp this with q | q
     ·exact ht.low k q
     ·rw[ZAu.mp q]; exact h8) (by dsimp only; rw[size_insert,h4]) hh ht.led ht.plain
   have hgr:SetTable.grown es1.size=20:=by rw[hs1,hsz,h4]; rfl
   rw[htf];simp only[Bool.not_false,Bool.and_self,↓reduceIte];rw[hgr,r1];dsimp only;refine ZAm (ZAr (ZAm (wpAny_storeSet_of hg rfl ?_ hz1)));obtain⟨_,hS2⟩:=ZlP (prog:=prog) (t':=t') hg hex rfl hen1 hpm1 (by rw[r2]; exact hpl1) r3;exact ZAr (ZAr (h ZFt _ (hsb1.trans (ZBq _ a _)) hS2))
  ·have htf:ZDb (⟨mk,ZAP pl (ZAA pl j) j,#[],fg,ld,mv,ZFt⟩:SetTable)=ZFu:=by
    unfold ZDb ZDN;have q:=ht.mask;dsimp only at q;simp only[size_insert];rw[q];simp;have:=hfew;dsimp only at this;split<;>omega
   rw[htf];simp only[Bool.and_false,ZCi,↓reduceIte];obtain⟨_,hS1⟩:=ZlP (prog:=prog) (t':=(⟨mk,ZAP pl (ZAA pl j) j,#[],fg,ld,mv,ZFt⟩:SetTable)) ho hex hd hen1 hpm1 hpl1 (ht.ins h8 hj h4);exact ZAr (ZAr (h ZFt _ hsb1 hS1))
end
section
variable{prog:Program}{w:World}{A:Around}{E:Value->Shared->Prop}{s:Shared}
abbrev Zdg(w:World):Obj:={ cls:=.type "set",dict:=Z_,data:=.set #[] 0 (.fresh 0 0 (!w.params.followText "set-order")) }
theorem ZnT(v:Value){Q₁:Value->Shared->Prop}(h:Q₁ (.ref s.heap.objs.size) { s with heap:=s.heap.push (Zdg w) }) :
  codeAny (model prog w) A (.call (.builtin "set.__new__") ⟨[.type "set",v],[]⟩) (wants Q₁ E) s:=by
 refine codeAny_of_tree ?_;show wpAny _ A.in1 (do checkBuiltinCall "set.__new__" ⟨[.type "set",v],[]⟩; again (.builtin "set.__new__" ⟨[.type "set",v],[]⟩)) _ _ s;refine ZAm (ZEc (PySem.F.newCall_set_1 v) (ZAr ⟨ZCG ZFb _,ZBP PySem.F.entry_set_new ?_⟩));rw[ZBz ZFb _];unfold Builtin.«set.__new__» Builtin.Frozenset.newClass;have hsub:=sub_set_self;obtain⟨hp,g,d,tk,os⟩:=s;dsimp only
 wp_walk
 refine ZDc (ZAr ?_);dsimp only;simp only[newObj];exact ZAm (wpAny_alloc (ZAr (ZAr h)))
theorem ZuP(h:Heap):Zd6 prog w (h.push (Zdg w)) h.objs.size [] :=
 ⟨_,#[],0,_,ZAH _ rfl,⟨rfl,rfl,rfl⟩,rfl,λe he=>by simp at he,.nil,rfl,Tab.fresh _⟩
theorem ZiK:∀(l acc:List Int) (x:Int),HM.dedup acc (l++[x])=stp (HM.dedup acc l) x
 | [],acc,x=>by show HM.dedup acc [x]=stp acc x;unfold HM.dedup stp;split<;>rfl
 | y::l,acc,x=>by
  show HM.dedup acc (y::(l++[x]))=_;unfold HM.dedup;split
  ·exact ZiK l acc x
  ·exact ZiK l _ x
variable{R:Result->Shared->Prop}{I:Addr}{fp wr:List Addr}{G:Array GenState->Array GenState->Prop}{P:Nat->Value->Prop}{St:Nat->Shared->Prop}
theorem Zt4(W:WalksS prog w A.in1 I fp wr G ns.length P St)(S:Addr)(hSf:S ∉ fp)(hval:∀i v,P i v->∃t,v=.int (ns.getD i 0) t)(hb:∀n∈ns,0<=n/\n<8) :
  ∀(k i:Nat) (s:Shared),ns.length-i=k->i<=ns.length->St i s->Zd6 prog w s.heap S (HM.dedup [] (ns.take i)) ->
   (∀s',Moved (S::wr) G s s'->Zd6 prog w s'.heap S (HM.dedup [] ns)->R (.ok (.ret .none)) s') ->
   codeAny (model prog w) A (.builtin "set.update.loop" ⟨[.ref S,.ref I],[]⟩) R s:=by
 have hSw:S ∉ wr:=λh=>hSf (W.sub _ h);have hsub:∀b∈wr,b∈S::wr:=λb hb=>ZAq _ hb;intro k
 induction k with
 | zero =>
  intro i s hk hi hst hS hR;obtain rfl:i=ns.length:=by omega
  rw[List.take_length]at hS;refine ZBP F.entry_set_update_loop ?_;rw[ZBz F.plain_set_update_loop _];show wpAny _ A.in1 (pyNext (.ref I) >>= _) _ _ s;refine ZAm (W.done s _ _ hst λs' hm=>?_);show wpAny _ A.in1 (ret ZBp) _ _ s';exact ZAr (hR s' (hm.mono hsub) (hS.at' λo e=>hm.heap S o hSw e))
 | succ k ih =>
  intro i s hk hi hst hS hR;have hlt:i<ns.length:=by omega
  refine ZBP F.entry_set_update_loop ?_;rw[ZBz F.plain_set_update_loop _];show wpAny _ A.in1 (pyNext (.ref I) >>= _) _ _ s;refine ZAm (W.item i s _ _ hlt hst λv s' hP hst' hm=>?_);obtain⟨t,rfl⟩:=hval i v hP;have hS':=hS.at' (h':=s'.heap) λo e=>hm.heap S o hSw e;show wpAny _ A.in1 (holding [ZCg (ns.getD i 0) t] (setAdd S (.int (ns.getD i 0) t)) >>= _) _ _ s';refine ZAm (ZBG ?_);unfold setAdd;refine ZBG (ZAm ((intKind prog w).pyHash (k:=ns.getD i 0) (ZEy _ _ _ _) ?_));have hbi:=hb (ns.getD i 0) (by rw[ZBW,ZAx hlt]; exact ZBJ hlt);obtain⟨j,ej⟩:∃j:Nat,ns.getD i 0=(j:Int):=⟨(ns.getD i 0).toNat,by omega⟩;have e:stp (HM.dedup [] (ns.take i)) (ns.getD i 0)=HM.dedup [] (ns.take (i+1)):=by rw[<-ZiK,List.take_succ,ZBW];simp[hlt]
  rw[ej]at e hbi ⊢;refine ZuI (s:={ s' with toks:=s'.toks+1 }) (by omega) hS' λb h' hsb hS2=>?_;rw[e]at hS2;refine ZAr ⟨ZCG F.plain_set_update_loop _,ih (i+1) _ (by omega) hlt (W.frame _ s' _ _ hst' (ZE2 _) λb hb o e=>?_) hS2 λs'' hm'' hS''=>?_⟩
  ·rw[hsb.2 b (λh:b=S=>hSf (by rw[<-h]; exact hb))]; exact e
  ·refine hR s'' (Moved.trans W.gtrans ((hm.mono hsub).then_heap (ZE2 _) λb o hb e=>?_) hm'') hS''
   rw[hsb.2 b (λh:b=S=>hb (by rw[h]; exact ZAp))]; exact e
set_option maxHeartbeats 3200000 in
theorem ZtK{l:Addr}{items:Array Value}{Q:Value->Shared->Prop}(hh:A.handled=Z_)(hl:s.heap.IsList l items)(hi:IntsAre items.toList ns)(hb:∀n∈ns,0<=n/\n<8)
  (h:∀(h':Heap) (tk:Nat),Zd6 prog w h' s.heap.objs.size (HM.dedup [] ns)->(∀b o,b<s.heap.objs.size->s.heap.get? b=Z o->h'.get? b=Z o)->Q (.ref s.heap.objs.size) { s with heap:=h',toks:=tk }) :
  wpAny (model prog w) A (call (.type "set") [.ref l]) Q E s:=by
 have hsz:items.size=ns.length:=by rw[<-hi.length,ZAM]
 obtain⟨c,tl,hmro⟩:=ZB2.mro;have hmade:=ZB2.made;have hsub:=ZB2.sub;refine ZEu (codeAny_of_tree ?_);show wpAny _ _ (callAny (.type "set") _) _ _ _;refine ZAr ⟨Code.quiet_builtin _ (by decide +kernel),ZBP PySem.F.entry_type_call ?_⟩;rw[Around.under_plain (weight_type_call_type "set" [.ref l] []) rfl];have h1:=ZB2.notType;have h2:=ZB2.canCreate;have hct:=PySem.F.typeCall_set_1 (.ref l)
 repeat (any_goals (first | assumption | wp_step))
 refine ZCk (ZnT (.ref l) (E:=E) (Q₁:=λobj s₁=>obj=.ref s.heap.objs.size/\s₁={ s with heap:=s.heap.push (Zdg w) }) ⟨rfl,rfl⟩) λr s₁ hr=>?_;cases r with
 | error e=>exact hr
 | ok fl =>
  cases fl with
  | ret obj =>
   obtain⟨rfl,rfl⟩:=hr;have hX:=ZuP (prog:=prog) (w:=w) s.heap;have hS:(s.heap.push (Zdg w)).get? s.heap.objs.size=Z (Zdg w):=ZAH _ rfl;have hT:Shared.TypeIs { s with heap:=s.heap.push (Zdg w) } (.ref s.heap.objs.size) "set":=⟨_,hS,rfl⟩;have hli:=ZB2.init.lookup;have hbi:=ZB2.init.bind (.ref s.heap.objs.size)
   repeat (any_goals (first | assumption | wp_step))
   refine ZCk (codeAny_call_builtin (R:=wants (λr s₂=>r=.none/\∃h' tk,s₂={ s with heap:=h',toks:=tk }/\Zd6 prog w h' s.heap.objs.size (HM.dedup [] ns) /\
     (∀b o,b<s.heap.objs.size->s.heap.get? b=Z o->h'.get? b=Z o)) E) ZB2.init.plain PySem.F.entry_set_init (check_set_init_1 hT ?_)) λr₂ s₂ hr₂=>?_
   ·obtain⟨⟨ocls,odict,odata,oslots⟩,hol,hcl,nl,hdl⟩:=hl
    simp only at hcl hdl;subst hcl; subst hdl;have hol':(s.heap.push (Zdg w)).get? l=Z { cls:=.type "list",dict:=odict,data:=.seq items nl,slots:=oslots }:=ZAs _ hol;have hsls:=PySem.F.sub_list_set;have hslf:=PySem.F.sub_list_frozenset;have hne:(ZCJ "list" == ZCJ "dict")=ZFu:=by decide
    have hl1:(s.heap.push (Zdg w)).IsList l items:=⟨_,hol',rfl,nl,rfl⟩;unfold Builtin.«set.__init__» noKeywords Builtin.Frozenset.updateFrom;generalize hPI:pyIter=PI
    wp_walk
    subst hPI;refine ZEr hl1 (ZAm (wpAny_runValue ?_));have hlS:l<s.heap.objs.size:=ZAG hol;have hh3:A.in1.in1.in1.handled=Z_:=by simp[hh]
    have hneI:l≠(s.heap.push (Zdg w)).objs.size:=by rw[ZCw]; exact ZAK (ZC2 hlS)
    have hSf:s.heap.objs.size ∉ [(s.heap.push (Zdg w)).objs.size,l]:=by rw[ZCw]; simp only[ZAy,ZAu,List.not_mem_nil,or_false,not_or];exact⟨ZAK (ZCP _),ZDm hlS⟩
    have Wl:=(Walks.list (prog:=prog) (w:=w) hh3 _ l hneI items).toS;rw[hsz]at Wl;refine Zt4 Wl s.heap.objs.size hSf (λi v hv=>IntsAre.int_at hi i v (by rw[ZBo]; exact hv)) hb (ns.length-0) 0 _ (by omega) (ZCa _)
     ⟨⟨_,ZAH _ rfl,rfl,rfl⟩,hl1.push _⟩ (hX.at' λo e=>ZAs _ e) λs' hm hS'=>?_
    obtain⟨h',g',d',tk',os'⟩:=s';have eg:g'=s.gens:=hm.gens;have ed:d'=s.drawn:=hm.drawn;have eo:os'=s.os:=hm.os;subst eg; subst ed; subst eo
    show wpAny _ _ _ _ _ _;refine ZAr ?_;show wpAny _ _ (ret ZBp) _ _ _;refine ZAr ⟨rfl,h',tk',rfl,hS',λb o hb e=>?_⟩;refine hm.heap b o ?_ (ZAs _ (ZAs _ e));simp only[ZAy,ZAu,List.not_mem_nil,or_false,not_or];exact⟨ZAK hb,by rw[ZCw]; exact ZAK (ZC2 hb)⟩
   ·cases r₂ with
    | error e=>exact hr₂
    | ok fl₂ =>
     cases fl₂ with
     | ret r =>
      obtain⟨rfl,h',tk,rfl,hS',hk'⟩:=hr₂
      repeat (any_goals (first | assumption | wp_step))
      exact h _ _ hS' hk'
     | _=>exact hr₂.elim
  | _=>exact hr.elim
end
end HP
namespace HP
open PySem PyProof.Rows
theorem ZcP:Slot "set_iterator" "__next__" "set_iterator.__next__" :=
 .of (owner:="set_iterator") (n:="__next__") (by rw[typeLookup_type,builtinLookup_eq_fast]; kernel_rfl) (by decide +kernel) (by decide +kernel) (by decide +kernel)
  (by first | exact .inl (by decide +kernel) | exact .inr (by decide +kernel)) (by rw[isSubtype_type]; kernel_rfl)
theorem Zjk:entryFor table "set_iterator.__next__" = Z Builtin.«set_iterator.__next__»:=entryFor_of_tree (by kernel_rfl)
theorem ZjV:Slot "set_iterator" "__iter__" "set_iterator.__iter__" :=
 .of (owner:="set_iterator") (n:="__iter__") (by rw[typeLookup_type,builtinLookup_eq_fast]; kernel_rfl) (by decide +kernel) (by decide +kernel) (by decide +kernel)
  (by first | exact .inl (by decide +kernel) | exact .inr (by decide +kernel)) (by rw[isSubtype_type]; kernel_rfl)
theorem Zn1:entryFor table "set_iterator.__iter__" = Z Builtin.«dict_keyiterator.__iter__» :=
 entryFor_alias (id':="dict_keyiterator.__iter__") (by kernel_rfl) rfl (by decide +kernel) (by kernel_rfl)
theorem ZlO:entryFor table "set.__iter__" = Z Builtin.«frozenset.__iter__» :=
 entryFor_alias (id':="frozenset.__iter__") (by kernel_rfl) rfl (by decide +kernel) (by kernel_rfl)
theorem ZoY:Manifest.owners.lookup (String.ofList ['r','o','t','a','r','e','t','i','_','t','e','s'].reverse)=Z Manifest.sig_set_iterator:=by kernel_rfl
theorem Zki(a:Value):argsOk "set_iterator.__next__" ⟨[a],[]⟩:=by unfold argsOk; rw[signature?_of (id:="set_iterator.__next__") (n:=['_','_','t','x','e','n','_','_']) (o:=['r','o','t','a','r','e','t','i','_','t','e','s']) (by kernel_rfl) ZoY]; kernel_rfl
theorem Zpn(a:Value):argsOk "set_iterator.__iter__" ⟨[a],[]⟩:=by unfold argsOk; rw[signature?_of (id:="set_iterator.__iter__") (n:=['_','_','r','e','t','i','_','_']) (o:=['r','o','t','a','r','e','t','i','_','t','e','s']) (by kernel_rfl) ZoY]; kernel_rfl
theorem Zl6{α:Type}:∀(l:List α) (i:Nat) (h:i<l.length),(l[i]::l.eraseIdx i).Perm l
 | x::l,0,_=>.refl _
 | x::l,i+1,h=>by
  have h':i<l.length:=by simpa using h
  show(l[i]::x::l.eraseIdx i).Perm (x::l);exact(List.Perm.swap x l[i] _).trans ((Zl6 l i h').cons x)
theorem Zm5{α:Type}(next:Nat->Nat):∀(n k:Nat) (left:List α) (out:Array α),left.length=n->(ZES.go next n k left out).toList.Perm (out.toList++left)
 | 0,k,left,out,h=>by rw[ZCs h,ZBa];exact .refl _
 | n+1,k,left,out,h=>by
  have hl:next k % left.length<left.length:=Nat.mod_lt _ (by omega)
  unfold ZES.go;rw[ZAx hl];dsimp only;refine(Zm5 next n (k+1) _ _ (by rw[List.length_eraseIdx_of_lt hl]; omega)).trans ?_
  rw[ZCI,ZBE];refine List.Perm.append_left _ ?_;exact Zl6 left _ hl
theorem ZmN{α:Type}(next:Nat->Nat)(xs:Array α):(ZES next xs).toList.Perm xs.toList:=by
 have:=Zm5 next xs.size 0 xs.toList #[] (by simp)
 simpa [ZES]using this
end HP
namespace HP
open PySem PyProof.Rows
variable{a it:Addr}{h h':Heap}{i n slot:Nat}{Q:Value->Shared->Prop}
structure Zfb(w:World)(h:Heap)(a:Addr)(es:Array (Int × Value))(ep:Nat)(t:SetTable):Prop where
 obj:∃o,h.get? a=Z o/\o.ExactSet/\o.data=.set es ep t
 fit:t.fits es.size=ZFt
 siz:es.size=t.place.size
 tab:Tab (!w.params.followText "set-order") t
theorem Zfb.at'{w:World}{es:Array (Int × Value)}{ep:Nat}{t:SetTable}(x:Zfb w h a es ep t)(k:∀o,h.get? a=Z o->h'.get? a=Z o):Zfb w h' a es ep t :=
 ⟨let ⟨o,e,r⟩:=x.obj; ⟨o,k o e,r⟩,x.fit,x.siz,x.tab⟩
def ZeA(w:World)(a:Addr)(es:Array (Int × Value))(ep:Nat):Array (Int × Value):=if w.params.followText "set-order" then ZES (w.params.setOrder a ep) es else es
theorem Zkd(w:World)(a:Addr)(es:Array (Int × Value))(ep:Nat):(ZeA w a es ep).toList.Perm es.toList:=by
 unfold ZeA; split
 ·exact ZmN _ _
 ·exact .refl _
theorem Zj8(w:World)(a:Addr)(es:Array (Int × Value))(ep:Nat):(ZeA w a es ep).size=es.size:=by have:=(Zkd w a es ep).length_eq;simpa using this
def ZhU(h:Heap)(it a:Addr)(slot i n ep:Nat):Prop:=∃o,h.get? it=Z o/\o.cls=.type "set_iterator"/\o.data=.fields #[.int slot 0,.int i 0,.ref a,.int n 0,.int ep 0]
theorem ZhU.typeIs{s:Shared}{ep:Nat}(x:ZhU s.heap it a slot i n ep):s.TypeIs (.ref it) "set_iterator":=let ⟨o,ho,hc,_⟩:=x; ⟨o,ho,hc⟩
theorem ZhU.at'{ep:Nat}(x:ZhU h it a slot i n ep)(k:∀o,h.get? it=Z o->h'.get? it=Z o):ZhU h' it a slot i n ep:=let ⟨o,e,r⟩:=x; ⟨o,k o e,r⟩
section
variable{prog:Program}{w:World}{A:Around}{E:Value->Shared->Prop}{s:Shared}{it a:Addr}{es:Array (Int × Value)}{ep:Nat}{t:SetTable}
theorem ZuK(x:Zfb w s.heap a es ep t)
  (hQ:Q (.ref s.heap.objs.size) { s with heap:=s.heap.push { cls:=.type "set_iterator",data:=.fields #[.int 0 0,.int 0 0,.ref a,.int es.size 0,.int ep 0] } }) :
  wpAny (model prog w) A (pyIter (.ref a)) Q E s:=by
 obtain⟨o,ho,hex,hd⟩:=x.obj;have hT:s.TypeIs (.ref a) "set":=⟨o,ho,hex.1⟩;refine ZEs hT ZFc (ZBB ZFc hT ZlO ?_ (PySem.F.args_set_iter_1 _));unfold Builtin.«frozenset.__iter__» Builtin.Frozenset.slot0 slotArgs Builtin.Frozenset.addrOf Builtin.Frozenset.sizeOf;refine ZAm (ZAm (ZAr (ZAr ?_)));dsimp only;refine ZAm (ZAm (ZD5 ho hd x.fit (ZAr ?_)));have hdr:∀{R:Bool->Shared->Prop} {A':Around} {E':Value->Shared->Prop},R ZFu s->wpAny (model prog w) A' (setDrawn a) R E' s:=λ{R A' E'} hR=>by unfold setDrawn setsByText;refine ZAm (ZDF ho hd x.fit (ZAm (ZAm (ZDc (ZAr (ZAr ?_))))));obtain⟨mk,pl,dm,fg,ld,mv,pn⟩:=t;obtain rfl:pn=ZFt:=x.tab.plain;show R (!_&&(!ZFt&&_)) s;simpa using hR
 refine ZAm (hdr ?_);rw[if_neg (by simp)];refine ZAm (ZAr (ZAm (wpAny_setEpoch_of ho hd x.fit ?_)));show wpAny (model prog w) A.in1 (newFields "set_iterator" [rawInt 0,rawInt 0,ZBh a,rawInt (es.size:Int),rawInt (ep:Int)] >>= _) _ E s;refine ZAm (ZBn (ZAr ⟨_,rfl,"set_iterator",_,⟨_,ZAH _ rfl,rfl⟩,ZcP.lookup,?_⟩));simpa [rawInt]using hQ
theorem ZkV{R:Option (Value × Nat)->Shared->Prop}(x:Zfb w s.heap a es ep t)(hs:w.params.followText "set-order" = ZFu->ZAA t.place slot=i)
  (hR:R ((ZeA w a es ep)[i]?.map λe=>(e.2,if w.params.followText "set-order" then slot else t.place.getD i 0+1)) s):wpAny (model prog w) A (setNext a slot i ep) R E s:=by
 obtain⟨o,ho,hex,hd⟩:=x.obj;unfold setNext setsByText;refine ZAm (ZDF ho hd x.fit ?_);dsimp only;refine ZAm (ZAm (ZDc (ZAr ?_)));dsimp only;cases hb:w.params.followText "set-order" with
 | true=>have hb':(model prog w).w.params.followText "set-order" = ZFt:=hb;rw[hb',if_pos rfl];unfold ZeA at hR;rw[hb,if_pos rfl]at hR;simp only[if_pos]at hR;refine ZCC (λq=>absurd q (by simp)) λ_=>?_;unfold setWalk setsByText;refine ZAm (ZAm (ZDF ho hd x.fit ?_));dsimp only;refine ZAm (ZAm (ZDc (ZAr ?_)));dsimp only;rw[hb',if_pos rfl];exact ZAm (ZDc (ZAr (ZAr hR)))
 | false =>
  have hb':(model prog w).w.params.followText "set-order" = ZFu:=hb;rw[hb',if_neg (by simp)];unfold ZeA at hR;rw[hb]at hR;simp only[ZCi,if_false]at hR;have hi:=hs hb;have hled:t.led=ZFt:=by rw[x.tab.led,hb]; rfl
  have hsz:=x.siz;obtain⟨mk,pl,dm,fg,ld,mv,pn⟩:=t;obtain rfl:pn=ZFt:=x.tab.plain;obtain rfl:ld=ZFt:=hled;refine ZCC (λq=>absurd (show(!ZFt&&_)=ZFt from q) (by simp)) λ_=>?_;refine ZAm ?_;refine ZCC (λq=>absurd (show(!ZFt&&_)=ZFt from q) (by simp)) λ_=>?_;refine ZAr ?_;dsimp only at hi hsz ⊢;rw[hi];refine ZAr ?_
  by_cases hlt:i<es.size
  ·have h1:es[i]?=Z es[i]:=ZCK hlt
   have h2:pl[i]?=Z (pl.getD i 0):=by simp[ZCy,show i<pl.size by omega]
   rw[h1]at hR ⊢;rw[h2];exact hR
  ·have h1:es[i]?=Z_:=ZDK (by omega)
   rw[h1]at hR ⊢;exact hR
theorem ZuF{e:Int × Value}{Q:Option Value->Shared->Prop}(hit:ZhU s.heap it a slot i es.size ep)(x:Zfb w s.heap a es ep t)(hs:w.params.followText "set-order" = ZFu->ZAA t.place slot=i)(he:(ZeA w a es ep)[i]?=Z e)
  (hQ:∀h',ZhU h' it a (if w.params.followText "set-order" then slot else t.place.getD i 0+1) (i+1) es.size ep->ZB9 it s.heap h'->Q (Z e.2) { s with heap:=h' }) :
  wpAny (model prog w) A (pyNext (.ref it)) Q E s:=by
 obtain⟨o,ho,hc,hd⟩:=id hit;obtain⟨os,hos,hex,hds⟩:=x.obj;unfold pyNext;refine ZAm (ZEk (wpAny_callSpecial?_slot (name:=ZAQ "__next__") hit.typeIs ZcP
  (ZBB ZcP hit.typeIs Zjk ?_ (Zki _))))
 unfold Builtin.«set_iterator.__next__» slotArgs;refine ZAm (ZAr ?_);dsimp only;refine ZAm (ZEa ho hd ?_);dsimp only;refine ZAm (ZD5 hos hds x.fit ?_);refine ZCC (λq=>absurd q (by simp)) λ_=>?_;simp only[ZBx];refine ZAm (ZkV x hs ?_);rw[he];dsimp only[Option.map_some];refine ZAm (ZCM ho hd (by simp) ?_);have g1:(s.heap.update it (ZFi (·.setIfInBounds 0 (rawInt ((if w.params.followText "set-order" = ZFt then slot else t.place.getD i 0+1:Nat):Int))))).get? it=Z _:=ZBt _ ho (ZC5 (ZBI hd _));refine ZAm (ZCM g1 (ZBI hd _) (by simp) ?_);refine ZAr ⟨_,rfl,ZAr (hQ _ ⟨_,ZBt _ g1 (ZC5 (ZBI (ZBI hd _) _)),?_,?_⟩ ((ZBq ..).trans (ZBq ..)))⟩
 ·rw[ZDG,ZDG]; exact hc
 ·rw[ZBI (ZBI hd _)]; simp[rawInt]
theorem ZvJ{Q:Option Value->Shared->Prop}(hh:A.handled=Z_)(hit:ZhU s.heap it a slot i es.size ep)(x:Zfb w s.heap a es ep t)(hs:w.params.followText "set-order" = ZFu->ZAA t.place slot=i)(he:es.size<=i)
  (hQ:∀h',Heap.ExtBut it s.heap h'->Q Z_ { s with heap:=h' }):wpAny (model prog w) A (pyNext (.ref it)) Q E s:=by
 obtain⟨o,ho,hc,hd⟩:=id hit;obtain⟨os,hos,hex,hds⟩:=x.obj;have hn:(ZeA w a es ep)[i]?=Z_:=ZDK (by rw[Zj8]; exact he);unfold pyNext;refine ZAm (ZEk (wpAny_callSpecial?_slot (name:=ZAQ "__next__") hit.typeIs ZcP
  (ZBB ZcP hit.typeIs Zjk ?_ (Zki _))))
 unfold Builtin.«set_iterator.__next__» slotArgs;refine ZAm (ZAr ?_);dsimp only;refine ZAm (ZEa ho hd ?_);dsimp only;refine ZAm (ZD5 hos hds x.fit ?_);refine ZCC (λq=>absurd q (by simp)) λ_=>?_;simp only[ZBx];refine ZAm (ZkV x hs ?_);rw[hn];dsimp only[Option.map_none];refine ZAm (ZCM ho hd (by simp) ?_);refine ZAm ?_;simp only[newExc,newTuple];refine ZAm (ZBn ?_ (by size_fits));refine ZAm (m:=ZC6 _ _) (ZEc (a:=ZBp) (by first | rfl | (simp only[ZC6]; rfl)) ?_)
 refine ZBn ?_ (by size_fits);simp only[raiseNew];refine ZAm (wpAny_handled ?_);rw[show A.in1.handled=Z_ from hh];refine ZAm (ZAr (wpAny_throw ?_));refine ZAm (ZEF (T:="StopIteration") (b:=ZFt) ⟨_,ZAH _ rfl,rfl⟩ isSubtype_stop ?_);exact ZAr (hQ _ (((ZBq ..).extBut.push _).push _))
theorem Zvn(hit:ZhU s.heap it a slot i n ep)(h:Q (.ref it) s):wpAny (model prog w) A (pyIter (.ref it)) Q E s:=by refine ZEs hit.typeIs ZjV (ZBB ZjV hit.typeIs Zn1 ?_ (Zpn _));show wpAny _ _ (ret (.ref it)) _ _ s;exact ZAr ⟨_,rfl,"set_iterator",_,hit.typeIs,ZcP.lookup,h⟩
theorem Zto(hh:A.handled=Z_)(I a:Addr)(hne:a≠I)(es:Array (Int × Value))(ep:Nat)(t:SetTable) :
  Walks prog w A I [I,a] [I] es.size (λi v=>∃e,(ZeA w a es ep)[i]?=Z e/\v=e.2) (λi h=>∃slot,ZhU h I a slot i es.size ep/\Zfb w h a es ep t/\(w.params.followText "set-order" = ZFu->ZAA t.place slot=i)) where
 sub:=λb hb=>by simp at hb; simp[hb]
 frame:=λ_ _ _ ⟨slot,h1,h2,h3⟩ hk=>⟨slot,h1.at' λo e=>hk I (by simp) o e,h2.at' λo e=>hk a (by simp) o e,h3⟩
 item:=λi s Q E hi ⟨slot,h1,h2,h3⟩ hQ=>by
  have hlt:i<(ZeA w a es ep).size:=by rw[Zj8]; exact hi
  have hx:(ZeA w a es ep)[i]?=Z (ZeA w a es ep)[i]:=ZCK hlt;refine ZuF h1 h2 h3 hx λh' hit' hs'=>?_;refine hQ _ h' s.toks ⟨_,hx,rfl⟩ ⟨_,hit',h2.at' λo e=>hs'.extBut a o hne e,λhb=>?_⟩ λb o hb e=>hs'.extBut b o (λh=>hb (by simp[h])) e;rw[hb];exact ZsF h2.tab.rise (by rw[<-h2.siz]; exact hi)
 done:=λs Q E ⟨slot,h1,h2,h3⟩ hQ=>ZvJ hh h1 h2 h3 (ZAz _) λh' he'=>hQ h' s.toks λb o hb e=>he' b o (λh=>hb (by simp[h])) e
 self:=λ_ _ _ _ ⟨slot,h1,_⟩ hQ=>Zvn h1 hQ
end
end HP
namespace HP
open PySem PySem.W PyProof.Rows
variable{p:Array Nat}{h h':Heap}{i j m n:Nat}{Q:Nat × Array Nat->Prop}
section
variable{α β:Type}
def ZcO(o:Nat->Nat->Bool)(n:Nat):KasT α->(α->Prop)->Prop
 | .ret a,Q=>Q a
 | .ask i j k,Q=>i<n/\j<n/\ZcO o n (k (o i j)) Q
theorem ZcO.bnd{o:Nat->Nat->Bool}{n:Nat}{f:α->KasT β}{Q:β->Prop}:∀(t:KasT α),ZcO o n t (λa=>ZcO o n (f a) Q)->ZcO o n (t.bind f) Q
 | .ret a,h=>h
 | .ask i j k,h=>⟨h.1,h.2.1,ZcO.bnd (k (o i j)) h.2.2⟩
end
structure Pm(n:Nat)(p:Array Nat):Prop where
 pos:0<n
 perm:p.Perm (List.toArray (ZAw n))
theorem Pm.size{n:Nat}{p:Array Nat}(h:Pm n p):p.size=n:=by have:=h.perm.size_eq;simpa using this
theorem Pm.lt(h:Pm n p)(i:Nat):p.getD i 0<n:=by
 by_cases hi:i<p.size
 ·have e:p.getD i 0=p[i]:=by simp[ZCy,hi]
  rw[e];have:=(ZEl.mp h.perm).mem_iff (a:=p[i]);have h2:=this.mp (by simp);simpa using h2
 ·have e:p.getD i 0=0:=by simp[ZCy,hi]
  rw[e]; exact h.pos
theorem Pm.rev(h:Pm n p)(i j:Nat):Pm n (kas_rev p i j):=⟨h.pos,(mirror_perm _ _ _ _).trans h.perm⟩
theorem Pm.bub(h:Pm n p)(i j:Nat):Pm n (bubble p i j):=⟨h.pos,(bubble_perm _ _ _).trans h.perm⟩
theorem getD_eq?(p:Array Nat)(i:Nat):p.getD i 0=(p[i]?).getD 0:=by simp[Array.getD_eq_getD_getElem?]
section
variable(O:KeyOrd)(key:Nat->O.α)
def Ka(p:Array Nat)(i:Nat):O.α:=key (p.getD i 0)
def Up(p:Array Nat)(k:Nat):Prop:=∀i j,i<=j->j<k->O.kle (Ka O key p i) (Ka O key p j)
def Dn(p:Array Nat)(k:Nat):Prop:=∀i j,i<=j->j<k->O.kle (Ka O key p j) (Ka O key p i)
def Ev(p:Array Nat)(m q:Nat):Prop:=∀i,m-(q+1)<=i->i<m->Ka O key p i=Ka O key p (m-1)
abbrev orc:Nat->Nat->Bool:=λi j=>O.blt (key i) (key j)
variable{O key}{p:Array Nat}{n:Nat}
theorem Zqs(hj:j<=p.size)(k:Nat):Ka O key (kas_rev p i j) k=if i<=k/\k<j then Ka O key p (i+j-1-k)else Ka O key p k:=by unfold Ka kas_rev;rw[getD_eq?,getElem?_mirror_all hj];split<;>rw[<-getD_eq?]
theorem Zkf(hj:j<=p.size)(h:∀k,i<=k->k<j->Ka O key p k=Ka O key p (j-1))(k:Nat):Ka O key (kas_rev p i j) k=Ka O key p k:=by
 rw[Zqs hj];split
 ·rename_i hk
  rw[h _ (by omega) (by omega),h k hk.1 hk.2]
 ·rfl
theorem Zui{s d:Nat}(hs:s<p.size)(hd:d<=s)(k:Nat):Ka O key (bubble p s d) k=if k=s-d then Ka O key p s else if s-d<k/\k<=s then Ka O key p (k-1)else Ka O key p k:=by
 unfold Ka;rw[getD_eq?,getElem?_bubble hs d hd]
 by_cases h1:k=s-d
 ·rw[if_pos h1,if_pos h1,<-getD_eq?]
 ·rw[if_neg h1,if_neg h1]
  by_cases h2:s-d<k/\k<=s
  ·rw[if_pos h2,if_pos h2,<-getD_eq?]
  ·rw[if_neg h2,if_neg h2,<-getD_eq?]
theorem Up.one:Up O key p 1:=λi j h1 h2=>by
 obtain rfl:i=j:=by omega
 exact ZCZ _
theorem Up.more{k:Nat}(h:Up O key p k)(hl:O.kle (Ka O key p (k-1)) (Ka O key p k)):Up O key p (k+1):=λi j h1 h2=>by
 by_cases hj:j<k
 ·exact h i j h1 hj
 obtain rfl:j=k:=by omega
 by_cases hi:i=j
 ·subst hi; exact ZCZ _
 ·exact ZDQ (h i (j-1) (by omega) (by omega)) hl
theorem Dn.more{k:Nat}(h:Dn O key p k)(hl:O.kle (Ka O key p k) (Ka O key p (k-1))):Dn O key p (k+1):=λi j h1 h2=>by
 by_cases hj:j<k
 ·exact h i j h1 hj
 obtain rfl:j=k:=by omega
 by_cases hi:i=j
 ·subst hi; exact ZCZ _
 ·exact ZDQ hl (h i (j-1) (by omega) (by omega))
theorem Dn.same{p':Array Nat}{k:Nat}(h:Dn O key p k)(e:∀i,Ka O key p' i=Ka O key p i):Dn O key p' k:=λi j h1 h2=>by rw[e,e]; exact h i j h1 h2
theorem Zlx(hp:Pm n p){Q:Nat->Prop}:∀(f m:Nat),Up O key p m->(∀m',m<=m'->m'<=m+f->Up O key p m'->(m'=m+f\/O.klt (Ka O key p m') (Ka O key p (m'-1)))->Q m')->ZcO (orc O key) n (kas_asc p f m) Q
 | 0,m,hu,hq=>hq m (ZAz _) (by omega) hu (.inl rfl)
 | f+1,m,hu,hq=>by
  refine⟨hp.lt _,hp.lt _,?_⟩;dsimp only;split
  ·rename_i h
   exact hq m (ZAz _) (by omega) hu (.inr h)
  ·rename_i h
   refine Zlx hp f (m+1) (hu.more (ZCD h)) λm' h1 h2 h3 h4=>hq m' (by omega) (by omega) h3 (h4.imp (λe=>by omega) id)
theorem Zhs{Q:Array Nat × Nat × Nat->Prop}:∀(f:Nat) (p:Array Nat) (m q:Nat),Pm n p->Dn O key p m->q+1<=m->Ev O key p m q->m+f<=n ->
  (∀p' m' q',Pm n p'->m<=m'->m'<=m+f->Dn O key p' m'->q'+1<=m'->Ev O key p' m' q'->Q (p',m',q'))->ZcO (orc O key) n (kas_desc f p m q) Q
 | 0,p,m,q,hp,hd,h1,he,hn,hq=>hq p m q hp (ZAz _) (by omega) hd h1 he
 | f+1,p,m,q,hp,hd,h1,he,hn,hq=>by
  have hz:m<=p.size:=by rw[hp.size]; omega
  have e0:∀p',Ev O key p' (m+1) 0:=λp' i h1 h2=>by congr 1; omega
  refine⟨hp.lt _,hp.lt _,?_⟩;dsimp only;split
  ·rename_i h
   have hd':=hd.more (ZDH h);split
   ·exact Zhs f _ (m+1) 0 (hp.rev _ _) (hd'.same (Zkf hz he)) (by omega) (e0 _) (by omega) λp' m' q' a b c d e g=>hq p' m' q' a (by omega) (by omega) d e g
   ·exact Zhs f _ (m+1) 0 hp hd' (by omega) (e0 _) (by omega) λp' m' q' a b c d e g=>hq p' m' q' a (by omega) (by omega) d e g
  ·rename_i h
   refine⟨hp.lt _,hp.lt _,?_⟩;dsimp only;split
   ·exact hq p m q hp (ZAz _) (by omega) hd h1 he
   ·rename_i h'
    have l1:=ZCD h;have l2:=ZCD h';have ee:Ka O key p m=Ka O key p (m-1):=ZFj l2 l1;refine Zhs f p (m+1) (q+1) hp (hd.more l2) (by omega) (λi a b=>?_) (by omega) λp' m' q' a b c d e g=>hq p' m' q' a (by omega) (by omega) d e g;rw[show m+1-1=m by omega]
    by_cases hi:i=m
    ·rw[hi]
    ·rw[ee]; exact he i (by omega) (by omega)
theorem Zna(hp:Pm n p)(hd:Dn O key p m)(h1:1<=m)(hm:m<=n)(hq:∀m' p',1<=m'->m'<=n->Pm n p'->Up O key p' m'->Q (m',p')):ZcO (orc O key) n (kas_tail3 m n p) Q:=by
 have hz:m<=p.size:=by rw[hp.size]; omega
 refine ZcO.bnd _ (Zlx (hp.rev 0 m) (n-m) m (λi j a b=>?_) λm' a b c _=>hq m' _ (by omega) (by omega) (hp.rev 0 m) c);rw[Zqs hz,Zqs hz,if_pos (by omega),if_pos (by omega)];exact hd _ _ (by omega) (by omega)
theorem Znf(hp:Pm n p)(hd:Dn O key p (m+1))(hm:m+1<=n)(hq:∀m' p',1<=m'->m'<=n->Pm n p'->Up O key p' m'->Q (m',p')):ZcO (orc O key) n (kas_descPart m n p) Q:=by
 refine ZcO.bnd _ (Zhs (n-(m+1)) p (m+1) 0 hp hd (by omega) (λi a b=>by congr 1; omega) (by omega) λp' m' q' h1 h2 h3 h4 h5 h6=>?_);have hz:m'<=p'.size:=by rw[h1.size]; omega
 dsimp only;split
 ·exact Zna (h1.rev _ _) (h4.same (Zkf hz h6)) (by omega) (by omega) hq
 ·exact Zna h1 h4 (by omega) (by omega) hq
theorem ZsQ(hp:Pm n p)(hq:∀m' p',1<=m'->m'<=n->Pm n p'->Up O key p' m'->Q (m',p')):ZcO (orc O key) n (kas_count n p) Q:=by
 have h0:=hp.pos;refine ZcO.bnd _ (Zlx hp (n-1) 1 Up.one λm h1 h2 h3 h4=>?_);have hz:m<=p.size:=by rw[hp.size]; omega
 split
 ·exact hq m p (by omega) (by omega) hp h3
 ·rename_i hne
  have hne':m≠n:=by simpa using hne
  have hlt:O.klt (Ka O key p m) (Ka O key p (m-1)):=h4.resolve_left (by omega);split
  ·rename_i hm
   refine⟨hp.lt _,hp.lt _,?_⟩;dsimp only;split
   ·exact hq m p (by omega) (by omega) hp h3
   ·rename_i hr
    have hr':O.kle (Ka O key p (m-1)) (Ka O key p 0):=ZCD hr;have all:∀k,0<=k->k<m->Ka O key p k=Ka O key p (m-1):=λk _ hk=>ZFj (h3 k (m-1) (by omega) (by omega)) (ZDQ hr' (h3 0 k (by omega) hk));refine Znf (hp.rev _ _) (Dn.same ?_ (Zkf hz all)) (by omega) hq;refine Dn.more (λi j a b=>?_) (ZDH hlt);rw[all i (by omega) (by omega),all j (by omega) b]; exact ZCZ _
  ·obtain rfl:m=1:=by omega
   refine Znf hp (Dn.more (λi j a b=>?_) (ZDH hlt)) (by omega) hq;obtain rfl:i=j:=by omega
   exact ZCZ _
theorem ZiM{Q:Nat->Prop}{k:Nat}(hp:Pm n p)(hu:Up O key p k):∀(f l r:Nat),l<=r->r<=k->r-l<=f->(∀i,i<l->O.kle (Ka O key p i) (Ka O key p k))->(∀i,r<=i->i<k->O.klt (Ka O key p k) (Ka O key p i)) ->
  (∀l,l<=k->(∀i,i<l->O.kle (Ka O key p i) (Ka O key p k))->(∀i,l<=i->i<k->O.klt (Ka O key p k) (Ka O key p i))->Q l)->ZcO (orc O key) n (kas_place p k f l r) Q
 | 0,l,r,h1,h2,h3,lo,hi,hq=>by
  obtain rfl:l=r:=by omega
  exact hq l h2 lo hi
 | f+1,l,r,h1,h2,h3,lo,hi,hq=>by
  unfold kas_place;split
  ·obtain rfl:l=r:=by omega
   exact hq l h2 lo hi
  ·refine⟨hp.lt _,hp.lt _,?_⟩
   dsimp only;split
   ·rename_i h
    exact ZiM hp hu f l ((l+r) / 2) (by omega) (by omega) (by omega) lo (λi a b=>KeyOrd.klt_of_klt_of_kle h (hu _ _ a b)) hq
   ·rename_i h
    refine ZiM hp hu f ((l+r) / 2+1) r (by omega) (by omega) (by omega) (λi a=>ZDQ (hu i ((l+r) / 2) (by omega) (by omega)) (ZCD h)) hi hq
theorem Zpg{Q:Array Nat->Prop}:∀(f:Nat) (p:Array Nat) (k:Nat),Pm n p->Up O key p k->k+f=n->(∀p',Pm n p'->Up O key p' n->Q p')->ZcO (orc O key) n (kas_bin f p k) Q
 | 0,p,k,hp,hu,hn,hq=>by
  obtain rfl:k=n:=by omega
  exact hq p hp hu
 | f+1,p,k,hp,hu,hn,hq=>by
  refine ZcO.bnd _ (ZiM hp hu k 0 k (by omega) (ZAz _) (by omega) (λi a=>by omega) (λi a b=>by omega) λl hl lo hi=>?_);refine Zpg f _ (k+1) (hp.bub _ _) (λi j a b=>?_) (by omega) hq;have hk:k<p.size:=by rw[hp.size]; omega
  rw[Zui hk (by omega),Zui hk (by omega),show k-(k-l)=l by omega]
  repeat' split
  all_goals first
   | (exfalso; omega)
   | exact ZCZ _
   | exact lo _ (by omega)
   | exact ZDH (hi _ (by omega) (by omega))
   | exact hu _ _ (by omega) (by omega)
theorem Zs6(hn:0<n){Q:Array Nat->Prop}(hq:∀p,Pm n p->Up O key p n->Q p):ZcO (orc O key) n (kas_sort n) Q:=by
 refine ZcO.bnd _ (ZsQ ⟨hn,.refl _⟩ λm p h1 h2 h3 h4=>?_);dsimp only;rw[show max m 1=m by omega];split
 ·exact Zpg _ p m h3 h4 (by omega) hq
 ·exact hq p h3 (by rwa [show n=m by omega])
end
theorem lex_irrefl:∀a:List Int,HM.lexLt a a=ZFu
 | []=>rfl
 | x::a=>by show(if x=x then HM.lexLt a a else decide (x<x))=ZFu;rw[if_pos rfl]; exact lex_irrefl a
theorem Zha(x y:Int)(a b:List Int):HM.lexLt (x::a) (y::b)=if x=y then HM.lexLt a b else decide (x<y):=rfl
theorem lex_trans:∀a b c:List Int,HM.lexLt a b=ZFt->HM.lexLt b c=ZFt->HM.lexLt a c=ZFt
 | [],[],_,h,_=>by cases h
 | [],_::_,[],_,h=>by cases h
 | [],_::_,_::_,_,_=>rfl
 | _::_,[],_,h,_=>by cases h
 | _::_,_::_,[],_,h=>by cases h
 | x::a,y::b,z::c,h1,h2=>by
  rw[Zha]at *;split at h1
  ·rename_i e
   subst e;split at h2
   ·rename_i e; subst e; rw[if_pos rfl]; exact lex_trans a b c h1 h2
   ·rename_i e; rw[if_neg e]; exact h2
  ·split at h2
   ·rename_i e1 e2; subst e2; rw[if_neg e1]; exact h1
   ·rename_i e1 e2
    have h1:=of_decide_eq_true h1;have h2:=of_decide_eq_true h2;rw[if_neg (by omega)]; exact decide_eq_true (by omega)
theorem ZmY:∀a b c:List Int,HM.lexLt a c=ZFt->HM.lexLt a b=ZFt\/HM.lexLt b c=ZFt
 | [],[],_,h=>.inr h
 | [],_::_,_,_=>.inl rfl
 | _::_,_,[],h=>by cases h
 | _::_,[],_::_,_=>.inr rfl
 | x::a,y::b,z::c,h=>by
  rw[Zha]at *;rw[Zha];split at h
  ·rename_i e
   subst e
   by_cases e:x=y
   ·subst e; rw[if_pos rfl,if_pos rfl]; exact ZmY a b c h
   ·rw[if_neg e,if_neg (ZBy e)]
    by_cases q:x<y
    ·exact .inl (decide_eq_true q)
    ·exact .inr (decide_eq_true (by omega))
  ·rename_i e
   have h:=of_decide_eq_true h
   by_cases e1:x=y
   ·subst e1; rw[if_neg e]; exact .inr (decide_eq_true h)
   ·rw[if_neg e1]
    by_cases q:x<y
    ·exact .inl (decide_eq_true q)
    ·rw[if_neg (by omega)]; exact .inr (decide_eq_true (by omega))
theorem Zj4:∀a b:List Int,HM.lexLt a b=ZFu->HM.lexLt b a=ZFu->a=b
 | [],[],_,_=>rfl
 | [],_::_,h,_=>by cases h
 | _::_,[],_,h=>by cases h
 | x::a,y::b,h1,h2=>by
  rw[Zha]at h1 h2
  by_cases e:x=y
  ·subst e
   rw[if_pos rfl]at h1 h2;rw[Zj4 a b h1 h2]
  ·rw[if_neg e]at h1
   rw[if_neg (ZBy e)]at h2;have h1:=of_decide_eq_false h1;have h2:=of_decide_eq_false h2;omega
@[reducible] def Zqe:KeyOrd where
 α:=List Int
 blt:=HM.lexLt
 irrefl:=lex_irrefl
 trans:=lex_trans
 negTrans:=ZmY
 total:=Zj4
theorem ZiT{α:Type}{R:α->α->Prop}(anti:∀a b,R a b->R b a->a=b):∀{l m:List α},l.Perm m->l.Pairwise R->m.Pairwise R->l=m
 | [],m,hp,_,_=>(List.nil_perm.mp hp).symm
 | x::l,[],hp,_,_=>absurd hp.symm (by intro q; exact List.cons_ne_nil _ _ (List.nil_perm.mp q))
 | x::l,y::m,hp,hl,hm=>by
  obtain⟨l1,l2⟩:=ZBj.mp hl;obtain⟨m1,m2⟩:=ZBj.mp hm;have e:x=y:=by
   rcases ZAy.mp (hp.mem_iff.mp (ZAp ..))with e | e
   ·exact e
   ·rcases ZAy.mp (hp.mem_iff.mpr (ZAp ..))with e' | e'
    ·exact e'.symm
    ·exact anti x y (l1 y e') (m1 x e)
  subst e;rw[ZiT anti ((List.perm_cons x).mp hp) l2 m2]
def TI(h:Heap)(b:Addr)(t:List Int):Prop:=∃o its n,h.get? b=Z o/\o.cls=.type "tuple"/\o.data=.seq its n/\IntsAre its.toList t
theorem TI.keep{b:Addr}{t:List Int}(x:TI h b t)(k:∀o,h.get? b=Z o->h'.get? b=Z o):TI h' b t:=let ⟨o,its,n,e,r⟩:=x; ⟨o,its,n,k o e,r⟩
section
variable{prog:Program}{w:World}{A:Around}{E:Value->Shared->Prop}{s:Shared}
theorem Zt0{fin:Bool}{Q:Bool->Shared->Prop}:∀{vs ws:List Value} {a b:List Int} (i:Nat),IntsAre vs a->IntsAre ws b->fin=decide (vs.length<ws.length)->Q (HM.lexLt a b) s->KatLex prog w A ZFt fin Q (vs.zip ws) i s
 | _,_,_,_,i,.nil,.nil,e,q=>by subst e; exact kat_nil q
 | _,_,_,_,i,.nil,.cons _ _ _,e,q=>by subst e; exact kat_nil q
 | _,_,_,_,i,.cons _ _ _,.nil,e,q=>by subst e; exact kat_nil q
 | _,_,_,_,i,.cons x t hv,.cons y u hw,e,q=>by
  rw[List.zip_cons_cons];refine kat_cons (wpAny_eqBool_int ?_);rw[Zha]at q
  by_cases h:x=y
  ·rw[if_pos h]at q
   rw[show(x==y)=ZFt by simpa using h];refine kat_yes (Zt0 (i+1) hv hw ?_ q);rw[e,ZAB,ZAB];exact decide_eq_decide.mpr (by omega)
  ·rw[if_neg h]at q
   rw[show(x==y)=ZFu by simpa using h];refine kat_no ?_
   by_cases hi:i=0
   ·rw[show(ZFt&&i==0)=ZFt by simpa using hi]
    exact oneLt_int q
   ·rw[show(ZFt&&i==0)=ZFu by simpa using hi]
    exact kat_one _ _ (PyProof.Rows.lt_int q)
theorem ZxN{x y:Addr}{a b:List Int}{Q:Bool->Shared->Prop}(hx:TI s.heap x a)(hy:TI s.heap y b)(h:Q (HM.lexLt a b) s):wpAny (model prog w) A (keyLt' (tuples' ZFt) (.ref x) (.ref y)) Q E s:=by obtain⟨ox,ix,n,e1,_,d1,r1⟩:=hx;obtain⟨oy,iy,k,e2,_,d2,r2⟩:=hy;refine kat_lt e1 d1 e2 d2 (Zt0 0 r1 r2 ?_ h);rw[ZAM,ZAM]
theorem ZrA{α:Type}{cmp:Nat->Nat->(Bool->Shared->Prop)->Shared->Prop}{o:Nat->Nat->Bool}{n:Nat}(hc:∀i j C,i<n->j<n->C (o i j) s->cmp i j C s){G:α->Shared->Prop}:∀(t:KasT α),ZcO o n t (λa=>G a s)->t.kasWp cmp G s
 | .ret a,h=>h
 | .ask i j k,h=>hc i j _ h.1 h.2.1 (ZrA hc (k (o i j)) h.2.2)
theorem ZuG{a:Addr}{vs:List Value}{ts:List (List Int)}{P:PySem.Fin->Shared->Prop}(ho:s.heap.get? a=Z (seqObj "list" vs.toArray n))(hl:ts.length=vs.length)
  (hT:∀(i:Nat) t,ts[i]?=Z t->∃b,vs[i]?=Z (.ref b)/\TI s.heap b t) (hne:vs.length<2\/∀t∈ts,t≠[]) (h64:vs.length<64)
  (h:∀p:List Nat,p.Perm (ZAw vs.length)->(p.map λi=>ts.getD i []).Pairwise (λx y=>HM.lexLt y x=ZFu)->P (.done (.ret .none)) { s with heap:=sortedHeap s.heap a vs (p.map λi=>vs.getD i ZBp).toArray }) :
  wpAny (model prog w) A (Builtin.«list.sort» ⟨[.ref a],[]⟩) P E s:=by
 rw[list_sort_plain];have ha:a<s.heap.objs.size:=ZAG ho;refine ZAm (listItems_at ho rfl (ZAm (listUpdate_at ho rfl ?_ (by rw[ZAJ,ZBR]; omega) (ZCa _))));obtain⟨e1,ho1⟩:∃e1,(s.heap.update a (ZDv λ_=>#[])).get? a=Z (seqObj "list" #[] e1):=⟨_,get?_update_seq ho (λ_=>#[])⟩;refine ZAm (seqEpoch_at ho1 rfl ?_);refine ZAm (wpAny_newTuple ?_ (by show vs.length<=_; rw[ZBR]; omega));refine ZAm (wpAny_newList ?_ (ZCa _));refine ZBG ?_;generalize hG:((s.heap.update a (ZDv λ_=>#[])).push (seqObj "tuple" vs.toArray 0)).push (seqObj "list" #[] 0)=g;have ho6:g.get? a=Z (seqObj "list" #[] e1):=by rw[<-hG,ZC3 _ _ _ (by rw[size_push',ZDR]; exact ZAK (ZC2 ha)),ZC3 _ _ _ (by rw[ZDR]; exact ZAK ha)];exact ho1
 have hold:∀b o,b≠a->s.heap.get? b=Z o->g.get? b=Z o:=λb o hb e=>by have hlt:=ZAG e;rw[<-hG,ZC3 _ _ _ (by rw[size_push',ZDR]; exact ZAK (ZC2 hlt)),ZC3 _ _ _ (by rw[ZDR]; exact ZAK hlt),Heap.get?_update_ne _ _ _ _ hb];exact e
 have hT6:∀(i:Nat) t,ts[i]?=Z t->∃b,vs[i]?=Z (.ref b)/\TI g b t:=λi t e=>by
  obtain⟨b,e1,x⟩:=hT i t e;refine⟨b,e1,x.keep λo q=>hold b o ?_ q⟩
  rintro rfl
  obtain⟨o',_,_,q1,q2,_⟩:=x;rw[ho]at q1;cases q1;injection q2 with q2
  exact absurd q2 (by decide)
 show wpAny (model prog w) A _ P E { s with heap:=g };dsimp only;have fin:∀(st':SortSt) (p:List Nat),p.Perm (ZAw vs.length)->(p.map λi=>ts.getD i []).Pairwise (λx y=>HM.lexLt y x=ZFu)->(arrOf st').map (·.2)=(p.map λi=>vs.getD i ZBp).toArray->failedOf st'=Z_ ->
   wpAny (model prog w) A (do
    let touched:=(<-seqEpoch a) != e1
    Builtin.List.listUpdate (.ref a) λ_=>(arrOf st').map (·.2)
    if let Z e:=failedOf st' then rule "list.sort.comparison-raised"; throw e
    if touched then rule "list.sort.modified"; raiseError "ValueError" "list modified during sort"
    ret .none) P E { s with heap:=g }:=by
  intro st' p hp hs har hf;refine ZAm (seqEpoch_at ho6 rfl ?_);rw[har];refine ZAm (listUpdate_at ho6 rfl ?_ (ZCa _) (by show(p.map λi=>vs.getD i ZBp).toArray.size<=_; rw[ZAJ,ZAl,hp.length_eq,ZBg,ZBR]; omega));rw[hf];simp only[bne_self_eq_false,ZCi,if_false];refine ZAr ?_;have:=h p hp hs;unfold sortedHeap at this;rw[hG]at this;exact this
 by_cases h2:vs.toArray.size<2
 ·rw[if_pos h2,if_pos h2]
  refine ZAm (ZAr ?_);rw[StateT.run_pure];refine ZAm (ZAr ?_);refine fin (SortSt.mk' general' (vs.toArray.zip vs.toArray) #[] 7 Z_) (ZAw vs.length) (.refl _) ?_ ?_ rfl
  ·rw[ZAJ]at h2
   have:vs.length=0\/vs.length=1:=by omega
   rcases this with e | e<;>rw[e]<;>simp
  ·rw[ZAJ]at h2
   show Array.map (·.2) (vs.toArray.zip vs.toArray)=_
   match vs,h2 with
   | [],_=>simp
   | [v],_=>simp
 ·rw[if_neg h2,if_neg h2]
  rw[ZAJ]at h2;have hne':∀t∈ts,t≠[]:=hne.resolve_left h2;have tups:∀(vs:List Value) (ts:List (List Int)),ts.length=vs.length->(∀(i:Nat) t,ts[i]?=Z t->∃b,vs[i]?=Z (.ref b)/\TI g b t)->(∀t∈ts,t≠[])->∃fs,KatTups g vs fs/\fs.length=vs.length/\∀v∈fs,∃x t,v=ZCg x t:=by
   intro vs
   induction vs with
   | nil=>intro ts hl _ _; exact⟨[],KatTups.nil,rfl,by simp⟩
   | cons v vs ih =>
    intro ts hl hT hn;cases ts with
    | nil=>simp at hl
    | cons t ts =>
     obtain⟨fs,f1,f2,f3⟩:=ih ts (by simpa using hl) (λi t e=>hT (i+1) t (by simpa using e)) λx hx=>hn x (ZAq _ hx);obtain⟨b,eb,o,its,m,g1,g2,g3,g4⟩:=hT 0 t rfl;simp at eb;subst eb;cases t with
     | nil=>exact absurd rfl (hn [] (ZAp ..))
     | cons x t =>
      cases hi:its.toList with
      | nil=>rw[hi]at g4; cases g4
      | cons y ys =>
       rw[hi]at g4;cases g4 with
       | cons _ u _ =>
        refine⟨.int x u::fs,KatTups.cons g1 g2 g3 ?_ f1,by simp[f2],λv hv=>?_⟩
        ·rw[<-ZBo,hi]; rfl
        ·rcases ZAy.mp hv with e | e
         ·exact⟨x,u,e⟩
         ·exact f3 v e
  obtain⟨fs,f1,f2,f3⟩:=tups vs ts hl hT6 hne';refine ZAm (kat_kind (s:={ s with heap:=g }) (T:=.type "int") f1 (by omega) (λv hv=>?_) (by rfl) ?_)
  ·obtain⟨x,t,rfl⟩:=f3 v hv
   exact Looks.of_pure rfl
  rw[show(ZCJ "int" != ZCJ "tuple")=ZFt by decide];refine ZAm (ZBM (kat_run (ks:=vs) (Q:=λst' s'=>s'={ s with heap:=g }/\∃p:Array Nat,Pm vs.length p/\Up Zqe (λi=>ts.getD i []) p vs.length/\arrOf st'=p.map (kas_item (vs.toArray.zip vs.toArray))/\failedOf st'=Z_)
   (G:=λp s'=>s'={ s with heap:=g }/\Pm vs.length p/\Up Zqe (λi=>ts.getD i []) p vs.length) rfl (by omega) h64 (λp' st' s' a1 a2 a3 a4=>⟨a4.1,p',a4.2.1,a4.2.2,a2,a3⟩) ?_) ?_ λ_ _ e=>e)
  ·refine ZrA (o:=orc Zqe λi=>ts.getD i []) (n:=vs.length) (λi j C hi hj hC=>?_) _ (Zs6 (by omega) λp h1 h2=>⟨rfl,h1,h2⟩)
   have gi:ts[i]?=Z (ts.getD i []):=by simp[show i<ts.length by omega]
   have gj:ts[j]?=Z (ts.getD j []):=by simp[show j<ts.length by omega]
   obtain⟨b1,v1,x1⟩:=hT6 i _ gi;obtain⟨b2,v2,x2⟩:=hT6 j _ gj;show wpAny (model prog w) A (keyLt' _ (vs.getD i ZBp) (vs.getD j ZBp)) C _ _;rw[show vs.getD i ZBp=.ref b1 by simp[ZBW,v1],show vs.getD j ZBp=.ref b2 by simp[ZBW,v2]];exact ZxN x1 x2 hC
  ·rintro ⟨⟨⟩,st'⟩ s' ⟨rfl,p,hp,hu,har,hf⟩
   refine fin st' p.toList ?_ ?_ (kat_snds rfl har) hf
   ·have:=ZEl.mp hp.perm
    simpa using this
   ·rw[ZDI,ZEx]
    intro i j hi hj hij;have hsz:=hp.size;have q:=hu i j (ZCj hij) (by rw[ZAM]at hj; omega);unfold Ka at q;rw[show p.getD i 0=p.toList[i] by simp[ZCy,show i<p.size by simpa using hi],show p.getD j 0=p.toList[j] by simp[ZCy,show j<p.size by simpa using hj]]at q;exact q
end
def Zfx(h:Heap)(d:Addr)(es:Array DictEntry)(ep:Nat):Prop:=∃o,h.get? d=Z o/\o.ExactDict/\o.data=.dict es ep
theorem Zfx.at'{d:Addr}{es:Array DictEntry}{ep:Nat}(x:Zfx h d es ep)(e:∀o,h.get? d=Z o->h'.get? d=Z o):Zfx h' d es ep:=let ⟨o,ho,r⟩:=x; ⟨o,e _ ho,r⟩
theorem Zfx.typeIs{s:Shared}{d:Addr}{es:Array DictEntry}{ep:Nat}(x:Zfx s.heap d es ep):s.TypeIs (.ref d) "dict":=let ⟨o,ho,hc,_⟩:=x; ⟨o,ho,hc.1⟩
theorem Zfx.lt{d:Addr}{es:Array DictEntry}{ep:Nat}(x:Zfx h d es ep):d<h.objs.size:=let ⟨o,ho,_⟩:=x; ZAG ho
section
variable{prog:Program}{w:World}{A:Around}{E:Value->Shared->Prop}{s:Shared}{it d:Addr}{es:Array DictEntry}{ep i:Nat}
theorem Zp5{Q:Value->Shared->Prop}(hd:(d==ZBY)=ZFu)(hm:Zfx s.heap d es ep)
  (hQ:Q (.ref s.heap.objs.size) { s with heap:=s.heap.push { cls:=.type "dict_keyiterator",data:=.fields #[.ref d,.int 0 0,.int es.size 0,.int ep 0] } }) :
  wpAny (model prog w) A (pyIter (.ref d)) Q E s:=by
 obtain⟨o,ho,hc,hdat⟩:=id hm;have hT:=hm.typeIs;refine ZEs hT F.slot_dict_iter (ZBB F.slot_dict_iter hT F.entry_dict_iter ?_ (F.args_dict_iter_1 _));unfold Builtin.«dict.__iter__»;refine ZAm ?_;unfold Builtin.Dict.dictSlotNone;refine ZAm (wpAny_notOrdered_dict hT ?_);show wpAny _ _ (pure (ZBh d)) _ _ s;refine ZAr ?_;show wpAny _ _ (ZFd d >>= _) _ _ s;unfold ZFd;rw[if_neg (by rw[hd]; exact ZBd)];refine ZAm (ZAr (ZAm (ZDD ho hdat (ZAm (ZET ho hdat ?_)))));refine ZAm (ZBn (ZAr ⟨_,rfl,"dict_keyiterator",_,⟨_,ZAH _ rfl,rfl⟩,F.slot_dict_keyiterator_next.lookup,?_⟩));simpa [rawInt]using hQ
theorem Zo1{e:DictEntry}{Q:Option Value->Shared->Prop}(hit:s.heap.IsKeyIter it d i es.size ep)(hm:Zfx s.heap d es ep)(hx:es[i]?=Z e)
  (hQ:∀h',h'.IsKeyIter it d (i+1) es.size ep->ZB9 it s.heap h'->Q (Z e.key) { s with heap:=h' }) :
  wpAny (model prog w) A (pyNext (.ref it)) Q E s:=by
 obtain⟨o,ho,hc,hd⟩:=id hit;obtain⟨od,hod,hcd,hdd⟩:=id hm;unfold pyNext;refine ZAm (ZEk (wpAny_callSpecial?_slot (name:=ZAQ "__next__") hit.typeIs F.slot_dict_keyiterator_next
  (ZBB F.slot_dict_keyiterator_next hit.typeIs F.entry_dict_keyiterator_next ?_ (F.args_dict_keyiterator_next_1 _))))
 refine ZAm (ZAr (ZAm (ZAm ?_)))
 first | refine ZAm (ZCt hit.typeIs (ZAr ?_)) | refine ZAm (ZCR hit.typeIs (ZAr ?_))
 refine ZAm (ZEa ho hd ?_);have hown:ZEb "dict_keyiterator" = ZFu:=by decide
 simp only[hown,ZCi,if_false];show wpAny _ _ (if(ZBh d==ZBp)=ZFt then _ else _) _ _ s;rw[if_neg (show ¬((ZBh d==ZBp)=ZFt) from ZBd)];refine ZAm (ZAr (ZAm (ZDD hod hdd ?_)));rw[if_neg (by simp)];refine ZAm (ZAr (ZAm (ZET hod hdd ?_)));rw[if_neg (by simp)];refine ZAr ?_;obtain⟨hlt,he⟩:=Array.getElem?_eq_some_iff.mp hx;simp only[show ¬((i:Int)<0) from by omega,if_false,ZBx,ZCK hlt];refine ZAm ?_
 first | refine ZAm (ZCt hit.typeIs (ZAr ?_)) | refine ZAm (ZCR hit.typeIs (ZAr ?_))
 refine ZAm (wpAny_isOneOf_keyiter hit.typeIs ?_);show wpAny _ _ (setField (.ref it) 1 (rawInt ((i:Int)+1)) >>= _) _ _ s;refine ZAm (ZCM ho hd (by simp) ?_);have hit':(s.heap.update it (ZFi (·.setIfInBounds 1 (rawInt ((i:Int)+1))))).IsKeyIter it d (i+1) es.size ep :=
  ⟨_,ZBt _ ho (ZC5 (ZBI hd _)),(ZDG ..).trans hc,by rw[ZBI hd]; simp[rawInt]⟩
 refine ZAm (ZBG ?_);refine ZAm (wpAny_isOneOf_keyiter (s:={ s with heap:=s.heap.update it (ZFi (·.setIfInBounds 1 (rawInt ((i:Int)+1)))) }) hit'.typeIs ?_);show wpAny _ _ (pure es[i].key) _ _ _;refine ZAr (ZAr ⟨_,rfl,ZAr ?_⟩);rw[he];exact hQ _ hit' (ZBq ..)
theorem Zrt{Q:Option Value->Shared->Prop}(hh:A.handled=Z_)(hit:s.heap.IsKeyIter it d i es.size ep)(hm:Zfx s.heap d es ep)(hx:es.size<=i)
  (hQ:∀h',Heap.ExtBut it s.heap h'->Q Z_ { s with heap:=h' }):wpAny (model prog w) A (pyNext (.ref it)) Q E s:=by
 obtain⟨o,ho,hc,hd⟩:=id hit;obtain⟨od,hod,hcd,hdd⟩:=id hm;unfold pyNext;refine ZAm (ZEk (wpAny_callSpecial?_slot (name:=ZAQ "__next__") hit.typeIs F.slot_dict_keyiterator_next
  (ZBB F.slot_dict_keyiterator_next hit.typeIs F.entry_dict_keyiterator_next ?_ (F.args_dict_keyiterator_next_1 _))))
 refine ZAm (ZAr (ZAm (ZAm ?_)))
 first | refine ZAm (ZCt hit.typeIs (ZAr ?_)) | refine ZAm (ZCR hit.typeIs (ZAr ?_))
 refine ZAm (ZEa ho hd ?_);have hown:ZEb "dict_keyiterator" = ZFu:=by decide
 simp only[hown,ZCi,if_false];show wpAny _ _ (if(ZBh d==ZBp)=ZFt then _ else _) _ _ s;rw[if_neg (show ¬((ZBh d==ZBp)=ZFt) from ZBd)];refine ZAm (ZAr (ZAm (ZDD hod hdd ?_)));rw[if_neg (by simp)];refine ZAm (ZAr (ZAm (ZET hod hdd ?_)));rw[if_neg (by simp)];refine ZAr ?_;simp only[show ¬((i:Int)<0) from by omega,if_false,ZBx,ZDK hx];refine ZAm ?_
 first | refine ZAm (ZCt hit.typeIs (ZAr ?_)) | refine ZAm (ZCR hit.typeIs (ZAr ?_))
 show wpAny _ _ (setField (.ref it) 0 .none >>= _) _ _ s;refine ZAm (ZCM ho hd (by simp) ?_);show wpAny _ _ (newExc (.type "StopIteration") [] >>= _) _ _ _;refine ZAm ?_;simp only[newExc,newTuple];refine ZAm (ZBn ?_ (by size_fits));refine ZAm (m:=ZC6 _ _) (ZEc (a:=ZBp) (by first | rfl | (simp only[ZC6]; rfl)) ?_)
 refine ZBn ?_ (by size_fits);simp only[raiseNew];refine ZAm (wpAny_handled ?_);rw[show A.in1.handled=Z_ from hh];refine ZAm (ZAr (wpAny_throw ?_));refine ZAm (ZEF (T:="StopIteration") (b:=ZFt) ⟨_,ZAH _ rfl,rfl⟩ isSubtype_stop ?_);exact ZAr (hQ _ (((ZBq ..).extBut.push _).push _))
theorem ZtT(hh:A.handled=Z_)(I d:Addr)(hne:d≠I)(es:Array DictEntry)(ep:Nat) :
  Walks prog w A I [I,d] [I] es.size (λi v=>∃e,es[i]?=Z e/\v=e.key) (λi h=>h.IsKeyIter I d i es.size ep/\Zfx h d es ep) where
 sub:=λb hb=>by simp at hb; simp[hb]
 frame:=λ_ _ _ st hk=>⟨st.1.at λo e=>hk I (by simp) o e,st.2.at' λo e=>hk d (by simp) o e⟩
 item:=λi s Q E hi st hQ=>by have hx:es[i]?=Z es[i]:=ZCK hi;refine Zo1 st.1 st.2 hx λh' hit' hs'=>?_;exact hQ _ h' s.toks ⟨_,hx,rfl⟩ ⟨hit',st.2.at' λo e=>hs'.extBut d o hne e⟩ λb o hb e=>hs'.extBut b o (λh=>hb (by simp[h])) e
 done:=λs Q E st hQ=>Zrt hh st.1 st.2 (ZAz _) λh' he'=>hQ h' s.toks λb o hb e=>he' b o (λh=>hb (by simp[h])) e
 self:=λ_ _ _ _ st hQ=>wpAny_pyIter_keyiter st.1 hQ
end
end HP
namespace HP
open PySem PySem.Spec PySem.W PySem.Calls PyProof.Rows L2
variable{a r:Addr}{es:Array (Int × Value)}{h:Heap}
variable[FX]
section
variable{prog:Program}{w:World}{A:Around}{E:Value->Shared->Prop}{s:Shared}
theorem Zvs{Q:Bool->Shared->Prop}(hT:s.TypeIs (.ref r) "set")(h:Q ZFu s):wpAny (model prog w) A (ZEf (.ref r)) Q E s:=by
 unfold ZEf;refine ZAm (wpAny_specialOf hT PySem.F.slot_set_len.lookup ?_);generalize hid:("set.__len__":String)=id0
 wp_delta
 rw[show splitId id0=Z ("set","__len__") from by subst hid; decide +kernel];subst hid;refine ZAm (ZEF (T:="set") (b:=ZFt) hT (by rw[isSubtype_type]; kernel_rfl) ?_);refine ZCC (λq=>absurd q (by decide)) λ_=>?_;refine ZCC (λ_=>?_) (λq=>absurd (by decide +kernel) q);exact ZAm (wpAny_typeOf hT (ZAr h))
theorem ZwV{d:Addr}{es:Array DictEntry}{ep:Nat}(lo:(d==ZBY)=ZFu):KdlSrc prog w "dict" d d es.size (λi v=>∃e,es[i]?=Z e/\v=e.key) (λh=>Zfx h d es ep) where
 type:=λ_ hm=>hm.typeIs
 there:=λ_ hm=>⟨hm.lt,hm.lt⟩
 keep:=λ_ _ hm hk=>hm.at' λo e=>hk d (.inl rfl) o e
 notList:=by decide
 notTuple:=by decide
 hint:=λ_ _ _ _ hm hq=>kdl_hint_dict hm.typeIs hq
 iter:=λ_ _ hh hm=>⟨_,_,(λ_ _ hq=>Zp5 lo hm hq),ZtT hh _ d (ZAK hm.lt) es ep,⟨⟨_,ZAH _ rfl,rfl,rfl⟩,hm.at' λo e=>ZAs _ e⟩⟩
theorem Zfb.typeIs{ep:Nat}{t:SetTable}(x:Zfb w s.heap a es ep t):s.TypeIs (.ref a) "set":=let ⟨o,ho,hc,_⟩:=x.obj; ⟨o,ho,hc.1⟩
theorem Zfb.lt{ep:Nat}{t:SetTable}(x:Zfb w h a es ep t):a<h.objs.size:=let ⟨o,ho,_⟩:=x.obj; ZAG ho
theorem ZwF{ep:Nat}{t:SetTable}:KdlSrc prog w "set" a a es.size (λi v=>∃e,(ZeA w a es ep)[i]?=Z e/\v=e.2) (λh=>Zfb w h a es ep t) where
 type:=λ_ hm=>hm.typeIs
 there:=λ_ hm=>⟨hm.lt,hm.lt⟩
 keep:=λ_ _ hm hk=>hm.at' λo e=>hk a (.inl rfl) o e
 notList:=by decide
 notTuple:=by decide
 hint:=λ_ _ _ _ hm hq=>Zvs hm.typeIs hq
 iter:=λ_ _ hh hm=>⟨_,_,(λ_ _ hq=>ZuK hm hq),Zto hh _ a (ZAK hm.lt) es ep t,⟨0,⟨_,ZAH _ rfl,rfl,rfl⟩,hm.at' λo e=>ZAs _ e,λ_=>Zr5 hm.tab.rise⟩⟩
theorem ZhX{T:String}{d:Addr}{n:Nat}{P:Nat->Value->Prop}{OK:Heap->Prop}{R:List Value->Shared->Prop}(K:KdlSrc prog w T r d n P OK)(hh:A.handled=Z_)(hok:OK s.heap)(hn:n<=sizeLine)
  (h:∀(h':Heap) (tk:Nat) (acc:Array Value),(∀b o,s.heap.get? b=Z o->h'.get? b=Z o)->s.heap.objs.size<h'.objs.size->ItemsOf P acc n->R acc.toList { s with heap:=h',toks:=tk }) :
  wpAny (model prog w) A (collect (.ref r)) R E s:=by
 have hlt:=K.there _ hok;unfold collect;refine ZAm (wpAny_runValue (ZBP entry_proto_collect' ?_));rw[ZBz ZEg _];show wpAny _ A.in1 (newList [] >>= λl=>again (.builtin "list.__iadd__" ⟨[l,.ref r],[]⟩)) _ _ s;refine ZAm (ZBn (ZAr ⟨ZCG ZCW _,ZBP entry_list_iadd' ?_⟩));rw[ZBz ZCW _];have hS₁:(s.heap.push { cls:=.type "list",data:=.seq ([]:List Value).toArray }).get? s.heap.objs.size=Z { cls:=.type "list",data:=.seq #[] }:=ZAH _ rfl;show wpAny _ A.in1 (ZEh (.ref s.heap.objs.size) (.ref r) (.ref s.heap.objs.size)) _ _ _;refine ZBM (kdl_extend (A:=A) (s:={ s with heap:=s.heap.push { cls:=.type "list",data:=.seq ([]:List Value).toArray } })
  (R:=λ(q:Result) (s':Shared)=>∃(h':Heap) (tk:Nat) (acc':Array Value) (c':Nat),q=.ok (.ret (.ref s.heap.objs.size))/\s'={ s with heap:=h',toks:=tk } /\
   (∀b o,s.heap.get? b=Z o->h'.get? b=Z o)/\h'.get? s.heap.objs.size=Z { cls:=.type "list",dict:=Z_,data:=.seq acc' c',slots:=#[] }/\ItemsOf P acc' n)
  K hh (K.keep _ _ hok λb _ o e=>ZAs _ e) s.heap.objs.size (ZDm hlt.1) (ZDm hlt.2) (.ref s.heap.objs.size) 0 hS₁
  (λh' tk acc' c' hk hS' hacc=>⟨h',tk,acc',c',rfl,rfl,λb o e=>hk b o (ZAK (ZAG e)) (ZAs _ e),hS',hacc⟩) hn) (λfin s' x=>?_) λe s' x=>?_
 ·have go:∀(h':Heap) (tk:Nat) (acc':Array Value) (c':Nat),(∀b o,s.heap.get? b=Z o->h'.get? b=Z o)->h'.get? s.heap.objs.size=Z { cls:=.type "list",dict:=Z_,data:=.seq acc' c',slots:=#[] }->ItemsOf P acc' n ->
    wpAny (model prog w) A (load s.heap.objs.size >>= λo=>match o.data with | .seq xs _=>pure xs.toList | _=>unsupported "internal:collect") R E { s with heap:=h',toks:=tk }:=λh' tk acc' c' hk hS' hacc =>
   ZAm (wpAny_load hS' (ZAr (h h' tk acc' hk (ZAG hS') hacc)))
  cases fin with
  | done f=>obtain⟨h',tk,acc',c',e,rfl,hk,hS',hacc⟩:=x;cases e;exact go h' tk acc' c' hk hS' hacc
  | again c₁=>refine⟨x.1,ZCk x.2 λq s₂ y=>?_⟩;obtain⟨h',tk,acc',c',rfl,rfl,hk,hS',hacc⟩:=y;exact go h' tk acc' c' hk hS' hacc
 ·obtain⟨_,_,_,_,e',_⟩:=x
  cases e'
end
inductive ZjZ(K:ZAo)(F H:Hp)(p:Addr):List PyData->Prop where
 | lst {ds:List PyData} {vs:List V} (h:SqL K H p vs) (r:Zv K F ds vs):ZjZ K F H p ds
 | tup {ds:List PyData} {vs:List V} (h:SqT K H p vs) (r:Zv K F ds vs):ZjZ K F H p ds
 | dk {kvs:List (Key × V)} (h:H p=Z (.dK kvs)):ZjZ K F H p (kvs.map λq=>HM.ZaV q.1)
 | dt {kvs:List (List Key × V)} (h:H p=Z (.dT kvs)):ZjZ K F H p (kvs.map λq=>.tuple (q.1.map HM.ZaV))
theorem ZwO{K:ZAo}{F:Hp}(k:Key):Rep K F (HM.ZaV k) (kV k):=by
 cases k with
 | inl i=>exact .int i
 | inr x=>exact .str x
theorem Zht{K:ZAo}{F:Hp}:∀(ks:List Key),Zv K F (ks.map HM.ZaV) (ks.map kV)
 | []=>.nil
 | k::ks=>.cons (ZwO k) (Zht ks)
theorem ZwD{P:Program}{w:World}{k:Key}{u:Value}(h:(ZaB P w).is k u=ZFt):RelV (kV k) u:=by
 rw[Zss]at h;rcases Zbk h with⟨i,t,rfl,rfl⟩ | ⟨x,t,rfl,rfl⟩
 ·exact⟨t,rfl⟩
 ·exact⟨t,rfl⟩
section
variable{X:Cx}{pins:List (Addr × Obj)}{σ:L2.St}{H F:Hp}{s:Shared}{p:Addr}{ds:List PyData}
theorem Zim:∀{vs:List V} {us:List Value},vs.length=us.length->(∀(i:Nat) v u,vs[i]?=Z v->us[i]?=Z u->RelV v u)->Vals vs us
 | [],[],_,_=>.nil
 | [],_::_,h,_=>by simp at h
 | _::_,[],h,_=>by simp at h
 | v::vs,u::us,h,k=>.cons (k 0 v u rfl rfl) (Zim (by simpa using h) λi a b e1 e2=>k (i+1) a b (by simpa using e1) (by simpa using e2))
theorem ZjZ.gath(I:Inv X pins σ H s)(sub:Zs F H)(h:ZjZ X.K F H p ds):∃vs,Zv X.K (ZbW F H) ds vs/\∀(A:Around) (E:Value->Shared->Prop) (R:List Value->Shared->Prop),A.handled=Z_ ->
  (∀us h' tk,Vals vs us->(∀b o,s.heap.get? b=Z o->h'.get? b=Z o)->R us { s with heap:=h',toks:=tk })->wpAny (model X.prog X.w) A (collect (.ref p)) R E s:=by
 cases h with
 | @lst _ vs h r=>obtain⟨its,rv,pl,hz⟩:=I.list h;obtain⟨o,ho,hcl,n,hd⟩:=pl.isList;refine⟨vs,r.mono (ZcN sub),λA E R _ k=>wpAny_collect_seq p (.inl rfl) ho hcl hd (λh' kp=>?_) (by rw[ZAJ,<-rv.length]; exact hz)⟩;exact k its h' s.toks rv kp
 | @tup _ vs h r=>obtain⟨its,rv,pl,hz⟩:=I.tuple h;obtain⟨o,ho,hcl,n,hd⟩:=pl;refine⟨vs,r.mono (ZcN sub),λA E R _ k=>wpAny_collect_seq p (.inr rfl) ho hcl hd (λh' kp=>?_) (by rw[ZAJ,<-rv.length]; exact hz)⟩;exact k its h' s.toks rv kp
 | @dk kvs h =>
  obtain⟨z,lo,vs,rel,dd⟩:=Zr7 I.hok h;obtain⟨ep,hat⟩:=dd.dictAt;have hl:kvs.length=vs.length:=ZCX rel;refine⟨kvs.map λq=>kV q.1,?_,λA E R hh k=>ZhX (kdl_dict (knd:=ZaB X.prog X.w) (kvs:=vs) (ep:=ep) lo) hh hat (by omega) λh' tk acc kp hsz hacc=>k _ h' tk ?_ kp⟩
  ·have:=Zht (K:=X.K) (F:=ZbW F H) (kvs.map (·.1))
   rw[ZAI,ZAI]at this;exact this
  ·refine Zim (by have q:acc.toList.length=acc.size:=ZAM; rw[ZAl,q,hacc.1,hl]) λi v u e1 e2=>?_
   obtain⟨kk,x,q1,q2⟩:=hacc.2 i u (by rw[<-ZBo]; exact e2);rw[ZAO]at e1;obtain⟨q,e3,e4⟩:=ZAn.mp e1;subst e4;have key:∀{l:List (Key × V)} {m:List (Key × Value)},KV l m->∀(i:Nat) a b,l[i]?=Z a->m[i]?=Z b->a.1=b.1:=by
    intro l m r
    induction r with
    | nil=>intro i a b e; simp at e
    | cons hq _ ih =>
     intro i a b e1 e2;cases i with
     | zero=>simp at e1 e2; subst e1; subst e2; exact hq.1
     | succ i=>exact ih i a b (by simpa using e1) (by simpa using e2)
   have ek:=key rel i q (kk,x) e3 q1;rw[ek];exact ZwD q2
 | @dt kvs h =>
  obtain⟨z,lo,xs,rel,o,es,ep,h1,h2,h3,h4,h5⟩:=(show Zai X.prog X.w H s.heap p (.dT kvs) from I.hok p _ h);have hl:kvs.length=xs.length:=ZCX rel;have hes:es.size=xs.length:=by rw[<-ZAM,h4,ZAl]
  have hm:Zfx s.heap p es ep:=⟨o,h1,h2,h3⟩;refine⟨xs.map λq=>V.ref q.2.1,?_,λA E R hh k=>ZhX (ZwV (es:=es) (ep:=ep) lo) hh hm (by omega) λh' tk acc kp hsz hacc=>k _ h' tk ?_ kp⟩
  ·clear h4 hes hl z h h5
   induction rel with
   | nil=>exact .nil
   | @cons p0 _ _ _ hq _ ih=>obtain⟨q1,q2,_⟩:=hq;rw[ZAt,ZAt];refine .cons ?_ ih;have rk:=Zht (K:=X.K) (F:=ZbW F H) p0.1;exact .tup (Zlj q2) rk.1 rk.2
  ·refine Zim (by have q:acc.toList.length=acc.size:=ZAM; rw[ZAl,q,hacc.1,hes]) λi v u e1 e2=>?_
   obtain⟨e,q1,q2⟩:=hacc.2 i u (by rw[<-ZBo]; exact e2);subst q2;rw[ZAO]at e1;obtain⟨q,e3,e4⟩:=ZAn.mp e1;subst e4;rw[<-ZBo,h4,ZAO,e3]at q1;cases q1;rfl
theorem Zcs{K:ZAo}{F:Hp}:∀{ds:List PyData} {vs:List V} {ns:List Int},HM.Zax ds=Z ns->Zv K F ds vs->vs=ns.map V.int
 | [],vs,ns,h,r=>by cases h;exact r.nil_inv
 | d::ds,vs,ns,h,r=>by
  obtain⟨v,us,rfl,r1,r2⟩:=r.cons_inv;cases d with
  | int b=>obtain⟨bs',h1,h2⟩:=ZAn.mp h;subst h2;rw[r1.int_inv,Zcs h1 r2];rfl
  | none=>cases h
  | bool _=>cases h
  | str _=>cases h
  | list _=>cases h
  | tuple _=>cases h
  | dict _=>cases h
theorem Zrr:∀(t:List Int),HM.Zax (HM.ofInts t)=Z t
 | []=>rfl
 | x::t=>by show(HM.Zax (HM.ofInts t)).map (x::·)=_;rw[Zrr t];rfl
theorem ZpQ:∀{ds:List PyData} {ns:List Int},HM.Zax ds=Z ns->ds=HM.ofInts ns
 | [],ns,h=>by cases h; rfl
 | d::ds,ns,h=>by
  cases d with
  | int b=>obtain⟨bs',h1,h2⟩:=ZAn.mp h;subst h2;rw[ZpQ h1];rfl
  | none=>cases h
  | bool _=>cases h
  | str _=>cases h
  | list _=>cases h
  | tuple _=>cases h
  | dict _=>cases h
theorem Zf2{K:ZAo}{F:Hp}:∀(ns:List Int),Zv K F (HM.ofInts ns) (ns.map V.int)
 | []=>.nil
 | n::ns=>.cons (.int n) (Zf2 ns)
theorem ZdT:∀{ns:List Int} {us:List Value},Vals (ns.map V.int) us->IntsAre us ns
 | [],_,r=>by rw[ZCl]at r; cases r; exact .nil
 | n::ns,_,r=>by
  rw[ZAt]at r;cases r with
  | cons h t=>obtain⟨u,rfl⟩:=h; exact .cons n u (ZdT t)
theorem ZiI:∀{us:List Value} {ns:List Int},IntsAre us ns->Vals (ns.map V.int) us
 | _,_,.nil=>.nil
 | _,_,.cons n t h=>.cons ⟨t,rfl⟩ (ZiI h)
theorem Zpi:∀{ds:List PyData} {ts:List (List Int)},HM.Zko ds=Z ts->ds=HM.Zf5 ts
 | [],ts,h=>by cases h; rfl
 | d::ds,ts,h=>by
  cases d with
  | tuple es =>
   unfold HM.Zko at h;split at h
   ·rename_i ns hn
    obtain⟨r',h1,h2⟩:=ZAn.mp h;subst h2;rw[ZpQ hn,Zpi h1];rfl
   ·cases h
  | none=>cases h
  | bool _=>cases h
  | int _=>cases h
  | str _=>cases h
  | list _=>cases h
  | dict _=>cases h
theorem ZoW{ns ms:List Int}(h:ms.Perm ns)(hs:ms.Pairwise (·<=·)):ms=HM.sortI ns:=by refine ZiT (R:=(·<=·)) (λa b h1 h2=>by omega) (h.trans (ZDi ns _).symm) hs ?_;have:=ZDC (le:=λa b:Int=>decide (a<=b)) (λa b c h1 h2=>by simp at *; omega) (λa b=>by simp; omega) ns;exact this.imp λh=>by simpa using h
theorem ZuD{ts us:List (List Int)}(h:us.Perm ts)(hs:us.Pairwise (λx y=>HM.lexLt y x=ZFu)):us=HM.Zem ts:=by
 refine ZiT (R:=λx y=>HM.lexLt y x=ZFu) (λa b h1 h2=>Zj4 a b h2 h1) (h.trans (ZDi ts _).symm) hs ?_;have:=ZDC (le:=λa b:List Int=>!HM.lexLt b a) (λa b c h1 h2=>by
  simp only[Bool.not_eq_true']at *;cases q:HM.lexLt c a with
  | false=>rfl
  | true =>
   rcases ZmY c b a q with z | z
   ·rw[h2]at z; cases z
   ·rw[h1]at z; cases z) (λa b=>by
  cases q:HM.lexLt b a with
  | false=>simp
  | true =>
   cases q2:HM.lexLt a b with
   | false=>simp
   | true=>have:=lex_trans _ _ _ q q2; rw[lex_irrefl]at this; cases this) ts
 exact this.imp λh=>by simpa using h
theorem ZkS{vs:List Value}{out:Array Value}{b:Addr}{o:Obj}(hb:b≠a)(e:h.get? b=Z o):(sortedHeap h a vs out).get? b=Z o:=by rw[sortedHeap_old hb (ZAG e)]; exact e
theorem Zpa(hc:X.calm=ZFt):Za8 X (.builtin "sorted") (λxs H Q=>∃p F ds ds',xs=[.ref p]/\Zs F H/\ZjZ X.K F H p ds/\HM.ZfT ds=Z ds'/\∀l ws,H l=Z_->Zv X.K (ZbW F H) ds' ws->Q (.ref l) (upd H l (.lst ws))):=by
 intro pins s σ H xs us Q I r h;obtain⟨p,F,ds,ds',rfl,sub,hsrc,hsort,q⟩:=h;obtain⟨u,rfl,rx⟩:=vals1 r;cases rx;obtain⟨vs,rv,go⟩:=hsrc.gath I sub;unfold HM.ZfT at hsort;split at hsort
 ·rename_i h64
  have hvl:=rv.1;refine ZEz kind_sorted plain_sorted entry_sorted (args_sorted1 _) ?_;unfold Builtin.«sorted»;refine ZAm (m:=checkCount "sorted" 1 1 _) (ZAr ?_);refine ZAm (go _ _ _ (I.ok.hd hc) λus h' tk ru kp=>?_);have hul:=ru.length;refine ZAm (wpAny_newList ?_ (by rw[ZBR]; omega));have hoL:(h'.push (seqObj "list" us.toArray 0)).get? h'.objs.size=Z (seqObj "list" us.toArray 0):=ZAH _ rfl;have fin:∀(out:Array Value) (ws:List V),Vals ws out.toList->Zv X.K (ZbW F H) ds' ws->ws.length<64->EP X pins σ Q (.ref h'.objs.size) { s with heap:=sortedHeap (h'.push (seqObj "list" us.toArray 0)) h'.objs.size us out,toks:=tk }:=λout ws rw' rd hw=>by obtain⟨e,he⟩:=sortedHeap_at (out:=out) hoL;have I1:Inv X pins σ H { s with heap:=h',toks:=tk }:=I.kept kp;refine⟨.ref h'.objs.size,_,I1.laid (a:=h'.objs.size) (o:=.lst ws) (t':=tk) (λb o e1=>?_) (ZAz _) ⟨by rw[ZBR]; omega,out.toList,e,rw',by simpa using he⟩,rfl,q _ ws (I1.hok.fresh (ZAz _)) rd⟩;exact ZkS (ZAK (ZAG e1)) (ZAs _ e1)
  show wpAny _ _ _ _ _ { s with heap:=h'.push (seqObj "list" us.toArray 0),toks:=tk };split at hsort
  ·rename_i ns hns
   cases hsort;have evs:=Zcs hns rv;rw[evs]at ru;have hI:=ZdT ru;refine ZAm (ZBG (ZBB slot_list_sort ⟨_,hoL,rfl⟩ ZEU (list_sort_tree hoL hI (by omega) λout ns' a1 a2 a3=>⟨_,rfl,?_⟩) (args_list_sort _)));refine ZAr ⟨_,rfl,?_⟩;have e:=ZoW a2 a3;have hl:ns'.length<64:=by rw[a2.length_eq,<-hI.length,<-hul]; omega
   refine fin out (ns'.map V.int) (ZiI a1) ?_ (by rw[ZAl]; exact hl);rw[<-e];exact Zf2 ns'
  ·split at hsort
   ·rename_i ts hts
    split at hsort
    ·rename_i hne
     cases hsort;have eds:=Zpi hts;have hT:∀(i:Nat) t,ts[i]?=Z t->∃b,us[i]?=Z (.ref b)/\TI (h'.push (seqObj "list" us.toArray 0)) b t:=λi t e=>by
      have ed:ds[i]?=Z (.tuple (HM.ofInts t)):=by rw[eds]; unfold HM.Zf5; rw[ZAO,e]; rfl
      obtain⟨v,hv,rp⟩:=rv.get ed;generalize hq:HM.ofInts t=q at rp;cases rp with
      | @tupk b x h1 =>
       exfalso;cases t with
       | nil=>cases hq
       | cons a t =>
        injection hq with e1 _
        cases e1
      | @tup b _ xs hb hl hr=>subst hq;obtain⟨u,hu,ru'⟩:=ru.get hv;cases ru';have ev:=Zcs (F:=ZbW F H) (Zrr t) ⟨hl,hr⟩;subst ev;have hH:H b=Z (.tup (t.map V.int)):=(Ext.refl sub).tups.sub _ _ hb;obtain⟨z,its,rt,o,h1,h2,n,h3⟩:=(show Zai X.prog X.w H s.heap b (.tup (t.map V.int)) from I.hok b _ hH);exact⟨b,hu,o,its.toArray,n,ZAs _ (kp b o h1),h2,h3,by simpa using ZdT rt⟩
     have hlt:ts.length=us.length:=by have:=congrArg ZA8 eds;unfold HM.Zf5 at this;rw[ZAl]at this;omega
     refine ZAm (ZBG (ZBB slot_list_sort ⟨_,hoL,rfl⟩ ZEU (ZuG hoL hlt hT ?_ (by omega) λpm hp hs=>⟨_,rfl,?_⟩) (args_list_sort _)))
     ·rw[ZCY]at hne
      rcases hne with z | z
      ·left
       have:=of_decide_eq_true z;omega
      ·right
       intro t ht e;have:=ZAF.mp z t ht;rw[e]at this;cases this
     ·refine ZAr ⟨_,rfl,?_⟩
      have hpl:pm.length=us.length:=by rw[hp.length_eq,ZBg]
      have hmem:∀i∈pm,i<us.length:=λi hi=>ZA5.mp (hp.mem_iff.mp hi);have e:(pm.map λi=>ts.getD i [])=HM.Zem ts:=by
       refine ZuD ?_ hs;refine(hp.map _).trans ?_;have:(ZAw us.length).map (λi=>ts.getD i [])=ts:=by refine List.ext_getElem (by simp[hlt]) λi h1 h2=>?_;simp at h1;simp[ZBW,show i<ts.length by omega]
       rw[this]
      refine fin _ (pm.map λi=>vs.getD i V.non) ?_ ?_ (by rw[ZAl]; omega)
      ·refine Zim (by simp) λk v u e1 e2=>?_
       rw[ZAO]at e1;rw[List.toList_toArray,ZAO]at e2;obtain⟨i,hi,rfl⟩:=ZAn.mp e1;rw[hi]at e2;cases e2;have hlt':=hmem i (ZAR hi);have hv:vs[i]?=Z (vs.getD i V.non):=by simp[ZBW,show i<vs.length by omega]
       obtain⟨u,hu,ru'⟩:=ru.get hv;have:us.getD i ZBp=u:=by simp[ZBW,hu]
       show RelV _ (us.getD i ZBp);rw[this];exact ru'
      ·rw[<-e]
       refine⟨by unfold HM.Zf5; simp,λk d v e1 e2=>?_⟩;unfold HM.Zf5 at e1;rw[ZAO,ZAO]at e1;rw[ZAO]at e2;obtain⟨i,hi,rfl⟩:=ZAn.mp e2;rw[hi]at e1;have hlt':=hmem i (ZAR hi);have hd:ds[i]?=Z d:=by
        rw[eds]; unfold HM.Zf5;rw[ZAO];have:ts[i]?=Z (ts.getD i []):=by simp[ZBW,show i<ts.length by omega]
        rw[this];exact e1
       have hv:vs[i]?=Z (vs.getD i V.non):=by simp[ZBW,show i<vs.length by omega]
       exact rv.2 i d _ hd hv
    ·cases hsort
   ·cases hsort
 ·cases hsort
end
end HP
namespace HP
open PySem PySem.Spec PySem.W PySem.Calls PyProof.Rows L2
variable{F:Hp}{p' pos':Pos}{K:ZAo}
variable[FX]
section
variable{prog:Program}{w:World}{A:Around}{E:Value->Shared->Prop}{s:Shared}
theorem ZnW{r:Addr}{a b c:Int}{t u v:Tok}{n:Nat}{R:List Value->Shared->Prop}(hh:A.handled=Z_)(hr:IsRange s.heap r a b c t u v)(hsmall:ZFk a b c=ZFt)(hn:ZCT a b c=n)(hlen:n<=2 ^ 24)
  (h:∀(h':Heap) (tk:Nat) (acc:Array Value),(∀b o,s.heap.get? b=Z o->h'.get? b=Z o)->ItemsOf (λi v=>∃t,v=.int (a+i*c) t) acc n->R acc.toList { s with heap:=h',toks:=tk }) :
  wpAny (model prog w) A (collect (.ref r)) R E s:=by
 unfold collect;refine ZAm (wpAny_runValue (ZBP entry_proto_collect' ?_));rw[ZBz ZEg _];show wpAny _ A.in1 (newList [] >>= λl=>again (.builtin "list.__iadd__" ⟨[l,.ref r],[]⟩)) _ _ s;refine ZAm (ZBn (ZAr ⟨ZCG ZCW _,ZBP entry_list_iadd' ?_⟩));rw[ZBz ZCW _];have hS₁:(s.heap.push { cls:=.type "list",data:=.seq ([]:List Value).toArray }).get? s.heap.objs.size=Z { cls:=.type "list",data:=.seq #[] }:=ZAH _ rfl;show wpAny _ A.in1 (ZEh (.ref s.heap.objs.size) (.ref r) (.ref s.heap.objs.size)) _ _ _;have hr1:IsRange (s.heap.push { cls:=.type "list",data:=.seq ([]:List Value).toArray }) r a b c t u v:=ZAs _ hr;refine ZBM (wpAny_extend_range (A:=A) (s:={ s with heap:=s.heap.push { cls:=.type "list",data:=.seq ([]:List Value).toArray } })
  (R:=λ(q:Result) (s':Shared)=>∃(h':Heap) (tk:Nat) (acc':Array Value) (c':Nat),q=.ok (.ret (.ref s.heap.objs.size))/\s'={ s with heap:=h',toks:=tk } /\
   (∀b o,s.heap.get? b=Z o->h'.get? b=Z o)/\h'.get? s.heap.objs.size=Z { cls:=.type "list",dict:=Z_,data:=.seq acc' c',slots:=#[] }/\ItemsOf (λi v=>∃t,v=.int (a+i*c) t) acc' n)
  hh hr1 hsmall hn hlen s.heap.objs.size (.ref s.heap.objs.size) 0 hS₁
  (λh' tk acc' c' hk hS' hacc=>⟨h',tk,acc',c',rfl,rfl,λb o e=>hk b o (ZAK (ZAG e)) (ZAs _ e),hS',hacc⟩)) (λfin s' x=>?_) λe s' x=>?_
 ·have go:∀(h':Heap) (tk:Nat) (acc':Array Value) (c':Nat),(∀b o,s.heap.get? b=Z o->h'.get? b=Z o)->h'.get? s.heap.objs.size=Z { cls:=.type "list",dict:=Z_,data:=.seq acc' c',slots:=#[] }->ItemsOf (λi v=>∃t,v=.int (a+i*c) t) acc' n ->
    wpAny (model prog w) A (load s.heap.objs.size >>= λo=>match o.data with | .seq xs _=>pure xs.toList | _=>unsupported "internal:collect") R E { s with heap:=h',toks:=tk }:=λh' tk acc' c' hk hS' hacc =>
   ZAm (wpAny_load hS' (ZAr (h h' tk acc' hk hacc)))
  cases fin with
  | done f=>obtain⟨h',tk,acc',c',e,rfl,hk,hS',hacc⟩:=x;cases e;exact go h' tk acc' c' hk hS' hacc
  | again c₁=>refine⟨x.1,ZCk x.2 λq s₂ y=>?_⟩;obtain⟨h',tk,acc',c',rfl,rfl,hk,hS',hacc⟩:=y;exact go h' tk acc' c' hk hS' hacc
 ·obtain⟨_,_,_,_,e',_⟩:=x
  cases e'
end
theorem ZkH(r:Addr)(a b c:Int)(t u v:Tok)(n:Nat)(hsmall:ZFk a b c=ZFt)(hn:ZCT a b c=n)(hlen:n<=2 ^ 24) :
  Meets (Builtin.«tuple.__new__» ⟨[.type "tuple",.ref r],[]⟩)
   (λA R s=>A.handled=Z_/\IsRange s.heap r a b c t u v/\∀(h':Heap) (tk:Nat) (acc:Array Value),(∀b o',s.heap.get? b=Z o'->h'.get? b=Z o')->ItemsOf (λi v=>∃t,v=.int (a+i*c) t) acc n ->
    R (.ok (.ret (.ref h'.objs.size))) { s with heap:=h'.push { cls:=.type "tuple",data:=.seq acc },toks:=tk }) :=
 .of_wp λprog w A R s h=>by
  obtain⟨hp,g,d,tk,os⟩:=s; obtain⟨hh,ht,h⟩:=h;have hsub:=PySem.sub_tuple_self;have hinit:=PySem.init_tuple_lookup;have hmh:=PySem.madeHere_tuple;have hT:Shared.TypeIs ⟨hp,g,d,tk,os⟩ (.ref r) "range":=⟨_,ht,rfl⟩;have hh1:A.in1.handled=Z_:=hh
  wp_walk using wpAny_typeOf hT,ZnW hh1 ht hsmall hn hlen
  intro h' tk' acc hk hacc;show wpAny _ _ (ZEG acc.toList.toArray >>= λv=>ret v) _ _ _;unfold ZEG;have e:acc.toList.toArray=acc:=by simp
  rw[e];refine ZAm (ZBn ?_ (by show acc.size<=sizeLine; rw[hacc.1,ZBR]; omega));exact ZAr ⟨_,rfl,h h' tk' acc hk hacc⟩
section
variable{X:Cx}{a b c e:Expr}{fa fb fc:HM.EF}{pos p:Pos}{f:HM.BF}
theorem ZpW:Za8 X (.type "range") (λxs H Q=>∃j,xs=[.int j]/\∀l,H l=Z_->Q (.ref l) (upd H l (.rng 0 j))):=by intro pins s σ H xs us Q I r h;obtain⟨j,rfl,q⟩:=h;obtain⟨u,rfl,rx⟩:=vals1 r;obtain⟨t,rfl⟩:=rx;refine call_range_1 ⟨.ref s.heap.objs.size,_,I.laid (a:=s.heap.objs.size) (o:=.rng 0 j) (λb o e=>ZAs _ e) (ZAz _) ?_,rfl,q _ (I.hok.fresh (ZAz _))⟩;exact⟨_,_,_,ZAH _ rfl⟩
theorem Zq4(hc:X.calm=ZFt):Za8 X (.type "tuple") (λxs H Q=>∃p lo hi,xs=[.ref p]/\H p=Z (.rng lo hi)/\-1000000<lo/\lo<1000000/\-1000000<hi/\hi<1000000 /\
  ∀l,H l=Z_->Q (.ref l) (upd H l (.tup ((ZAw (hi-lo).toNat).map λ(k:Nat)=>V.int (lo+k))))):=by
 intro pins s σ H xs us Q I r h;obtain⟨p,lo,hi,rfl,hp,h1,h2,h3,h4,q⟩:=h;obtain⟨u,rfl,rx⟩:=vals1 r;cases rx;obtain⟨t,u,v,ho⟩:=(show Zai X.prog X.w H s.heap p (.rng lo hi) from I.hok p _ hp);have hn:ZCT lo hi 1=((hi-lo).toNat:Nat):=by rw[rangeSize_one]; split<;>omega
 refine callType_new PySem.F.called_tuple (by decide) (PySem.F.typeCall_tuple_1 _) (PySem.F.newCall_tuple_1 _) (λobj=>PySem.F.args_object_init_2 obj _) PySem.F.entry_tuple_new
  (ZkH p lo hi 1 t u v (hi-lo).toNat (small_one (by omega) (by omega) (by omega) (by omega)) hn (by omega)) ⟨I.ok.hd hc,ho,λh' tk' acc kp hacc=>⟨⟨_,ZAH _ rfl,rfl⟩,?_⟩⟩
 have I1:Inv X pins σ H { s with heap:=h',toks:=tk' }:=I.kept kp;have rv:Vals ((ZAw (hi-lo).toNat).map λ(k:Nat)=>V.int (lo+k)) acc.toList:=by
  refine Zim (by have z:acc.toList.length=acc.size:=ZAM; rw[ZAl,ZBg,z,hacc.1]) λi v u e1 e2=>?_;rw[ZAO]at e1;obtain⟨k,hk,rfl⟩:=ZAn.mp e1;obtain⟨t,rfl⟩:=hacc.2 i u (by rw[<-ZBo]; exact e2);have:k=i:=by have:=ZAC.mp hk;obtain⟨_,e⟩:=this;simpa using e.symm
  subst this;exact⟨t,by simp⟩
 have I2:=I1.laid (a:=h'.objs.size) (o:=.tup ((ZAw (hi-lo).toNat).map λ(k:Nat)=>V.int (lo+k))) (h':=h'.push { cls:=.type "tuple",data:=.seq acc }) (t':=tk') (λb o e=>ZAs _ e) (ZAz _)
  ⟨by rw[ZAl,ZBg,ZBR]; omega,acc.toList,rv,by simpa using IsTup.new _ _⟩
 exact⟨.ref h'.objs.size,_,I2,rfl,q _ (I1.hok.fresh (ZAz _))⟩
theorem Zrd(lo:Int)(n:Nat):Zv K F (HM.Zc7 lo n) ((ZAw n).map λ(k:Nat)=>V.int (lo+k)):=by unfold HM.Zc7;refine⟨by simp,λi d v e1 e2=>?_⟩;rw[ZAO]at e1 e2;obtain⟨k,hk,rfl⟩:=ZAn.mp e1;rw[hk]at e2;cases e2;exact .int _
theorem Zqv(hmt:X.mg "tuple" = Z_)(hm:X.mg "range" = Z_)(hc:X.calm=ZFt)(ha:XE X a fa)(hgt:Gl X "tuple":=by rfl)(hg:Gl X "range":=by rfl)(hs:ZAD [a] X.env=[(ZFu,eval a X.env)]:=by rfl)
  (hs2:ZAD [ZFp (.Name "range" p') [a] [] pos'] X.env=[(ZFu,eval (ZFp (.Name "range" p') [a] [] pos') X.env)]:=by rfl) :
  XE X (.Call (.Name "tuple" p) [.Call (.Name "range" p') [a] [] pos'] [] pos) (HM.Zlb (HM.ZaU fa)):=by
 intro r d hd;unfold HM.Zlb at hd;split at hd
 ·rename_i ds hds
  split at hd
  ·cases hd
   unfold HM.ZaU at hds;split at hds
   ·rename_i j hj
    split at hds
    ·rename_i hok
     cases hds;obtain⟨k1,k2⟩:=ZrL hok;refine PE.imp (ZdN (Zq4 hc) hgt hmt Zlv (ZaC (ZdN ZpW hg hm boot_range (ZaC (ha r _ hj) ZbT hs) (he:=hs)) ZbT hs2) (he:=hs2)) λσ H Q ⟨F0,H0,F,at_,k⟩=>?_;refine⟨F0,H0,F,at_,λv F1 H1 x1 r1=>⟨j,by rw[r1.int_inv],λl hl=>?_⟩⟩;refine⟨l,0,j,rfl,ZI,by omega,by omega,by omega,by omega,λl2 hl2=>?_⟩;have x2:=x1.lay' (o:=.rng 0 j) hl;have x3:=x2.lay (o:=.tup ((ZAw (j-0).toNat).map λ(k:Nat)=>V.int (0+k))) hl2;have rp:=Zrd (K:=X.K) (F:=upd F1 l2 (.tup ((ZAw (j-0).toNat).map λ(k:Nat)=>V.int (0+k)))) 0 j.toNat;have ej:(j-0).toNat=j.toNat:=by omega
     refine k _ _ _ x3 (.tup ZI ?_ ?_)
     ·rw[ej]; exact rp.1
     ·rw[ej]at rp ⊢; exact rp.2
    ·cases hds
   ·cases hds
  ·cases hd
 ·cases hd
theorem Ztv{H:Hp}{q:HM.B}{v:V}{fp:List Addr}{ds:List PyData}(sub:Zs F H)(r:Zam K F H q v fp)(h:HM.ZvX q=Z ds):∃a,v=.ref a/\ZjZ K F H a ds:=by
 cases r with
 | pl r =>
  cases r with
  | tup h1 h2 h3=>cases h; exact⟨_,rfl,.tup (.of (sub _ _ h1)) ⟨h2,h3⟩⟩
  | @tupk a x h1=>cases h; exact⟨_,rfl,.tup (.inr h1) (.one (.str x))⟩
  | lst h1 h2 h3=>cases h; exact⟨_,rfl,.lst (sub.seq h1) ⟨h2,h3⟩⟩
  | dct _ _ _ _=>cases h
  | fn _=>cases h
  | non=>cases h
  | bl _=>cases h
  | int _=>cases h
  | str _=>cases h
 | ol h1 r=>cases h; exact⟨_,rfl,.lst (.of h1) r⟩
 | hd _ _ _ _=>cases h
 | hf _=>cases h
 | @ok a kvs vvs h1 h2 h3 =>
  cases h;refine⟨_,rfl,?_⟩;have e:(kvs.map λp=>HM.ZaV p.1)=vvs.map λp=>HM.ZaV p.1:=by
   have:=congrArg (ZDP HM.ZaV) h2
   rwa [ZAI,ZAI]at this
  rw[e];exact .dk h1
 | @ot a kvs vvs h1 h2 h3 =>
  cases h;refine⟨_,rfl,?_⟩;have e:(kvs.map λp=>ZAU (p.1.map HM.ZaV))=vvs.map λp=>ZAU (p.1.map HM.ZaV):=by
   have:=congrArg (ZDP λk:List Key=>ZAU (k.map HM.ZaV)) h2
   rwa [ZAI,ZAI]at this
  rw[e];exact .dt h1
 | @otl a kvs vvs ls h1 h2 h3 h4 =>
  cases h;refine⟨_,rfl,?_⟩;have e:(kvs.map λp=>ZAU (p.1.map HM.ZaV))=vvs.map λp=>ZAU (p.1.map HM.ZaV):=by
   have:=congrArg (ZDP λk:List Key=>ZAU (k.map HM.ZaV)) h2
   rwa [ZAI,ZAI]at this
  rw[e];exact .dt h1
theorem Zhe(hm:X.mg "sorted" = Z_)(hc:X.calm=ZFt)(ha:XB X a f)(hg:Gl X "sorted":=by rfl)(hs:ZAD [a] X.env=[(ZFu,eval a X.env)]:=by rfl):XF X (.Call (.Name "sorted" p) [a] [] pos) (HM.ZgC f):=by
 intro r d h;unfold HM.ZgC at h;split at h
 ·rename_i x hx
  split at h
  ·rename_i ds hds
   obtain⟨ds',h1,h2⟩:=ZAn.mp h;subst h2;refine PE.imp (Zc1 (Zpa hc) hg hm Znl (Zff ha hx hs) (he:=hs)) λσ H Q ⟨F0,H0,F,at_,k⟩=>?_;refine⟨F0,H0,F,at_,λv fp F1 H1 x1 r1=>?_⟩;obtain⟨l,e1,src⟩:=Ztv x1.sub r1 hds;subst e1;exact⟨l,F1,ds,ds',rfl,x1.sub,src,h1,λl' ws hl' rs=>ZeC (P:=λv _ H'=>Q v H') x1.tups rs hl' k⟩
  ·cases h
 ·cases h
theorem Zty(hc:X.calm=ZFt):Za8 X (.type "set") (λxs H Q=>∃p ns,xs=[.ref p]/\SqL X.K H p (ns.map V.int)/\(∀n∈ns,0<=n/\n<8)/\∀l,H l=Z_->Q (.ref l) (upd H l (.ext λh=>Zd6 X.prog X.w h l (HM.dedup [] ns)))):=by intro pins s σ H xs us Q I r h;obtain⟨p,ns,rfl,hq,hb,q⟩:=h;obtain⟨u,rfl,rx⟩:=vals1 r;cases rx;obtain⟨its,rv,pl,hz⟩:=I.list hq;refine ZtK (I.ok.hd hc) pl.isList (by simpa using ZdT rv) hb λh' tk hS kp=>?_;have hS':=hS;obtain⟨o,es,ep,t,ho,_⟩:=hS';refine⟨.ref s.heap.objs.size,_,I.laid (a:=s.heap.objs.size) (o:=.ext λh=>Zd6 X.prog X.w h s.heap.objs.size (HM.dedup [] ns)) (λb o e=>kp b o (ZAG e) e) (ZAz _) ?_,rfl,q _ (I.hok.fresh (ZAz _))⟩;exact⟨hS,⟨o,ho⟩,λh1 h2 x kk=>x.at' kk⟩
theorem Zo7(hc:X.calm=ZFt):Za8 X (.builtin "sorted") (λxs H Q=>∃p L,xs=[.ref p]/\H p=Z (.ext λh=>Zd6 X.prog X.w h p L)/\∀l,H l=Z_->Q (.ref l) (upd H l (.lst ((HM.sortI L).map V.int)))):=by
 intro pins s σ H xs us Q I r h;obtain⟨p,L,rfl,hp,q⟩:=h;obtain⟨u,rfl,rx⟩:=vals1 r;cases rx;obtain⟨hX,_,_⟩:=(show Zai X.prog X.w H s.heap p (.ext λh=>Zd6 X.prog X.w h p L) from I.hok p _ hp);obtain⟨o,es,ep,t,ho,hex,hd,hen,hpm,hpl,ht⟩:=hX;have hsz:=size_of hpl;have hfew:=ht.few;have raw:Zfb X.w s.heap p es ep t:=⟨⟨o,ho,hex,hd⟩,by rw[hsz]; exact ht.fits,hsz,ht⟩;refine ZEz kind_sorted plain_sorted entry_sorted (args_sorted1 _) ?_;unfold Builtin.«sorted»;refine ZAm (m:=checkCount "sorted" 1 1 _) (ZAr ?_);refine ZAm (ZhX (ZwF (es:=es) (ep:=ep) (t:=t)) (I.ok.hd hc) raw (by rw[ZBR]; omega) λh' tk acc kp _ hacc=>?_);have hal:acc.toList.length=es.size:=by rw[ZAM]; exact hacc.1
 have hI:IntsAre acc.toList ((ZeA X.w p es ep).toList.map Zfg):=by
  have key:∀(us:List Value) (xs:List (Int × Value)),us.length=xs.length->(∀(i:Nat) u,us[i]?=Z u->∃e,xs[i]?=Z e/\u=e.2)->(∀e∈xs,∃n t,e=((intKind X.prog X.w).hash n,ZCg n t))->IntsAre us (xs.map Zfg):=by
   intro us
   induction us with
   | nil=>intro xs hl _ _; cases xs with | nil=>exact .nil | cons _ _=>simp at hl
   | cons u us ih =>
    intro xs hl hk he;cases xs with
    | nil=>simp at hl
    | cons x xs=>obtain⟨e,e1,e2⟩:=hk 0 u rfl;simp at e1;subst e1;obtain⟨n,t,e3⟩:=he x (ZAp ..);rw[e2,e3];exact .cons n t (ih xs (by simpa using hl) (λi u e=>hk (i+1) u (by simpa using e)) λe h=>he e (ZAq _ h))
  refine key acc.toList (ZeA X.w p es ep).toList (by rw[hal,ZAM,Zj8]) (λi u e=>?_) λe h=>hen e ((Zkd X.w p es ep).mem_iff.mp h);obtain⟨e',e1,e2⟩:=hacc.2 i u (by rw[<-ZBo]; exact e);exact⟨e',by rw[ZBo]; exact e1,e2⟩
 refine ZAm (wpAny_newList ?_ (by rw[hal,ZBR]; omega));have hoL:(h'.push (seqObj "list" acc.toList.toArray 0)).get? h'.objs.size=Z (seqObj "list" acc.toList.toArray 0):=ZAH _ rfl;show wpAny _ _ _ _ _ { s with heap:=h'.push (seqObj "list" acc.toList.toArray 0),toks:=tk };refine ZAm (ZBG (ZBB slot_list_sort ⟨_,hoL,rfl⟩ ZEU (list_sort_tree hoL hI (by omega) λout ns' a1 a2 a3=>⟨_,rfl,?_⟩) (args_list_sort _)));refine ZAr ⟨_,rfl,?_⟩;have e:ns'=HM.sortI L:=ZoW (a2.trans (((Zkd X.w p es ep).map Zfg).trans hpm)) a3;have hl:ns'.length<64:=by rw[a2.length_eq,<-hI.length,hal]; omega
 obtain⟨ee,he⟩:=sortedHeap_at (out:=out) hoL;have I1:Inv X pins σ H { s with heap:=h',toks:=tk }:=I.kept kp;refine⟨.ref h'.objs.size,_,I1.laid (a:=h'.objs.size) (o:=.lst (ns'.map V.int)) (t':=tk) (λb o e1=>?_) (ZAz _) ⟨by rw[ZAl,ZBR]; omega,out.toList,ee,ZiI a1,by simpa using he⟩,rfl,?_⟩
 ·exact ZkS (ZAK (ZAG e1)) (ZAs _ e1)
 ·rw[e]; exact q _ (I1.hok.fresh (ZAz _))
theorem Zjo(hm:X.mg "sorted" = Z_)(hm2:X.mg "set" = Z_)(hc:X.calm=ZFt)(ha:XB X a f)(hg:Gl X "sorted":=by rfl)(hg2:Gl X "set":=by rfl)(hs:ZAD [a] X.env=[(ZFu,eval a X.env)]:=by rfl)
  (hs2:ZAD [ZFp (.Name "set" p') [a] [] pos'] X.env=[(ZFu,eval (ZFp (.Name "set" p') [a] [] pos') X.env)]:=by rfl) :
  XF X (.Call (.Name "sorted" p) [.Call (.Name "set" p') [a] [] pos'] [] pos) (HM.Zgx f):=by
 intro r d h;unfold HM.Zgx at h;split at h
 ·rename_i x hx
  split at h
  ·rename_i ds hds
   split at h
   ·rename_i ns hns
    split at h
    ·rename_i hlow
     cases h;refine PE.imp (Zc1 (Zo7 hc) hg hm Znl (ZaC (ZdN (Zty hc) hg2 hm2 ZxJ (Zff ha hx hs) (he:=hs)) ZbT hs2) (he:=hs2)) λσ H Q ⟨F0,H0,F,at_,k⟩=>?_;refine⟨F0,H0,F,at_,λv fp F1 H1 x1 r1=>?_⟩;obtain⟨l,vs,e1,hq,rs⟩:=ZdR x1.sub r1 hds;subst e1;rw[Zcs hns rs]at hq;refine⟨l,ns,rfl,hq,λn hn=>?_,λl2 hl2=>⟨l2,_,rfl,ZI,λl3 hl3=>?_⟩⟩
     ·have:=ZAF.mp hlow n hn
      rw[ZAW,decide_eq_true_eq,decide_eq_true_eq]at this;exact this
     ·have x2:=x1.lay' (o:=.ext λh=>Zd6 X.prog X.w h l2 (HM.dedup [] ns)) hl2
      exact ZeC (P:=λv _ H'=>Q v H') x2 (Zf2 _) hl3 k
    ·cases h
   ·cases h
  ·cases h
 ·cases h
end
end HP
namespace HP
open PySem PySem.Spec PyProof.Rows L2
variable{neg:Bool}{q:HM.B}{r:HM.Env}{i:Int}{ns:List Int}{ds:List PyData}
variable[FX]
section
variable{X:Cx}{a b:Expr}{fa:HM.EF}{f:HM.BF}{pos:Pos}
theorem Zll(i:Int):∀ns:List Int,inV (.int i) (ns.map V.int)=ns.contains i
 | []=>rfl
 | n::ns=>by have ih:=Zll i ns;unfold inV at ih ⊢;rw[ZAt,ZCd,ih,List.contains_cons];show(n==i||_)=(i==n||_);rw[show(n==i)=(i==n) from ZEV.mpr ⟨λh=>beq_iff_eq.mpr (beq_iff_eq.mp h).symm,λh=>beq_iff_eq.mpr (beq_iff_eq.mp h).symm⟩]
theorem ZjJ:∀ns:List Int,(ns.map V.int).all Zbf=ZFt
 | []=>rfl
 | n::ns=>by rw[ZAt,ZBA,ZjJ ns]; rfl
theorem Zvy{d:PyData}(h:HM.Zo5 fa f r=Z d):∃i q ds ns,fa r=Z (.int i)/\f r=Z q/\HM.ZcM q=Z ds/\HM.Zax ds=Z ns/\d=.bool (ns.contains i):=by
 unfold HM.Zo5 at h;split at h
 ·split at h
  ·split at h
   ·obtain⟨c,h1,h2⟩:=ZAn.mp h
    obtain⟨ns,h3,h4⟩:=ZAn.mp h1;exact⟨_,_,_,ns,by assumption,by assumption,by assumption,h3,by rw[<-h2,<-h4]⟩
   ·cases h
  ·cases h
 ·cases h
theorem Zra{d:PyData}(h:HM.Zic fa f r=Z d):∃i q ds ns,fa r=Z (.int i)/\f r=Z q/\HM.ZcM q=Z ds/\HM.Zax ds=Z ns/\d=.bool (!ns.contains i):=by
 unfold HM.Zic at h;split at h
 ·split at h
  ·split at h
   ·obtain⟨c,h1,h2⟩:=ZAn.mp h
    obtain⟨ns,h3,h4⟩:=ZAn.mp h1;exact⟨_,_,_,ns,by assumption,by assumption,by assumption,h3,by rw[<-h2,<-h4]⟩
   ·cases h
  ·cases h
 ·cases h
theorem Zvo(ha:XE X a fa)(hb:XB X b f)(h1:fa r=Z (.int i))(h2:f r=Z q)(h3:HM.ZcM q=Z ds)(h4:HM.Zax ds=Z ns){op:CmpOp}(ho:OpR X (ZBw op) (rIn X.K neg))(hm:ZBF op b=ZFu) :
  PE X (.Compare a [op] [b] pos) (tAt X.K r λ_ F' _ v=>v=.bl (if neg then !ns.contains i else ns.contains i)):=by
 refine PE.imp (ZrC ho (ha r _ h1) (hb r q h2) hm) λσ H Q ⟨F0,H0,F,at_,k⟩=>?_;refine⟨F0,H0,F,at_,λv F1 H1 x1 r1=>⟨F0,H0,F1,at_.grow x1,λw F2 H2 x2 ⟨fp,r2⟩=>?_⟩⟩;obtain⟨p,vs,e1,hq,rs⟩:=Zg7 x2.sub r2 h3;cases r1;rw[Zcs h4 rs]at hq;refine⟨p,_,e1,hq,rfl,ZjJ ns,k _ F2 H2 (x1.trans x2) ?_⟩;rw[Zll]
theorem ZuY(ha:XE X a fa)(hb:XB X b f)(h1:fa r=Z (.int i))(h2:f r=Z q)(h3:HM.ZcM q=Z ds)(h4:HM.Zax ds=Z ns){op:CmpOp}(ho:OpR X (ZBw op) (rIn X.K neg))(hm:ZBF op b=ZFu) :
  PT X (.Compare a [op] [b] pos) λσ H Q=>Now X.K r σ H λF0 H0 F=>∀F' H',Ext F H F' H'->Q (if neg then !ns.contains i else ns.contains i) H':=by
 refine PT.imp (ZmT ho (ha r _ h1) (hb r q h2) hm) λσ H Q ⟨F0,H0,F,at_,k⟩=>?_;refine⟨F0,H0,F,at_,λv F1 H1 x1 r1=>⟨F0,H0,F1,at_.grow x1,λw F2 H2 x2 ⟨fp,r2⟩=>?_⟩⟩;obtain⟨p,vs,e1,hq,rs⟩:=Zg7 x2.sub r2 h3;cases r1;rw[Zcs h4 rs]at hq;refine⟨p,_,e1,hq,rfl,ZjJ ns,_,rfl,?_⟩;rw[Zll];exact k F2 H2 (x1.trans x2)
theorem Zxb(ha:XE X a fa)(hb:XB X b f)(hm:ZBF .In b=ZFu:=by rfl):XE X (.Compare a [.In] [b] pos) (HM.Zo5 fa f):=by intro r d h;obtain⟨i,q,ds,ns,h1,h2,h3,h4,rfl⟩:=Zvy h;refine PE.imp (Zvo ha hb h1 h2 h3 h4 ZtB hm) λσ H Q ⟨F0,H0,F,at_,k⟩=>⟨F0,H0,F,at_,λv F' H' x e=>k v F' H' x ?_⟩;subst e;exact .bl _
theorem ZsY(ha:XE X a fa)(hb:XB X b f)(hm:ZBF .NotIn b=ZFu:=by rfl):XT X (.Compare a [.NotIn] [b] pos) (HM.tV (HM.Zic fa f)):=by intro r d h;obtain⟨i,q,ds,ns,h1,h2,h3,h4,e⟩:=Zra (Zg6 h);cases e;exact ZuY ha hb h1 h2 h3 h4 Zp4 hm
end
end HP
namespace HP
open PySem PySem.Spec PyProof.Rows L2
variable{kt:Nat}{px py:Pos}{x y:Str}
variable[FX]
section
variable{X:Cx}{c e:Expr}{fa:HM.EF}{t:HM.TF}{g:HM.SF}{pos:Pos}{body:List Stmt}
theorem Zip(n:Nat)(hxe:X.xe=λ_ _=>False)(hc:XT X c t)(hb:XSs X body g):XS X (.While c body [] pos) (HM.Zh9 n t g):=by
 intro r o ho;have ho:HM.ZaY t g n r=Z o:=ho;have pb:PSs X body (λE σ H=>∃r o,g r=Z o/\tSt X.K r o E σ H):=λpins s σ H E I ⟨r,o,h1,h2⟩=>hb r o h1 pins s σ H E I h2;have pc:PT X c (λσ H Q=>∃r b,t r=Z b/\Now X.K r σ H λF0 H0 F=>∀F' H',Ext F H F' H'->Q b H'):=λpins s σ H Q I ⟨r,b,h1,h2⟩=>hc r b h1 pins s σ H Q I h2;refine PS.imp (Zvq (Zkc hxe) pc pb) λE σ H ⟨F0,H0,F,at_,k⟩=>?_;refine⟨λm σ H=>∃F r,At X.K F0 H0 F H r σ/\HM.ZaY t g m r=Z o,⟨n,F,r,at_,ho⟩,?_⟩
 rintro m σ H ⟨F2,r2,at2,go⟩
 cases m with
 | zero=>cases go
 | succ m =>
  unfold HM.ZaY at go;split at go
  ·rename_i ht
   refine⟨r2,ZFt,ht,F0,H0,F2,at2,λF' H' x=>?_⟩;dsimp only;rw[if_pos rfl];have at3:=at2.grow x;have a4:=at3.rebase;refine⟨λσ' H'=>∃F r,At X.K F0 H0 F H' r σ'/\HM.ZaY t g m r=Z o,λσ' H' q=>⟨m,ZCP m,q⟩,?_⟩;split at go
   ·rename_i r' hr
    exact⟨_,_,hr,F',H0,F',a4,λσ' F' H' a'=>⟨F',r',a'.unbase at3.ext at3.nt0,go⟩⟩
   ·rename_i r' hr
    exact⟨_,_,hr,F',H0,F',a4,λσ' F' H' a'=>⟨F',r',a'.unbase at3.ext at3.nt0,go⟩⟩
   ·rename_i r' hr
    cases go;exact⟨_,_,hr,F',H0,F',a4,λσ' F' H' a'=>k σ' F' H' (a'.unbase at3.ext at3.nt0)⟩
   ·rename_i d hr
    cases go;exact⟨_,_,hr,F',H0,F',a4,λv F' H' x q=>k v F' H' (at3.ext.unbase x) q⟩
   ·cases go
  ·rename_i ht
   cases go;refine⟨r2,ZFu,ht,F0,H0,F2,at2,λF' H' x=>?_⟩;dsimp only;rw[if_neg (by simp)];exact k σ F' H' (at2.grow x)
  ·cases go
theorem ZwX{i j:Nat}{pt:Pos}(hc:X.calm=ZFt)(hN:X.N.Nodup)(hi:X.N[i]?=Z x)(hj:X.N[j]?=Z y)(hx:Loc X.env.scope x)(hy:Loc X.env.scope y)(hf:X.fn x=ZFt\/X.env.scope.names.lookup x=Z .local)(hg:X.fn y=ZFt\/X.env.scope.names.lookup y=Z .local)
  (h1:(ZCx [.Name x px,.Name y py] X.env).length=2:=by rfl) (h2:(ZCx [.Name x px,.Name y py] X.env).findIdx? (·.1)=Z_:=by rfl) :
  PG X (.Tuple [.Name x px,.Name y py] kt pt) (Zxq X.K 2 (ZsK (Zn6 i) (ZsK (Zn6 j) Zx6))) :=
 Zs7 hc (ZiU (ZgB hN hi hx hf) (ZiU (ZgB hN hj hy hg) Zrz)) h1 h2
theorem Zri(i j:Nat){pt:Pos}{iter:Expr}{fi:HM.IF}(hN:X.N.Nodup)(hxe:X.xe=λ_ _=>False)(hc:X.calm=ZFt)(hi:XI X (.Tuple [.Name x px,.Name y py] kt pt) iter fi)(hb:XSs X body g)(hix:X.N[i]?=Z x:=by rfl)(hjy:X.N[j]?=Z y:=by rfl)
  (hx:Loc X.env.scope x:=by first | exact ZBc rfl | exact ZAT rfl) (hy:Loc X.env.scope y:=by first | exact ZBc rfl | exact ZAT rfl) (hf:X.fn x=ZFt\/X.env.scope.names.lookup x=Z .local:=by first | exact .inl rfl | exact .inr rfl) (hf2:X.fn y=ZFt\/X.env.scope.names.lookup y=Z .local:=by first | exact .inl rfl | exact .inr rfl)
  (h1:(ZCx [.Name x px,.Name y py] X.env).length=2:=by rfl) (h2:(ZCx [.Name x px,.Name y py] X.env).findIdx? (·.1)=Z_:=by rfl)
  (hs:∀x,ZBN iter X.env x=pure x:=by intro _; rfl):XS X (.For (.Tuple [.Name x px,.Name y py] kt pt) iter body [] pos) (HM.ZiQ i j fi g):=by
 intro r o ho;unfold HM.ZiQ at ho;split at ho
 ·rename_i ds hds
  split at ho
  ·rename_i hbig
   have pb:PSs X body (λE σ H=>∃r o,g r=Z o/\tSt X.K r o E σ H):=λpins s σ H E I ⟨r,o,h1,h2⟩=>hb r o h1 pins s σ H E I h2;refine PS.imp (ZtA (Zkc hxe) hc (hi r ds hds) (ZwX hc hN hix hjy hx hy hf hf2 h1 h2) pb hs) λE σ H ⟨F0,H0,F,at_,k⟩=>?_;refine⟨F0,H0,F,at_,λJ F1 H1 x1 it=>?_⟩;refine⟨λn m σ H=>∃F r,At X.K F0 H0 F H r σ/\Zs F1 F/\n+m=ds.length/\HM.Zee i j g (ds.drop n) r=Z o,⟨ds.length,F1,r,at_.grow x1,Zs.refl _,by omega,ho⟩,?_⟩
   rintro n m σ H ⟨F2,r2,at2,s2,hn,go⟩
   obtain⟨it1,it2⟩:=it F2 H s2 at2.sub;cases m with
   | zero =>
    have e:n=ds.length:=by omega
    subst e;rw[ZEE]at go;cases go;exact .inl ⟨it2,k σ F2 H at2⟩
   | succ m =>
    have hlt:n<ds.length:=by omega
    rw[ZDj hlt]at go;obtain⟨j1,j2⟩:=it1 n ds[n] (ZAx hlt);refine .inr ⟨j1,λσ' H'=>∃F r,At X.K F0 H0 F H' r σ'/\Zs F1 F/\HM.Zee i j g (ds.drop (n+1)) r=Z o,λσ' H' ⟨F,r,a1,a2,a3⟩=>⟨m,by omega,F,r,a1,a2,by omega,a3⟩,λy H' hy=>?_⟩;obtain⟨e1,ry⟩:=j2 y H' hy;subst e1;obtain⟨F3,at3,s3,ry⟩:∃F3,At X.K F0 H0 F3 H' r2 σ/\Zs F1 F3/\Rep X.K F3 ds[n] y:=⟨_,at2.grow at2.refl.tups,s2.trans (ZcN at2.sub),ry⟩;have hsh:∃d1 d2,ds[n]=.tuple [d1,d2]:=by
     unfold HM.Zee at go;split at go
     ·cases ‹_=[]›
     ·rename_i d1 d2 q hq
      injection hq with hq _
      exact⟨d1,d2,hq⟩
     ·cases go
    obtain⟨d1,d2,hsh⟩:=hsh;rw[hsh]at ry go;obtain⟨pa,v1,v2,e7,hpa,rx1,rx2⟩:=Zpe ry;subst e7;have a3:=(at3.set (i:=i) rx1).set (i:=j) rx2;have a4:=a3.rebase;refine⟨pa,[v1,v2],rfl,.of (at3.sub _ _ hpa),rfl,v1,[v2],rfl,v2,[],rfl,rfl,?_⟩;dsimp only[HM.Zee]at go;split at go
    ·rename_i r' hr
     exact⟨_,_,hr,F3,H0,F3,a4,λσ' F' H' a'=>⟨F',r',a'.unbase at3.ext at3.nt0,s3.trans a'.ext.ff,go⟩⟩
    ·rename_i r' hr
     exact⟨_,_,hr,F3,H0,F3,a4,λσ' F' H' a'=>⟨F',r',a'.unbase at3.ext at3.nt0,s3.trans a'.ext.ff,go⟩⟩
    ·rename_i r' hr
     cases go;exact⟨_,_,hr,F3,H0,F3,a4,λσ' F' H' a'=>k σ' F' H' (a'.unbase at3.ext at3.nt0)⟩
    ·rename_i d hr
     cases go;exact⟨_,_,hr,F3,H0,F3,a4,λv F' H' x q=>k v F' H' (at3.ext.unbase x) q⟩
    ·cases go
  ·cases ho
 ·cases ho
end
end HP
namespace HP
open PySem PySem.Spec PyProof.Rows L2
variable{r:HM.Env}{ds:List PyData}{x:PyData}{u:Value}
variable[FX]
section
variable{X:Cx}{a b:Expr}{fa:HM.EF}{f:HM.BF}{pos:Pos}
theorem Ztu{e:Value->Bool}{f:PyData->Bool}:∀{ds:List PyData} {us:List Value},ds.length=us.length->(∀(i:Nat) d u,ds[i]?=Z d->us[i]?=Z u->e u=f d)->us.any e=ds.any f
 | [],[],_,_=>rfl
 | [],_::_,hl,_=>by simp at hl
 | _::_,[],hl,_=>by simp at hl
 | d::ds,u::us,hl,k=>by rw[ZCd,ZCd,k 0 d u rfl rfl,Ztu (ds:=ds) (us:=us) (by simpa using hl) λi d u e1 e2=>k (i+1) d u (by simpa using e1) (by simpa using e2)]
def Zx8(K:ZAo)(neg:Bool):R2:=λvx vy H Q=>∃F p xs x ds,Zs F H/\vy=.ref p/\(SqL K H p xs\/SqT K H p xs)/\Rep K F x vx/\Zv K F ds xs/\HM.Z2 x=ZFt/\ds.all HM.Z2=ZFt /\
 Q (.bl (if neg then !ds.any λd=>ZA6 d x else ds.any λd=>ZA6 d x)) H
open Classical in
noncomputable def ZhT (h:Heap) (x:PyData) (u:Value):Bool:=decide (∃d as,Reads h u d as/\d.canLay0=ZFt/\ZA6 d x=ZFt)
theorem Zuj{h:Heap}{d:PyData}{as:List Addr}(r:Reads h u d as)(hl:d.canLay0=ZFt):ZhT h x u=ZA6 d x:=by
 classical
 unfold ZhT;cases q:ZA6 d x with
 | true=>exact decide_eq_true ⟨d,as,r,hl,q⟩
 | false=>refine decide_eq_false λ⟨d',as',r',hl',q'⟩=>?_;rw[SeqAt.Reads.unique d d' u as as' hl r r']at q;rw[q]at q';cases q'
theorem ZpX{k:Nat}(hr:Zap k X.A){pins:List (Addr × Obj)}{s:Shared}{σ:L2.St}{H F:Hp}{vx:V}{xs:List V}{its:List Value}(I:Inv X pins σ H s)(sub:Zs F H)(rx:Rep X.K F x vx)(ru:RelV vx u)(rs:Zv X.K F ds xs)(rv:Vals xs its)(px:HM.Z2 x=ZFt)(pd:ds.all HM.Z2=ZFt) :
  (∀y∈its,SeqAt.EqAt X.A.in1 s y u (ZhT s.heap x y))/\its.any (ZhT s.heap x)=ds.any λd=>ZA6 d x:=by
 obtain⟨x1,x2⟩:=ZcY px;obtain⟨as,hx⟩:=rx.reads I sub x1 u ru;have hun:=hr.un;have each:∀(i:Nat) d y,ds[i]?=Z d->its[i]?=Z y->(∃bs,Reads s.heap y d bs)/\d.canLay0=ZFt/\d.depth<=60:=λi d y e1 e2=>by
  have hi:i<xs.length:=by rw[<-rs.1]; exact(ZAC.mp e1).1
  obtain⟨y',q1,q2⟩:=rv.get (ZAx hi);rw[e2]at q1;cases q1;have hp:=ZcY (ZAF.mp pd d (ZAR e1));exact⟨(rs.2 i d _ e1 (ZAx hi)).reads I sub hp.1 y q2,hp⟩
 have hl:ds.length=its.length:=rs.1.trans rv.length;refine⟨λy hy=>?_,Ztu hl λi d y e1 e2=>?_⟩
 ·obtain⟨i,hi,e⟩:=ZCS hy
  have hi':i<ds.length:=by omega
  obtain⟨⟨bs,q⟩,h1,h2⟩:=each i ds[i] y (ZAx hi') (by rw[ZAx hi,e]);rw[Zuj q h1];refine SeqAt.eqAt_reads _ _ _ _ _ _ _ _ q hx h1 x1 ?_;have:min (ds[i]).depth x.depth<=60:=ZBm (ZER _ _) h2;show X.A.units+1+_<_;omega
 ·obtain⟨⟨bs,q⟩,h1,_⟩:=each i d y e1 e2
  exact Zuj q h1
theorem Ztx{k:Nat}(hr:Zap k X.A):OpR X (ZBw .NotIn) (Zx8 X.K ZFt):=by
 intro pins s σ H vx vy v u Q I r1 r2 ⟨F,p,xs,x,ds,sub,e,hq,rx,rs,px,pd,q⟩;subst e;cases r2;rcases hq with hq | hq
 ·obtain⟨its,r,pl,hz⟩:=I.list hq
  obtain⟨h1,h2⟩:=ZpX hr I sub rx r1 rs r px pd;refine SeqAt.notIn_listAt (ZhT s.heap x) pl.isList (λw hw=>h1 w (by simpa using hw)) ⟨.bl _,H,I,rfl,?_⟩;rw[show its.toArray.any (ZhT s.heap x)=its.any (ZhT s.heap x) by simp,h2];exact q
 ·obtain⟨its,r,pl,hz⟩:=I.tuple hq
  obtain⟨h1,h2⟩:=ZpX hr I sub rx r1 rs r px pd;refine SeqAt.notIn_tupleAt (ZhT s.heap x) pl (λw hw=>h1 w (by simpa using hw)) ⟨.bl _,H,I,rfl,?_⟩;rw[show its.toArray.any (ZhT s.heap x)=its.any (ZhT s.heap x) by simp,h2];exact q
theorem ZvL{c:Bool}(h:HM.ZoX ds x=Z c):HM.Z2 x=ZFt/\ds.all HM.Z2=ZFt/\c=ds.any λd=>ZA6 d x:=by
 unfold HM.ZoX at h;split at h
 ·rename_i hp
  rw[ZAW]at hp;cases h;exact⟨hp.1,hp.2,rfl⟩
 ·cases h
theorem Zq0{d:PyData}(h:HM.Zil fa f r=Z d):∃x q ds,fa r=Z x/\f r=Z q/\HM.ZcM q=Z ds/\HM.Z2 x=ZFt/\ds.all HM.Z2=ZFt/\d=.bool (!ds.any λd=>ZA6 d x):=by
 unfold HM.Zil at h;split at h
 ·split at h
  ·split at h
   ·obtain⟨c,h1,h2⟩:=ZAn.mp h
    obtain⟨h3,h4,h5⟩:=ZvL h1;exact⟨_,_,_,by assumption,by assumption,by assumption,h3,h4,by rw[<-h2,<-h5]⟩
   ·cases h
  ·cases h
 ·cases h
theorem ZvH{neg:Bool}{q:HM.B}(ha:XE X a fa)(hb:XB X b f)(h1:fa r=Z x)(h2:f r=Z q)(h3:HM.ZcM q=Z ds)(p1:HM.Z2 x=ZFt)(p2:ds.all HM.Z2=ZFt){op:CmpOp}(ho:OpR X (ZBw op) (Zx8 X.K neg))(hm:ZBF op b=ZFu) :
  PT X (.Compare a [op] [b] pos) λσ H Q=>Now X.K r σ H λF0 H0 F=>∀F' H',Ext F H F' H'->Q (if neg then !ds.any λd=>ZA6 d x else ds.any λd=>ZA6 d x) H':=by
 refine PT.imp (ZmT ho (ha r _ h1) (hb r q h2) hm) λσ H Q ⟨F0,H0,F,at_,k⟩=>?_;refine⟨F0,H0,F,at_,λv F1 H1 x1 r1=>⟨F0,H0,F1,at_.grow x1,λw F2 H2 x2 ⟨fp,r2⟩=>?_⟩⟩;obtain⟨p,vs,e1,hq,rs⟩:=Zg7 x2.sub r2 h3;exact⟨F2,p,vs,x,ds,x2.sub,e1,hq,r1.mono x2.ff,rs,p1,p2,_,rfl,k F2 H2 (x1.trans x2)⟩
theorem ZsZ{k:Nat}(hr:Zap k X.A)(ha:XE X a fa)(hb:XB X b f)(hm:ZBF .NotIn b=ZFu:=by rfl):XT X (.Compare a [.NotIn] [b] pos) (HM.tV (HM.Zil fa f)):=by intro r d h;obtain⟨x,q,ds,h1,h2,h3,h4,h5,e⟩:=Zq0 (Zg6 h);cases e;exact ZvH ha hb h1 h2 h3 h4 h5 (Ztx hr) hm
end
end HP
namespace HP
open PySem PySem.Spec PyProof.Rows L2
variable{q:HM.B}{r:HM.Env}{F H:Hp}{fp:List Addr}{K:ZAo}
variable[FX]
section
variable{X:Cx}{a b c e:Expr}{fa fb fc:HM.EF}{f:HM.BF}{pos p:Pos}{es:List Expr}
theorem rdT{F':Hp}{a:Addr}{vvs:List (List Key × V)}(r:Rd F a (.dT vvs))(s:ZaQ F F'):Rd F' a (.dT vvs):=r.imp (λh=>s _ _ h) λ⟨o,h⟩=>⟨o,s _ _ h⟩
theorem Zn4{a b:Addr}{kvs:List (List Key × V)}{k:List Key}(e:Rd H a (.dT kvs))(eb:H b=Z (.tup (k.map kV))):Zcc H a (.ref b) (Za3 kvs k):=.inr ⟨kvs,k,b,e,rfl,eb,rfl⟩
theorem Zjb{v:V}{kvs:List (List Key × PyData)}(sub:Zs F H)(r:Zam K F H q v fp)(h:HM.Zlr q=Z kvs):∃l vvs,v=.ref l/\Rd H l (.dT vvs)/\ZaX K F kvs vvs:=by
 cases r with
 | pl r =>
  cases r with
  | @dct l es kvs' vvs h1 h2 h3 h4=>subst h2;have h:HM.ZfD (HM.Zh kvs')=Z kvs:=h;rw[HM.dec_enc]at h;cases h;refine⟨l,vvs,rfl,Zks h1 sub,h3,?_,h4⟩;have:=congrArg ZA8 h3;rw[ZAl,ZAl]at this;rw[ZAl,ZAl,this]
  | fn _=>cases h
  | tupk _=>cases h
  | tup _ _ _=>cases h
  | lst _ _ _=>cases h
  | non=>cases h
  | bl _=>cases h
  | int _=>cases h
  | str _=>cases h
 | ol _ _=>cases h
 | ok _ _ _=>cases h
 | @ot l kvs vvs h1 h2 h3=>cases h; exact⟨l,vvs,rfl,.inl h1,h2,h3⟩
 | @hd l o es kvs' vvs h1 h2 h3 h4=>subst h2;have h:HM.ZfD (HM.Zh kvs')=Z kvs:=h;rw[HM.dec_enc]at h;cases h;exact⟨l,vvs,rfl,.inr ⟨o,sub _ _ h1⟩,h3,h4⟩
 | hf _=>cases h
 | otl _ _ _ _=>cases h
theorem ZuE{d:PyData}(h:HM.Zps fa f r=Z d):∃x q kvs y,fa r=Z x/\f r=Z q/\HM.Zlr q=Z kvs/\HM.ZaT x=Z y/\d=.bool (HM.Zi kvs y).isSome:=by
 unfold HM.Zps at h;split at h
 ·split at h
  ·split at h
   ·obtain⟨y,h1,h2⟩:=ZAn.mp h
    exact⟨_,_,_,y,by assumption,by assumption,by assumption,h1,h2.symm⟩
   ·cases h
  ·cases h
 ·cases h
theorem Zq8{d:PyData}(h:HM.ZbP fa f r=Z d):∃x q kvs y,fa r=Z x/\f r=Z q/\HM.Zlr q=Z kvs/\HM.ZaT x=Z y/\d=.bool (!(HM.Zi kvs y).isSome):=by
 unfold HM.ZbP at h;split at h
 ·split at h
  ·split at h
   ·obtain⟨y,h1,h2⟩:=ZAn.mp h
    exact⟨_,_,_,y,by assumption,by assumption,by assumption,h1,h2.symm⟩
   ·cases h
  ·cases h
 ·cases h
theorem Zxc(hu:X.A.units+1<cLine)(ha:XE X a fa)(hb:XB X b f)(hm:ZBF .In b=ZFu:=by rfl):XT X (.Compare a [.In] [b] pos) (HM.tV (HM.Zps fa f)):=by intro r d h;obtain⟨x,q,kvs,y,h1,h2,h3,h4,e⟩:=ZuE (Zg6 h);cases e;refine PT.imp (ZpZ (ZxO hu (ha r x h1) (hb r q h2)) hm) λσ H Q ⟨F0,H0,F,at_,k⟩=>?_;refine⟨F0,H0,F,at_,λv F1 H1 x1 r1=>⟨F0,H0,F1,at_.grow x1,λw F2 H2 x2 ⟨fp,r2⟩=>?_⟩⟩;obtain⟨l,vvs,e1,e2,T⟩:=Zjb x2.sub r2 h3;obtain⟨bb,rfl,hbb⟩:=ZbQ h4 (r1.mono x2.ff);exact⟨l,_,e1,Zn4 e2 (x2.sub _ _ hbb),_,rfl,by rw[T.some_iff]; exact k F2 H2 (x1.trans x2)⟩
theorem Zhf(hu:X.A.units+1<cLine)(ha:XE X a fa)(hb:XB X b f)(hm:ZBF .NotIn b=ZFu:=by rfl):XT X (.Compare a [.NotIn] [b] pos) (HM.tV (HM.ZbP fa f)):=by intro r d h;obtain⟨x,q,kvs,y,h1,h2,h3,h4,e⟩:=Zq8 (Zg6 h);cases e;refine PT.imp (ZpZ (Znb hu (ha r x h1) (hb r q h2)) hm) λσ H Q ⟨F0,H0,F,at_,k⟩=>?_;refine⟨F0,H0,F,at_,λv F1 H1 x1 r1=>⟨F0,H0,F1,at_.grow x1,λw F2 H2 x2 ⟨fp,r2⟩=>?_⟩⟩;obtain⟨l,vvs,e1,e2,T⟩:=Zjb x2.sub r2 h3;obtain⟨bb,rfl,hbb⟩:=ZbQ h4 (r1.mono x2.ff);exact⟨l,_,e1,Zn4 e2 (x2.sub _ _ hbb),_,rfl,by rw[T.some_iff]; exact k F2 H2 (x1.trans x2)⟩
theorem ZdV(hu:X.A.units+1<cLine)(ha:XB X a f)(hk:XE X b fb)(hs:ZpB b:=by intro _ _; rfl):XE X (.Subscript a b pos) (HM.Z5 f fb):=by
 intro r d h;unfold HM.Z5 at h;split at h
 ·rename_i q hq
  split at h
  ·rename_i kvs hd
   split at h
   ·rename_i x hx
    split at h
    ·rename_i y hy
     refine PE.imp (Zmt hu (ha r q hq) (hk r x hx) hs) λσ H Q ⟨F0,H0,F,at_,kk⟩=>?_;refine⟨F0,H0,F,at_,λv F1 H1 x1 ⟨fp,r1⟩=>⟨F0,H0,F1,at_.grow x1,λw F2 H2 x2 r2=>?_⟩⟩;obtain⟨l,vvs,e1,e2,T⟩:=Zjb x1.sub r1 hd;have e2':=rdT e2 x2.hh;have T':ZaX X.K F2 kvs vvs:=⟨T.1,T.2.mono x2.ff⟩;obtain⟨bb,rfl,hbb⟩:=ZbQ hy r2;obtain⟨u,q1,q2⟩:=T'.look.1 d h;exact⟨l,u,e1,by rw[<-q1]; exact Zn4 e2' (x2.sub _ _ hbb),kk u F2 H2 (x1.trans x2) q2⟩
    ·cases h
   ·cases h
  ·cases h
 ·cases h
structure XAL(X:Cx)(es:List Expr)(f:HM.AF):Prop where
 len:∀r ds,f r=Z ds->ds.length=es.length
 pa:∀r ds,f r=Z ds->PA X es λσ H Q=>Now X.K r σ H λF0 H0 F=>∀vs F' H',Ext F H F' H'->Zv X.K H' ds vs->Q vs H'
theorem Zam.lent{v:V}{d:PyData}(sub:Zs F H)(r:Zam K F H q v fp)(h:HM.frz q=Z d):Rep K H d v:=by
 cases r with
 | pl r=>cases h; exact r.mono sub
 | ol h1 r=>cases h; exact .lst (.of h1) r.1 (r.mono sub).2
 | ok _ _ _=>cases h
 | hd h1 he hk r=>cases h; exact(Rep.dct (.inr ⟨_,h1⟩) he hk r.2).mono sub
 | hf h1=>cases h; exact(Rep.fn h1).mono sub
 | ot h1 hk r=>cases h; exact .dct (.inl h1) rfl hk (r.mono sub).2
 | otl _ _ _ _=>cases h
end
end HP
namespace HP
open PySem PySem.Spec PyProof.Rows L2
variable{g:HM.AF}{F:Hp}
variable[FX]
section
variable{X:Cx}{a b c e:Expr}{fa fb fc:HM.EF}{f:HM.BF}{pos p:Pos}{es:List Expr}
theorem Zs0(h:XA X es g):XAL X es g :=
 ⟨h.len,λr ds hd=>PA.imp (h.pa r ds hd) λσ H Q ⟨F0,H0,F,at_,k⟩=>⟨F0,H0,F,at_,λvs F' H' x q=>k vs F' H' x (q.mono x.sub)⟩⟩
theorem Zk1(ha:XE X e fa)(hr:XAL X es g)(hs:ZAD (e::es) X.env=(ZFu,eval e X.env)::ZAD es X.env:=by rfl):XAL X (e::es) (HM.Za fa g):=by
 refine⟨λr ds h=>?_,λr ds h=>?_⟩
 ·unfold HM.Za at h
  split at h
  ·obtain⟨xs,h1,h2⟩:=ZAn.mp h
   subst h2;rw[ZAB,ZAB,hr.len r xs h1]
  ·cases h
 unfold HM.Za at h;split at h
 ·rename_i x hx
  obtain⟨xs,h1,h2⟩:=ZAn.mp h;subst h2;refine PA.imp (ZaC (ha r x hx) (hr.pa r xs h1) hs) λσ H Q ⟨F0,H0,F,at_,k⟩=>?_;exact⟨F0,H0,F,at_,λv F1 H1 x1 r1=>⟨F0,H0,F1,at_.grow x1,λvs F2 H2 x2 r2=>k (v::vs) F2 H2 (x1.trans x2) (.cons ((r1.mono x2.ff).mono x2.sub) r2)⟩⟩
 ·cases h
theorem Zof(ha:XB X e f)(hr:XAL X es g)(hs:ZAD (e::es) X.env=(ZFu,eval e X.env)::ZAD es X.env:=by rfl):XAL X (e::es) (HM.Za (HM.ZiO f) g):=by
 refine⟨λr ds h=>?_,λr ds h=>?_⟩
 ·unfold HM.Za at h
  split at h
  ·obtain⟨xs,h1,h2⟩:=ZAn.mp h
   subst h2;rw[ZAB,ZAB,hr.len r xs h1]
  ·cases h
 unfold HM.Za at h;split at h
 ·rename_i x hx
  obtain⟨xs,h1,h2⟩:=ZAn.mp h;subst h2;obtain⟨q,hq,hf⟩:=ZDB.mp hx;refine PA.imp (ZaC (ha r q hq) (hr.pa r xs h1) hs) λσ H Q ⟨F0,H0,F,at_,k⟩=>?_;exact⟨F0,H0,F,at_,λv F1 H1 x1 ⟨fp,r1⟩=>⟨F0,H0,F1,at_.grow x1,λvs F2 H2 x2 r2=>k (v::vs) F2 H2 (x1.trans x2) (.cons ((r1.lent x1.sub hf).monoT x2.hh) r2)⟩⟩
 ·cases h
theorem Rep.flat{K:ZAo}{F':Hp}{d:PyData}{v:V}(r:Rep K F d v)(h:HM.ZlW d=ZFt):Rep K F' d v:=by
 cases r with
 | non=>exact .non
 | bl b=>exact .bl b
 | int i=>exact .int i
 | str x=>exact .str x
 | tupk _=>cases h
 | tup _ _ _=>cases h
 | lst _ _ _=>cases h
 | dct _ _ _ _=>cases h
 | fn _=>cases h
theorem Ext.forget{H F'' H'':Hp}(s:Zs F H)(n:NoT F)(x:Ext (Zcp H) H F'' H''):Ext F H F H'' :=
 ⟨Zs.refl F,x.hh,(n.sub s).trans (x.ff.trans x.sub),λ_ _ z=>.inl z,x.tab,id⟩
theorem Ztn(hc:X.calm=ZFt):Za8 X (.builtin "max") (λxs H Q=>∃(p:Addr) (ns:List Int),xs=[.ref p]/\SqL X.K H p (ns.map V.int)/\0<ns.length/\∀M,M∈ns->(∀a,a∈ns->a<=M)->Q (.int M) H):=by
 intro pins s σ H xs us Q I r h;obtain⟨p,ns,rfl,hq,hne,q⟩:=h;obtain⟨u,rfl,rx⟩:=vals1 r;cases rx;obtain⟨its,rv,pl,hz⟩:=I.list hq;have hi:=ZdT rv;obtain⟨xs,e⟩:=hi.allInts.items;have hns:ns=xs.toList.map (·.1):=by rw[<-hi.numsOf,<-nums_intItems,<-e]
 have hsz:0<xs.size:=by have h3:=hne; rw[hns,ZAl,ZAM]at h3; exact h3
 have hl:=pl.isList;rw[e]at hl;refine max_intList (I.ok.hd hc) hl hsz λv h' tk hv hk=>?_;obtain⟨t,rfl⟩:=ZE3 hv;obtain⟨h1,h2⟩:=argBest_gt (numAt xs) (xs.size-1);refine⟨.int _,H,I.kept (t':=tk) hk,⟨t,rfl⟩,q _ ?_ λa ha=>?_⟩
 ·rw[hns,ZEH]; exact getD_mem (by rw[ZAl,ZAM]; omega)
 ·rw[hns]at ha
  obtain⟨j,hj,rfl⟩:=mem_getD ha;rw[ZAl,ZAM]at hj;rw[<-ZEH]; exact h2 j (by omega)
theorem Zmi(hm:X.mg "max" = Z_)(hc:X.calm=ZFt)(ha:XB X a f)(hg:Gl X "max":=by rfl)(hs:ZAD [a] X.env=[(ZFu,eval a X.env)]:=by rfl):XE X (.Call (.Name "max" p) [a] [] pos) (HM.Zd0 f):=by
 intro r d h;unfold HM.Zd0 at h;split at h
 ·rename_i x hx
  split at h
  ·rename_i ds hds
   split at h
   ·rename_i ns hns
    obtain⟨m,h1,h2⟩:=ZAn.mp h;subst h2;refine PE.imp (Zc1 (Ztn hc) hg hm Zt7 (Zff ha hx hs) (he:=hs)) λσ H Q ⟨F0,H0,F,at_,k⟩=>?_;refine⟨F0,H0,F,at_,λv fp F1 H1 x1 r1=>?_⟩;obtain⟨l,vs,e1,hq,rs⟩:=ZdR x1.sub r1 hds;rw[Zcs hns rs]at hq;obtain⟨m1,m2⟩:=ZFe.mp h1;refine⟨l,ns,by rw[e1],hq,ZE4 m1,λM k1 k2=>?_⟩;have:M=m:=Int.le_antisymm (m2 M k1) (k2 m m1);subst this;exact k _ F1 H1 x1 (.int _)
   ·cases h
  ·cases h
 ·cases h
end
end HP
namespace HP
open PySem PySem.Spec PyProof.Rows L2
variable[FX]
section
variable{X:Cx}{a b c e:Expr}{fa fb fc:HM.EF}{f:HM.BF}{pos p:Pos}
theorem ZtH(hc:X.calm=ZFt):Za8 X (.builtin "min") (λxs H Q=>∃(p:Addr) (ns:List Int),xs=[.ref p]/\SqL X.K H p (ns.map V.int)/\0<ns.length/\∀M,M∈ns->(∀a,a∈ns->M<=a)->Q (.int M) H):=by
 intro pins s σ H xs us Q I r h;obtain⟨p,ns,rfl,hq,hne,q⟩:=h;obtain⟨u,rfl,rx⟩:=vals1 r;cases rx;obtain⟨its,rv,pl,hz⟩:=I.list hq;have hi:=ZdT rv;obtain⟨xs,e⟩:=hi.allInts.items;have hns:ns=xs.toList.map (·.1):=by rw[<-hi.numsOf,<-nums_intItems,<-e]
 have hsz:0<xs.size:=by have h3:=hne; rw[hns,ZAl,ZAM]at h3; exact h3
 have hl:=pl.isList;rw[e]at hl;refine min_intList (I.ok.hd hc) hl hsz λv h' tk hv hk=>?_;obtain⟨t,rfl⟩:=ZE3 hv;obtain⟨h1,h2⟩:=argBest_lt (numAt xs) (xs.size-1);refine⟨.int _,H,I.kept (t':=tk) hk,⟨t,rfl⟩,q _ ?_ λa ha=>?_⟩
 ·rw[hns,ZEH]; exact getD_mem (by rw[ZAl,ZAM]; omega)
 ·rw[hns]at ha
  obtain⟨j,hj,rfl⟩:=mem_getD ha;rw[ZAl,ZAM]at hj;rw[<-ZEH]; exact h2 j (by omega)
theorem Zv2(hm:X.mg "min" = Z_)(hc:X.calm=ZFt)(ha:XB X a f)(hg:Gl X "min":=by rfl)(hs:ZAD [a] X.env=[(ZFu,eval a X.env)]:=by rfl):XE X (.Call (.Name "min" p) [a] [] pos) (HM.Zl1 f):=by
 intro r d h;unfold HM.Zl1 at h;split at h
 ·rename_i x hx
  split at h
  ·rename_i ds hds
   split at h
   ·rename_i ns hns
    obtain⟨m,h1,h2⟩:=ZAn.mp h;subst h2;refine PE.imp (Zc1 (ZtH hc) hg hm ZpS (Zff ha hx hs) (he:=hs)) λσ H Q ⟨F0,H0,F,at_,k⟩=>?_;refine⟨F0,H0,F,at_,λv fp F1 H1 x1 r1=>?_⟩;obtain⟨l,vs,e1,hq,rs⟩:=ZdR x1.sub r1 hds;rw[Zcs hns rs]at hq;obtain⟨m1,m2⟩:=ZC7.mp h1;refine⟨l,ns,by rw[e1],hq,ZE4 m1,λM k1 k2=>?_⟩;have:M=m:=Int.le_antisymm (k2 m m1) (m2 M k1);subst this;exact k _ F1 H1 x1 (.int _)
   ·cases h
  ·cases h
 ·cases h
end
end HP
namespace HP
open PySem PySem.Spec PyProof.Rows L2
variable{p1 p2 p3:Pos}{x:Str}
variable[FX]
section
variable{X:Cx}{a b c e:Expr}{fa fb fc:HM.EF}{f:HM.BF}{pos p:Pos}{es:List Expr}
theorem Zs1(i:Nat)(ha:XB X a f)(hN:X.N[i]?=Z x:=by rfl)(hv:Vis X.env.scope x:=by first | exact ZBc rfl | exact ZAT (ZBc rfl) | exact ZAT (ZAT rfl))(hd:(x==("__debug__":Str))=ZFu:=by decide)(hcd:(x==("__classdict__":Str))=ZFu:=by decide)
  (hbase:ZCr (.Name x p1) "extend" X.env (eval (.Name x p1) X.env)=eval (.Name x p1) X.env:=by rfl)
  (hfew:((backTo p3 (ZAD [a] X.env)).all (λx=>!x.1)&&(ZD8 p3 (ZDh [] X.env)).all (λx=>x.1.isSome)&&decide (([a]:List Expr).length+([]:List Keyword).length+(if([]:List Keyword).isEmpty then 0 else 1)<30))=ZFt:=by rfl)
  (hline:(p2.endLine==p3.line)=ZFt:=by rfl) (hs:ZAD [a] X.env=[(ZFu,eval a X.env)]:=by rfl):XS X (.Expr (.Call (.Attribute (.Name x p1) "extend" p2) [a] [] p3) pos) (HM.Zkw i f):=by
 intro r o h;unfold HM.Zkw at h;split at h
 ·rename_i ds hds
  split at h
  ·rename_i es hes
   split at h
   ·rename_i hz
    cases h;refine PS.imp (Zih (Zn8 ZCu PySem.F.slot_list_extend PySem.F.type_list_extend Ztj (ZbL hN hv hd hcd) (ZaC (ha r _ hes) ZbT hs) hbase hfew hline hs rfl)) λE σ H ⟨F0,H0,F,at_,k⟩=>?_;obtain⟨l,vs,e1,e2,e3,_⟩:=at_.chgList (es:=ds) hds;refine⟨.ref l,e1,.inl ⟨rfl,_,SqL.of e2⟩,F0,H0,F,at_,λv F1 H1 x1 ⟨fp,r1⟩=>?_⟩;have at1:=at_.grow x1;obtain⟨l',vs',f1,f2,f3,f4⟩:=at1.chgList (es:=ds++es) hds;rw[e1]at f1;cases f1;cases r1 with
    | @ol b _ us hb rs =>
     refine⟨_,b,vs',us,rfl,rfl,f2,hb,?_,k _ F1 _ (f4 _ (f3.append rs))⟩;have e4:=f3.1;have e6:=rs.1;have e5:(1000000:Nat)<=sizeLine:=by decide
     unfold HM.big at hz;omega
   ·cases h
  ·cases h
 ·cases h
theorem Zxd(i j:Nat){y:Str}{p4:Pos}(hN:X.N.Nodup)(hNi:X.N[i]?=Z x:=by rfl)(hNj:X.N[j]?=Z y:=by rfl)(hx:Loc X.env.scope x:=by first | exact ZBc rfl | exact ZAT rfl)(hv:Vis X.env.scope y:=by first | exact ZBc rfl | exact ZAT (ZBc rfl) | exact ZAT (ZAT rfl))(hd:(y==("__debug__":Str))=ZFu:=by decide)(hcd:(y==("__classdict__":Str))=ZFu:=by decide)
  (hbase:ZCr (.Name y p1) "pop" X.env (eval (.Name y p1) X.env)=eval (.Name y p1) X.env:=by rfl) (hline:(p2.endLine==p3.line)=ZFt:=by rfl)
  (hs:ZCq (.Call (.Attribute (.Name y p1) "pop" p2) [] [] p3) (Z (.Name x p4)) pos.line X.env=pure ZFu:=by rfl) (hf:X.fn x=ZFt\/X.env.scope.names.lookup x=Z .local:=by first | exact .inl rfl | exact .inr rfl) :
  XS X (.Assign [.Name x p4] (.Call (.Attribute (.Name y p1) "pop" p2) [] [] p3) pos) (HM.ZuJ i j):=by
 intro r o h;unfold HM.ZuJ at h;split at h
 ·rename_i ds hds
  split at h
  ·rename_i d hd'
   cases h;refine PS.imp (ZpT hN hNi hx (Zxy ZCu PySem.F.slot_list_pop PySem.F.type_list_pop ZxQ (ZbL hNj hv hd hcd) hbase hline) hs hf) λE σ H ⟨F0,H0,F,at_,k⟩=>?_;obtain⟨l,vs,e1,e2,e3,e4⟩:=at_.chgList (es:=ds.dropLast) hds;obtain⟨v,q1,q2⟩:=e3.get hd';refine⟨.ref l,e1,.inl ⟨rfl,_,SqL.of e2⟩,l,vs,v,rfl,rfl,e2,by rw[<-e3.1]; exact q1,k _ F _ ((e4 _ ?_).set q2)⟩;rw[ZFf,ZFf,<-e3.1];exact e3.take _
  ·cases h
 ·cases h
def spF(K:ZAo)(n:Nat)(M:List PyData->Option PyData):Sp:=λvs H Q _=>∃F ds ys,vs.length=n/\Zs F H/\Tb H/\NoT F/\Zv K F ds vs/\M ds=Z (.list ys)/\∀l us F' H',Ext F H F' H'->H' l=Z (.lst us)->Zv K F' ys us->F' l=Z_->H l=Z_->Q (.ref l) H'
structure ZeK(P:Program)(w:World)(K:ZAo)(mg:Str->Option Value)(base:Heap)(k:Nat)(x:Str)(M:List PyData->Option PyData):Prop where
 ex:∃f fd ps,(∀ds d,M ds=Z d->ds.length=ps.length)/\ZdM P w K mg base CX0 k f fd ps (spF K ps.length M)/\mg x=Z (.ref f)/\ZBS K (.ref f)=ZFt/\Binds K fd ps []
theorem ZeK.mono{P:Program}{w:World}{K:ZAo}{mg:Str->Option Value}{base:Heap}{j k:Nat}{x:Str}{M:List PyData->Option PyData}(C:ZeK P w K mg base j x M)(h:j<=k):ZeK P w K mg base k x M:=by obtain⟨f,fd,ps,l,F,r⟩:=C.ex;exact⟨f,fd,ps,l,F.mono h,r⟩
theorem Zut{k:Nat}{g:HM.AF}{M:List PyData->Option PyData}(C:ZeK X.prog X.w X.K X.mg X.base k x M)(hr:Zap k X.A)(ha:XA X (e::es) g)(hg:Gl X x:=by rfl)(hdb:(x==("__debug__":Str))=ZFu:=by decide)
  (he:ZAD (e::es) X.env=(ZFu,eval e X.env)::ZAD es X.env:=by rfl) (hpl:(backTo pos (ZAD es X.env)).any (·.1)=ZFu:=by rfl):XF X (.Call (.Name x p) (e::es) [] pos) (HM.Zj5 M g):=by
 intro r d hd;unfold HM.Zj5 at hd;split at hd
 ·rename_i ds hds
  split at hd
  ·rename_i ys hM
   cases hd;obtain⟨fa,fd,ps,hl,F,hm,hk,hb⟩:=C.ex;refine PE.imp (Zmw (E:=E0) F hr hg hm hk hb .nil Zsr (ha.pa r ds hds) hdb he hpl) λσ H Q ⟨F0,H0,F1,at_,k⟩=>?_;refine⟨F0,H0,F1,at_,λvs F' H' x q=>?_⟩;show spF X.K ps.length M (vs++[]) H' Q E0;rw[ZBa];refine⟨F',ds,ys,by rw[<-q.1]; exact hl ds _ hM,x.sub,at_.tbx x,at_.ntx x,q,hM,λl us F2 H2 x2 h1 h2 h3 h4=>k _ F2 H2 (x.trans x2) ⟨[l],.ol h1 h2,by simp,λa ha=>?_⟩⟩;obtain rfl:a=l:=by simpa using ha
   exact⟨h3,x.hh.free h4⟩
  ·cases hd
 ·cases hd
theorem ZsU{P:Program}{w:World}{K:ZAo}{mg:Str->Option Value}{base:Heap}{k:Nat}{qual:Str}{st:Stmt}{f:Addr}{fd:FuncData}{N ps:List Str}{e:Expr}{g:HM.BF}(Fn:Fun K x qual st f fd)(S:Zu N ps (Zf st))(hm:mg x=Z (.ref f))(hb:Binds K fd ps [])
  (hst:ZaZ st=[.Return (Z e) p1]) (hol:∀r b,g r=Z b->∃ys,b=.ol ys)
  (body:∀(cdv:Value) (A:Around) (outer:List Env) (s:Shared) (H:Hp) (E:XK),Zap k (A.deeper (envOfC qual (Zf st) s.heap.objs.size f cdv))->XF (Zge CX0 P w K mg base N qual (Zf st) f cdv A outer s H E).nox e g) :
  ZeK P w K mg base (k+1) x (HM.fnOf ps.length N.length (HM.ZD (HM.eOf g))):=by
 have hpl:ps.length<=N.length:=by have:=congrArg ZA8 S.pre; rw[ZB1]at this; omega
 refine⟨f,fd,ps,λds d h=>?_,Fn.ok S (λvs H Q E h=>?_) (λcdv A outer s H vs Q E hr h=>?_),hm,Fn.kp,hb⟩
 ·unfold HM.fnOf at h
  split at h
  ·assumption
  ·cases h
 ·obtain⟨_,_,_,h,_⟩:=h
  exact h
 ·obtain⟨F,ds,ys,hl,sub,tb,nt,q,hM,kk⟩:=h
  unfold HM.fnOf at hM;split at hM
  ·rename_i hds
   have a0:=Zg9 (N:=N) sub tb nt q (by omega);have hg:g (HM.Zfl N.length ds)=Z (.ol ys):=by
    split at hM
    ·rename_i r hr'
     cases hq:HM.eOf g (HM.Zfl N.length ds)with
     | none=>unfold HM.ZD at hr'; rw[hq]at hr'; cases hr'
     | some d=>unfold HM.ZD at hr'; rw[hq]at hr'; cases hr'
    ·rename_i d' hr'
     cases hM;obtain⟨d,h1,h2⟩:=ZAn.mp hr';cases h2;obtain⟨b,h3,h4⟩:=ZDB.mp h1;obtain⟨zs,rfl⟩:=hol _ _ h3;cases h4;exact h3
    ·cases hM
   rw[hst];refine⟨_,Zrm (Zpq (body cdv A outer s H E hr _ _ hg)),F,H,F,a0,λv F' H' x ⟨fp,r1,nd,hn⟩=>?_⟩;cases r1 with
   | @ol l _ us h1 h2=>exact kk l us F' H' x h1 h2 (hn l (by simp)).1 (hn l (by simp)).2
  ·cases hM
theorem Zvx(i:HM.IF)(c:HM.TF)(e:HM.EF)(r:HM.Env)(b:HM.B)(h:HM.ZF i c e r=Z b):∃ys,b=.ol ys:=by
 unfold HM.ZF at h;split at h
 ·split at h
  ·obtain⟨ys,_,h2⟩:=ZAn.mp h
   exact⟨ys,h2.symm⟩
  ·cases h
 ·cases h
end
end HP
namespace HP
open PySem PySem.Spec PyProof.Rows L2
variable{tg:Expr}{b':HM.B}{pos:Pos}{K:ZAo}{x:Str}
variable[FX]
section
variable{K:ZAo}{F H F0 H0 G:Hp}{a b:Addr}{ob u:HO}{vvs:List (List Key × V)}{d:PyData}{v:V}{ds:List PyData}{vs:List V}{r:HM.Env}{σ:L2.St}{i:Nat}{es:List (PyData × PyData)}
theorem Zbj(h:b≠a):sw a ob G b=G b:=by unfold sw; rw[if_neg h]
theorem Zgt:sw a ob G a=(G a).map λ_=>ob:=by unfold sw; rw[if_pos rfl]
theorem ZrJ(s:Zs F H):Zs (sw a ob F) (sw a ob H):=λb o z=>by
 by_cases hb:b=a
 ·subst hb
  rw[Zgt]at z ⊢;obtain⟨x,h1,h2⟩:=ZAn.mp z;rw[s _ _ h1,<-h2]; rfl
 ·rw[Zbj hb]at z ⊢; exact s b o z
theorem ZvO(hG:∀u,G a=Z u->u=.dT vvs):sw a (.dT vvs) (sw a ob G)=G:=by
 funext b
 by_cases hb:b=a
 ·subst hb
  rw[Zgt,Zgt];cases h:G b with
  | none=>rfl
  | some u=>rw[hG u h]; rfl
 ·rw[Zbj hb,Zbj hb]
theorem Dk.nt(h:Dk vvs u):(∀xs,u≠.tup xs)/\(∀xs,u≠.lst xs)/\(∀o xs,u≠.frz o (.lst xs))/\(∀ps,u≠.tbl ps)/\(∀x,u≠.own x):=by rcases h with h | ⟨o,h⟩<;>subst h<;>exact⟨λ_ z=>(by cases z),λ_ z=>(by cases z),λ_ _ z=>(by cases z),λ_ z=>(by cases z),λ_ z=>(by cases z)⟩
theorem Rep.sw(hF:∀u,F a=Z u->Dk vvs u)(hob:Dk vvs ob)(r:Rep K F d v):Rep K (HP.sw a ob F) d v:=by
 induction r with
 | non=>exact .non
 | bl b=>exact .bl b
 | int i=>exact .int i
 | str x=>exact .str x
 | fn h=>exact .fn (FX.sw hF hob h)
 | tupk h=>exact .tupk h
 | @tup b ds vs h hl _ ih=>exact .tup (by rw[Zbj (λz=>(hF _ (z▸h)).nt.1 _ rfl)]; exact h) hl ih
 | @lst b ds vs h hl _ ih =>
  refine .lst ?_ hl ih;rcases h with h | h
  ·refine .inl ?_
   have hb:b≠a:=λz=>by
    rcases h with h | ⟨o,h⟩
    ·exact(hF _ (z▸h)).nt.2.1 _ rfl
    ·exact(hF _ (z▸h)).nt.2.2.1 _ _ rfl
   unfold Rd;rw[Zbj hb];exact h
  ·exact .inr h
 | @dct b es kvs vvs' h he hk _ ih =>
  refine .dct ?_ he hk ih
  by_cases hb:b=a
  ·subst hb
   have:vvs'=vvs/\∃u,F b=Z u:=by
    rcases h with h | ⟨o,h⟩
    ·rcases hF _ h with z | ⟨o',z⟩
     ·cases z; exact⟨rfl,_,h⟩
     ·cases z
    ·rcases hF _ h with z | ⟨o',z⟩
     ·cases z
     ·cases z; exact⟨rfl,_,h⟩
   obtain⟨rfl,u,hu⟩:=this;unfold Rd;rw[Zgt,hu];rcases hob with z | ⟨o,z⟩
   ·subst z; exact .inl rfl
   ·subst z; exact .inr ⟨o,rfl⟩
  ·unfold Rd
   rw[Zbj hb];exact h
theorem Zv.sw(hF:∀u,F a=Z u->Dk vvs u)(hob:Dk vvs ob)(r:Zv K F ds vs):Zv K (HP.sw a ob F) ds vs:=⟨r.1,λi d v h1 h2=>(r.2 i d v h1 h2).sw hF hob⟩
theorem Ext.sw(x:Ext F0 H0 F H)(hH:∀u,H a=Z u->Dk vvs u)(hob:Dk vvs ob):Ext (HP.sw a ob F0) (HP.sw a ob H0) (HP.sw a ob F) (HP.sw a ob H) :=
 ⟨ZrJ x.ff,x.hh.sw,ZrJ x.sub,λb o z=>by
  by_cases hb:b=a
  ·subst hb
   rw[Zgt]at z;obtain⟨u,h1,h2⟩:=ZAn.mp z;rcases x.new b u h1 with q | q | ⟨xs,e,q⟩
   ·exact .inl (by rw[Zgt,q,<-h2]; rfl)
   ·exact .inr (.inl (by rw[Zgt,q]; rfl))
   ·exact absurd e ((hH _ (x.sub _ _ h1)).nt.1 xs)
  ·rw[Zbj hb]at z
   rcases x.new b o z with q | q
   ·exact .inl (by rw[Zbj hb]; exact q)
   ·refine .inr ?_
    unfold Fre;rw[Zbj hb];exact q,λt=>(x.tab (t.unsw hob)).sw hH,λt b o z=>by
  unfold HP.sw at z;split at z
  ·obtain⟨u,_,e⟩:=ZAn.mp z
   subst e; exact hob.ntt
  ·rename_i hb
   refine x.nts (λc u y=>?_) b o z
   by_cases hc:c=a
   ·subst hc; exact(hH _ (x.sub _ _ (x.ff _ _ y))).ntt
   ·exact t c u (by rw[Zbj hc]; exact y)⟩
theorem At.sw(e:At K F0 H0 F H r σ)(hFa:F a=Z u)(hu:Dk vvs u)(hob:Dk vvs ob)(nh:∀(i:Nat) (es:List (PyData × PyData)),r[i]?≠Z (Z (HM.B.hd es))):At K (HP.sw a ob F0) (HP.sw a ob H0) (HP.sw a ob F) (HP.sw a ob H) r σ:=by
 obtain⟨fp,e⟩:=e;have hF:∀u,F a=Z u->Dk vvs u:=λu' h=>by rw[hFa]at h; cases h; exact hu
 have hH:∀u,H a=Z u->Dk vvs u:=λu' h=>by rw[e.sub _ _ hFa]at h; cases h; exact hu
 have own:∀i,∀c∈fp i,c≠a:=λi c hc z=>by rw[<-z,(e.own i c hc).1]at hFa; cases hFa
 refine⟨fp,e.ext.sw hH hob,e.len,λi b h=>?_,e.emp,λi b h=>?_,e.nd,e.dis,e.tb.sw (vvs:=vvs) (λu' z=>by have q:=e.ext.hh.back z (e.sub _ _ hFa) hu.nt.2.2.2.1;rw[q]; exact hu),λb o z=>?_⟩
 rotate_left 2
 ·unfold HP.sw at z
  split at z
  ·obtain⟨u,_,e⟩:=ZAn.mp z
   subst e; exact hob.ntt
  ·exact e.nt b o z
 ·obtain⟨v,h1,h2⟩:=e.at_ i b h
  refine⟨v,h1,?_⟩;have own:=own i;generalize fp i=f at h2 own;cases h2 with
  | pl q=>exact .pl (q.sw hF hob)
  | ol k q=>exact .ol (by rw[Zbj (own _ (by simp))]; exact k) (q.sw hF hob)
  | ok k hk q=>exact .ok (by rw[Zbj (own _ (by simp))]; exact k) hk (q.sw hF hob)
  | ot k hk q=>exact .ot (by rw[Zbj (own _ (by simp))]; exact k) hk (q.sw hF hob)
  | otl k hk hv q=>refine .otl (by rw[Zbj (own _ (by simp))]; exact k) hk hv λi ds l h1 h2=>?_;obtain⟨vs,q1,q2⟩:=q i ds l h1 h2;exact⟨vs,by rw[Zbj (own l (ZAq _ (ZAR h2)))]; exact q1,q2.sw hF hob⟩
  | hd _ _ _ _=>exact absurd h (nh _ _)
  | hf _=>exact absurd h (nh _ _)
 ·rw[Zbj (own i b h),Zbj (own i b h)]
  exact e.own i b h
theorem set_same{x:Option V}(h:σ[i]?=Z x):σ.set i x=σ:=by obtain⟨h1,h2⟩:=ZAC.mp h;rw[<-h2];exact ZC4 h1
theorem At.say(e:At K F0 H0 F H r σ)(h1:σ[i]?=Z (Z v))(q:Zam K F H b' v []):At K F0 H0 F H (r.set i (Z b')) σ:=by
 have:=e.store (i:=i) q ZBU (λa h=>by simp at h) λ_ _ _ _ _ _ h=>by simp at h
 rwa [set_same h1]at this
theorem At.loosen(e:At K F0 H0 F H r σ)(h:r[i]?=Z (Z (.hd es))):At K F0 H0 F H (r.set i (Z (.pl (.dict es)))) σ:=by
 obtain⟨v,fp,h1,h2⟩:=e.any h;cases h2 with
 | hd k1 k2 k3 k4=>exact e.say h1 (.pl (.dct (.inr ⟨_,k1⟩) k2 k3 k4.2))
 | hf k1=>exact e.say h1 (.pl (.fn k1))
theorem ZvY(h:r.all (λq=>!HM.Zbc q)=ZFt)(i:Nat)(es:List (PyData × PyData)):r[i]?≠Z (Z (.hd es)):=λz=>by have:=ZAF.mp h _ (ZAR z);cases this
theorem Zud(h:(r.set i Z_).all (λq=>!HM.Zbc q)=ZFt)(hb:∀es,b'≠.hd es)(j:Nat)(es:List (PyData × PyData)):(r.set i (Z b'))[j]?≠Z (Z (.hd es)):=λz=>by
 by_cases hj:i=j
 ·subst hj
  by_cases hi:i<r.length
  ·rw[ZBl hi]at z
   injection z with z
   injection z with z
   exact hb _ z
  ·rw[ZE9 (by rw[ZBH]; omega)]at z
   cases z
 ·rw[ZAZ hj]at z
  exact ZvY h j es (by rw[ZAZ hj]; exact z)
end
section
variable{X:Cx}{pins:List (Addr × Obj)}{σ:L2.St}{H:Hp}{s:Shared}{a:Addr}{u ob:HO}{vvs:List (List Key × V)}
theorem Zn2{h:Heap}{o:HO}{b:Addr}(ha:H a=Z u)(hu:Dk vvs u)(x:Zai X.prog X.w H h b o):Zai X.prog X.w (sw a ob H) h b o :=
 x.stay (λ_ _ _ q=>q) (λc q=>by rw[Zbj (λz=>by rw[z,ha]at q; cases q; exact hu.nt.2.2.2.2 _ rfl)]; exact q) λc xs q=>by rw[Zbj (λz=>by rw[z,ha]at q; cases q; exact hu.nt.1 _ rfl)]; exact q
theorem Zp9(I:Inv X pins σ H s)(ha:H a=Z u)(hu:Dk vvs u)(ok:Zai X.prog X.w (sw a ob H) s.heap a ob)(hn:∀o w,X.H₀ a≠Z (.frz o w)):Inv X pins σ (HP.sw a ob H) s:=by
 have none':∀b,H b=Z_->HP.sw a ob H b=Z_:=λb h=>by rw[Zbj (λz=>by rw[z,ha]at h; cases h)]; exact h
 refine⟨I.ok,I.os,I.bare,⟨I.base.keep,I.base.slot,λb o h1 h2 h3=>none' b (I.base.free b o h1 h2 h3),I.base.there,λb xs h=>?_,λb o w h=>?_,λb ps h=>?_⟩,I.loc,I.cell,none' _ I.free,λx c h=>none' _ (I.freeC x c h),λp hp=>?_,λb o h=>?_,I.len⟩
 ·have q:=I.base.tups b xs h
  rw[Zbj (λz=>by rw[z,ha]at q; cases q; exact hu.nt.1 _ rfl)];exact q
 ·have q:=I.base.frzs b o w h
  rw[Zbj (λz=>hn o w (by rw[<-z]; exact h))];exact q
 ·obtain⟨m,q⟩:=I.base.tbls b ps h
  exact⟨m,by rw[Zbj (λz=>by rw[z,ha]at q; cases q; exact hu.nt.2.2.2.1 _ rfl)]; exact q⟩
 ·have q:=I.pin p hp
  exact⟨q.1,none' _ q.2.1,q.2.2⟩
 ·by_cases hb:b=a
  ·subst hb
   rw[Zgt,ha]at h;cases h;exact ok
  ·rw[Zbj hb]at h
   exact Zn2 ha hu (I.hok b o h)
theorem Zh0(i:Nat){st:Stmt}{g:HM.SF}(h:XS X st g):XS X st (HM.Zfj i g):=by
 intro r o ho;unfold HM.Zfj at ho;split at ho
 case h_2=>exact h r o ho
 rename_i es hr;split at ho
 case isFalse=>cases ho
 rename_i hall;have nh:=ZvY hall;intro pins s σ H E I ⟨F0,H0,F,at_,k⟩;obtain⟨v,h1,h2⟩:=at_.plain hr;cases h2 with
 | @dct a _ kvs vvs hd he hk hrr =>
  have rs:∀{F':Hp},Zs F F'->Zv X.K F' (kvs.map (·.2)) (vvs.map (·.2)):=λs=>by refine Zv.mono ⟨?_,hrr⟩ s;have:=congrArg ZA8 hk;rw[ZAl,ZAl]at this ⊢;exact this
  rcases hd with hd | ⟨q,hd⟩
  ·have hHa:=at_.sub _ _ hd
   obtain⟨z,y,xs,rl,q,es1,ep,e1,c1⟩:=(show Zai X.prog X.w H s.heap a (.dT vvs) from I.hok a _ hHa);have hn:∀o w,X.H₀ a≠Z (.frz o w):=λo w z=>by have:=I.base.frzs _ _ _ z;rw[hHa]at this; cases this
   have I1:=Zp9 (ob:=.frz q (.dT vvs)) I hHa (.inl rfl) ⟨e1,Zn2 hHa (.inl rfl) ⟨z,y,xs,rl,q,es1,ep,e1,c1⟩⟩ hn;have at1:=at_.sw (ob:=.frz q (.dT vvs)) hd (.inl rfl) (.inr ⟨q,rfl⟩) nh;have Ra:HP.sw a (.frz q (.dT vvs)) F a=Z (.frz q (.dT vvs)):=by rw[Zgt,hd]; rfl
   have hFd:∀u,F a=Z u->Dk vvs u:=λu z=>by rw[hd]at z; cases z; exact .inl rfl
   have at2:=(at1.say (i:=i) h1 (.hd Ra he hk (Zv.sw hFd (.inr ⟨q,rfl⟩) (rs (Zs.refl F))))).rebase;have e0:HP.sw a (.dT vvs) (HP.sw a (.frz q (.dT vvs)) F0)=F0:=ZvO λu z=>by have:=at_.ext.ff _ _ z;rw[hd]at this; cases this; rfl
   have e1:HP.sw a (.dT vvs) (HP.sw a (.frz q (.dT vvs)) H0)=H0:=ZvO λu z=>by exact at_.ext.hh.back z hHa λ_ w=>by cases w
   split at ho
   ·rename_i r' hg
    split at ho
    case h_2=>cases ho
    rename_i es' hr';split at ho
    case isFalse=>cases ho
    rename_i hall';cases ho;refine thn (h _ _ hg pins s σ _ { nx:=λσ' H'=>∃F',At X.K (HP.sw a (.frz q (.dT vvs)) F) (HP.sw a (.frz q (.dT vvs)) H0) F' H' r' σ',rt:=λ_ _=>False,bk:=λ_ _=>False,ct:=λ_ _=>False } I1 ⟨_,_,_,at2,λσ' F' H' a'=>⟨F',a'⟩⟩) λfl s' z=>?_;cases fl with
    | next=>obtain⟨σ',H',I',F',a'⟩:=z;have Fa:=a'.ext.ff _ _ Ra;have Ha:=a'.sub _ _ Fa;have a3:=((At.unbase at1.ext (at1.nt0) a').loosen hr').sw (ob:=.dT vvs) Fa (.inr ⟨q,rfl⟩) (.inl rfl) (Zud hall' λ_ z=>by cases z);rw[e0,e1]at a3;exact⟨σ',_,Zp9 I' Ha (.inr ⟨q,rfl⟩) (Zn2 Ha (.inr ⟨q,rfl⟩) (Zl7 I'.hok (.inr ⟨q,Ha⟩))) hn,k σ' _ _ a3⟩
    | brk=>obtain⟨_,_,_,z⟩:=z; exact z.elim
    | cont=>obtain⟨_,_,_,z⟩:=z; exact z.elim
    | ret u=>obtain⟨_,_,_,_,_,z⟩:=z; exact z.elim
   ·rename_i d hg
    cases ho;refine thn (h _ _ hg pins s σ _ { nx:=λ_ _=>False,bk:=λ_ _=>False,ct:=λ_ _=>False,rt:=λv' H'=>∃F',Ext (HP.sw a (.frz q (.dT vvs)) F) (HP.sw a (.frz q (.dT vvs)) H0) F' H'/\Rep X.K F' d v' } I1 ⟨_,_,_,at2,λv' F' H' x q=>⟨F',x,q⟩⟩) λfl s' z=>?_;cases fl with
    | ret u=>obtain⟨v',σ',H',I',rv,F',x',r'⟩:=z;have Fa:=x'.ff _ _ Ra;have Ha:=x'.sub _ _ Fa;have x3:=(Ext.unbase at1.ext x').sw (a:=a) (vvs:=vvs) (ob:=.dT vvs) (λu z=>by rw[Ha]at z; cases z; exact .inr ⟨q,rfl⟩) (.inl rfl);rw[e0,e1]at x3;exact⟨v',σ',_,Zp9 I' Ha (.inr ⟨q,rfl⟩) (Zn2 Ha (.inr ⟨q,rfl⟩) (Zl7 I'.hok (.inr ⟨q,Ha⟩))) hn,rv,k v' _ _ x3 (r'.sw (λu z=>by rw[Fa]at z; cases z; exact .inr ⟨q,rfl⟩) (.inl rfl))⟩
    | next=>obtain⟨_,_,_,z⟩:=z; exact z.elim
    | brk=>obtain⟨_,_,_,z⟩:=z; exact z.elim
    | cont=>obtain⟨_,_,_,z⟩:=z; exact z.elim
   ·cases ho
  ·have at2:=at_.say (i:=i) h1 (.hd hd he hk (rs (Zs.refl F)))
   split at ho
   ·rename_i r' hg
    split at ho
    case h_2=>cases ho
    rename_i es' hr';split at ho
    case isFalse=>cases ho
    cases ho;exact h _ _ hg pins s σ H E I ⟨F0,H0,F,at2,λσ' F' H' a'=>k σ' F' H' (a'.loosen hr')⟩
   ·rename_i d hg
    cases ho;exact h _ _ hg pins s σ H E I ⟨F0,H0,F,at2,k⟩
   ·cases ho
 | fn hv =>
  have at2:=at_.say (i:=i) h1 (.hf hv);split at ho
  ·rename_i r' hg
   split at ho
   case h_2=>cases ho
   rename_i es' hr';split at ho
   case isFalse=>cases ho
   cases ho;exact h _ _ hg pins s σ H E I ⟨F0,H0,F,at2,λσ' F' H' a'=>k σ' F' H' (a'.loosen hr')⟩
  ·rename_i d hg
   cases ho;exact h _ _ hg pins s σ H E I ⟨F0,H0,F,at2,k⟩
  ·cases ho
def Itd(a:Addr)(o:Obj):It :=
 ⟨λi H=>∃vvs q,H a=Z (.frz o (.dT vvs))/\vvs[i]?=Z q,λi H x H'=>H'=H/\∀vvs,H a=Z (.frz o (.dT vvs))->∃q b,vvs[i]?=Z q/\x=.ref b/\H b=Z (.tup (q.1.map kV)),λi H=>∃vvs,H a=Z (.frz o (.dT vvs))/\vvs.length<=i⟩
theorem Zsa{α β:Type}{R:α->β->Prop}{l:List α}{m:List β}(r:Paired R l m):∀{i:Nat} {x:α},l[i]?=Z x->∃y,m[i]?=Z y/\R x y:=by
 induction r with
 | nil=>intro i x e; simp at e
 | @cons p q _ _ hq _ ih =>
  intro i x e;cases i with
  | zero=>rw[ZCV]at e; cases e; exact⟨q,rfl,hq⟩
  | succ i=>rw[ZBb]at e ⊢; exact ih e
theorem Zt9{P:Program}{w:World}(a it:Addr)(o:Obj)(es:Array DictEntry)(ep:Nat)(hd:o.data=.dict es ep):Turn P w K tg (Itd a o) [it] it (λi h=>h.IsKeyIter it a i es.size ep) where
 mem:=by simp
 obj:=λi h st b hb=>by
  have e:b=it:=by simpa using hb
  subst e;obtain⟨o,e,c,d⟩:=st;exact⟨o,e,λv z=>by rw[d]at z; cases z⟩
 keep:=λi h h' st k=>st.at λo e=>k it (by simp) o e
 item:=by
  intro X hP hw hK hc i pins s σ H E I hf st hg;subst hP hw hK;obtain⟨vvs,q,hH,hq⟩:=hg;obtain⟨h1,z,lo,xs,rel,o2,es2,ep2,h2,h3,h4,h5,h6⟩:=(show Zai X.prog X.w H s.heap a (.frz o (.dT vvs)) from I.hok a _ hH);rw[h1]at h2;cases h2;rw[hd]at h4;cases h4;obtain⟨f0,f1,f2,f3,f4,f5⟩:=hf it (by simp);obtain⟨p,hp,hr1,hr2,_⟩:=Zsa rel hq;have he:es[i]?=Z (entryOfKey (ZDl (ZaB X.prog X.w)) p):=by rw[<-ZBo,h5,ZAO,hp]; rfl
  refine Zo1 st ⟨o,h1,h3,hd⟩ he λh' st' sb=>?_;have I1:Inv X pins σ H { s with heap:=h' }:=I.turned (t':=s.toks) (λb o hb e=>(sb.2 b hb).trans e) f0 f1 f3 f4 f5;obtain⟨oi,e,c,d⟩:=id st';refine⟨_,rfl,Zn9 (s:={ s with heap:=h' }) e c d (by decide) ⟨.ref p.2.1,H,I1,rfl,⟨rfl,λvv hv=>?_⟩,st',λb hb=>(hf b hb).1⟩⟩;rw[hH]at hv;cases hv;exact⟨q,p.2.1,hq,rfl,hr2⟩
 done:=by
  intro X hP hw hK hc i pins s σ H E I hf st hg;subst hP hw hK;obtain⟨vvs,hH,hq⟩:=hg;obtain⟨h1,z,lo,xs,rel,o2,es2,ep2,h2,h3,h4,h5,h6⟩:=(show Zai X.prog X.w H s.heap a (.frz o (.dT vvs)) from I.hok a _ hH);rw[h1]at h2;cases h2;rw[hd]at h4;cases h4;obtain⟨f0,f1,f2,f3,f4,f5⟩:=hf it (by simp);have hl:vvs.length=xs.length:=ZCX rel;have hes:es.size=xs.length:=by rw[<-ZAM,h5,ZAl]
  exact Zrt (I.ok.hd hc) st ⟨o,h1,h3,hd⟩ (by omega) λh' eb=>⟨rfl,I.turned (t':=s.toks) (λb o hb e=>eb b o hb e) f0 f1 f3 f4 f5⟩
 self:=λ_ _ _ _ _ st h=>wpAny_pyIter_keyiter st h
theorem ZwJ{l:Expr}{tl:TE}(hl:PE X l tl):PI X tg l (λσ H R=>tl σ H λx H1=>∃a o vvs,x=.ref a/\H1 a=Z (.frz o (.dT vvs))/\R (Itd a o) H1):=by
 intro pins s σ H R I h;refine thn (hl pins s σ H _ I h) λv s1 ⟨x,H1,I1,r1,a,o,vvs,e,hH,q⟩=>?_;subst e;cases r1;obtain⟨h1,z,lo,xs,rel,o2,es,ep,h2,h3,h4,h5,h6⟩:=(show Zai X.prog X.w H1 s1.heap a (.frz o (.dT vvs)) from I1.hok a _ hH);rw[h1]at h2;cases h2;refine Zp5 lo ⟨o,h1,h3,h4⟩ ⟨s1.heap.objs.size,[s1.heap.objs.size],_,_,H1,rfl,I1.kept (t':=s1.toks) λb o e=>ZAs _ e,Zt9 a _ o es ep h4,⟨_,ZAH _ rfl,rfl,rfl⟩,λb hb=>?_,q⟩;obtain rfl:b=s1.heap.objs.size:=by simpa using hb
 exact I1.fpOk (ZAz _) (I1.hok.fresh (ZAz _))
theorem ZuN{F:Hp}{a:Addr}{o:Obj}{kvs:List (List Key × PyData)}{vvs:List (List Key × V)}(h:F a=Z (.frz o (.dT vvs)))(hk:kvs.map (·.1)=vvs.map (·.1)):ItD K (Itd a o) (kvs.map λp=>.tuple (p.1.map HM.ZaV)) F:=by
 intro F' H s1 s2;have hH:=s2 _ _ (s1 _ _ h);have hl:kvs.length=vvs.length:=by
  have:=congrArg ZA8 hk
  rwa [ZAl,ZAl]at this
 refine⟨λi d hd=>?_,vvs,hH,by rw[ZAl,hl]; exact ZAz _⟩;rw[ZAO]at hd;obtain⟨q,hq,hd⟩:=ZAn.mp hd;subst hd;have hi:i<vvs.length:=by rw[<-hl]; exact(ZAC.mp hq).1
 have hw:vvs[i]?=Z vvs[i]:=ZAx hi;have hw1:vvs[i].1=q.1:=by
  have:(kvs.map (·.1))[i]?=(vvs.map (·.1))[i]?:=by rw[hk]
  rw[ZAO,ZAO,hq,hw]at this;exact(ZA9 this).symm
 refine⟨⟨vvs,_,hH,hw⟩,λx H' hy=>?_⟩;obtain⟨e,y⟩:=hy;refine⟨e,?_⟩;obtain⟨q',b,e1,e2,e3⟩:=y vvs hH;rw[hw]at e1;cases e1;subst e2;rw[hw1]at e3;have rk:=Zht (K:=K) (F:=ZbW F' H) q.1;exact .tup (Zlj e3) rk.1 rk.2
theorem Zh1(i:Nat)(hN:X.N[i]?=Z x:=by rfl)(hv:Vis X.env.scope x:=by first | exact ZBc rfl | exact ZAT (ZBc rfl) | exact ZAT (ZAT rfl))(hd:(x==("__debug__":Str))=ZFu:=by decide)
  (hcd:(x==("__classdict__":Str))=ZFu:=by decide):XI X tg (.Name x pos) (HM.Za0 i):=by
 intro r ds h;have row:∀{d:PyData},r[i]?=Z (Z (.pl d))->HM.ZcM (.pl d)=Z ds->HM.ZJ (HM.bOf (HM.Zb i)) r=Z ds:=λ{d} h1 h2=>by
  have e:HM.Zb i r=Z d:=by unfold HM.Zb; rw[h1]
  unfold HM.ZJ HM.bOf;rw[e];exact h2
 unfold HM.Za0 at h;split at h
 ·rename_i q; exact ZP (Zc i hN hv hd hcd) r ds (row q h)
 ·rename_i q; exact ZP (Zc i hN hv hd hcd) r ds (row q h)
 ·rename_i es q
  obtain⟨kvs,h1,h2⟩:=ZAn.mp h;subst h2;refine PI.imp (ZwJ (ZbL hN hv hd hcd)) λσ H R ⟨F0,H0,F,at_,k⟩=>?_;obtain⟨v,fp,g1,g2⟩:=at_.any q;cases g2 with
  | @hd a o _ kvs' vvs k1 k2 k3 k4=>subst k2;rw[HM.dec_enc]at h1;cases h1;exact⟨.ref a,g1,a,o,vvs,rfl,at_.sub _ _ k1,k _ F H at_.refl (ZuN k1 k3)⟩
  | hf _=>cases h1
 ·cases h
theorem ZyI(i:Nat)(hN:X.N[i]?=Z x:=by rfl)(hv:Vis X.env.scope x:=by first | exact ZBc rfl | exact ZAT (ZBc rfl) | exact ZAT (ZAT rfl))(hd:(x==("__debug__":Str))=ZFu:=by decide)
  (hcd:(x==("__classdict__":Str))=ZFu:=by decide):XE X (.Name x pos) (HM.eHd i):=by
 intro r d h;unfold HM.eHd at h;split at h
 ·rename_i q
  cases h;exact Zc i hN hv hd hcd r d (by unfold HM.Zb; rw[q])
 ·rename_i es q
  cases h;refine PE.imp (ZbL hN hv hd hcd) λσ H Q ⟨F0,H0,F,at_,k⟩=>?_;obtain⟨v,fp,g1,g2⟩:=at_.any q;cases g2 with
  | hd k1 k2 k3 k4=>exact⟨_,g1,k _ F H at_.refl (.dct (.inr ⟨_,k1⟩) k2 k3 k4.2)⟩
  | hf k1=>exact⟨_,g1,k _ F H at_.refl (.fn k1)⟩
 ·cases h
end
end HP
namespace HP
open PySem PySem.Spec PyProof.Rows L2
variable[FX]
section
variable{X:Cx}{a b c e:Expr}{fa fb fc:HM.EF}{f:HM.BF}{pos p:Pos}
theorem Zwq{K:ZAo}{F:Hp}{ds:List PyData}{v:V}(r:Rep K F (.tuple ds) v):∃l vs,v=.ref l/\SqT K F l vs/\Zv K F ds vs:=by
 cases r with
 | tup h1 h2 h3=>exact⟨_,_,rfl,.of h1,h2,h3⟩
 | @tupk a x h1=>exact⟨_,_,rfl,.inr h1,.one (.str x)⟩
theorem Zog{apos:Pos}(hu:X.A.units+1<cLine)(ha:XB X a f)(hk:XE X b fb)(m:M1 X a "get" apos b pos):XE X (.Call (.Attribute a "get" apos) [b] [] pos) (HM.Zh7 f fb):=by
 intro r d h;unfold HM.Zh7 at h;split at h
 ·rename_i q hq
  split at h
  ·rename_i kvs hd
   split at h
   ·rename_i x hx
    split at h
    ·rename_i y hy
     cases h;refine PE.imp (ZvA hu (ha r q hq) (hk r x hx) m) λσ H Q ⟨F0,H0,F,at_,kk⟩=>?_;refine⟨F0,H0,F,at_,λv F1 H1 x1 ⟨fp,r1⟩=>?_⟩;obtain⟨l,vvs,e1,e2,T⟩:=Zjb x1.sub r1 hd;refine⟨l,e1,.inr ⟨vvs,e2⟩,F0,H0,F1,at_.grow x1,λw F2 H2 x2 r2=>?_⟩;have e3:=rdT e2 x2.hh;have T':ZaX X.K F2 kvs vvs:=⟨T.1,T.2.mono x2.ff⟩;obtain⟨bb,rfl,hbb⟩:=ZbQ hy r2;refine⟨_,Zn4 e3 (x2.sub _ _ hbb),kk _ F2 H2 (x1.trans x2) ?_⟩;obtain⟨t1,t2⟩:=T'.look (k:=y);cases hl:HM.Zi kvs y with
     | none=>rw[t2 hl]; exact .non
     | some dd=>obtain⟨u,q1,q2⟩:=t1 dd hl; rw[q1]; exact q2
    ·cases h
   ·cases h
  ·cases h
 ·cases h
end
end HP
namespace HP
open PySem PySem.Spec PyProof.Rows L2
variable[FX]
section
variable{X:Cx}{a b c e:Expr}{fa fb fc:HM.EF}{f:HM.BF}{pos p:Pos}{es:List Expr}
theorem Zuu{x y:Str}(hm:∃a,X.mg x=Z (.ref a)/\Zp2 X.K a [.str y])(hg:Gl X x:=by rfl)(hd:(x==("__debug__":Str))=ZFu:=by decide):XE X (.Name x pos) (HM.eC (.tuple [.str y])):=by obtain⟨a,hm,hk⟩:=hm;exact Zep (Zmv hg hm (v:=.ref a) rfl hd) λ_=>.tupk hk
theorem Ztl{K:ZAo}{F F2 H2:Hp}(s:Zs F2 H2):∀(n:Nat) {d:PyData} {v:V},HM.ZfS n d=ZFt->Rep K F2 d v->Rep K (ZbW F H2) d v:=by
 intro n
 induction n with
 | zero =>
  intro d v h r;cases r with
  | non=>exact .non
  | bl b=>exact .bl b
  | int i=>exact .int i
  | str x=>exact .str x
  | tupk h1=>exact .tupk h1
  | tup _ _ _=>cases h
  | lst _ _ _=>cases h
  | dct _ _ _ _=>cases h
  | fn _=>cases h
 | succ n ih =>
  intro d v h r;cases r with
  | non=>exact .non
  | bl b=>exact .bl b
  | int i=>exact .int i
  | str x=>exact .str x
  | tupk h1=>exact .tupk h1
  | tup h1 h2 h3=>exact .tup (Zlj (s _ _ h1)) h2 λi d v e1 e2=>ih (ZAF.mp h d (ZAR e1)) (h3 i d v e1 e2)
  | lst _ _ _=>cases h
  | dct _ _ _ _=>cases h
  | fn _=>cases h
def ZzR(K:ZAo)(neg:Bool):R2:=λv w H Q=>∃F x y,Zs F H/\Rep K F x v/\Rep K F y w/\x.canLay0=ZFt/\HM.Z2 y=ZFt/\Q (.bl (if neg then !PyData.eqv x y else ZA6 x y)) H
theorem Zza{k:Nat}(hr:Zap k X.A):OpR X (ZBw .Eq) (ZzR X.K ZFu):=by intro pins s σ H v w u u' Q I r1 r2 ⟨F,x,y,sub,q1,q2,a1,p2,q⟩;obtain⟨b1,b2⟩:=ZcY p2;obtain⟨as,h1⟩:=q1.reads I sub a1 u r1;obtain⟨bs,h2⟩:=q2.reads I sub b1 u' r2;refine ZE1 X.prog X.w X.A X.xe s u u' x y as bs _ h1 h2 a1 b1 ?_ ⟨.bl _,H,I,rfl,q⟩;have:=hr.un;have:min x.depth y.depth<=60:=ZBm (Nat.min_le_right _ _) b2;omega
theorem ZzW{k:Nat}(hr:Zap k X.A):Zfy X .Eq HM.Zmy:=by
 refine⟨⟨_,Zza hr,λF H x y z v w Q s e r1 r2 k=>?_⟩,by decide,by decide⟩;unfold HM.Zmy at e;split at e
 ·rename_i hp
  cases e;rw[ZAW]at hp;exact⟨F,x,y,s,r1,r2,hp.1,hp.2,k _ (.bl _)⟩
 ·cases e
end
end HP
namespace HP
open PySem
variable{S:Addr}
abbrev mdA(I S:Addr)(dv:Value):Args:=⟨[.ref I,.none,.ref S],[(ZAQ "default",dv)]⟩
theorem ZkB:(toString "min" ++ toString ".loop":String) = "min.loop":=by decide
theorem Zwb(a dv:Value):argsOk "min" ⟨[a],[(ZAQ "default",dv)]⟩:=by unfold argsOk; kernel_rfl
section
variable{prog:Program}{w:World}{A:Around}{R:Result->Shared->Prop}{I:Addr}{fp wr:List Addr}{n:Nat}{P:Nat->Value->Prop}{St:Nat->Heap->Prop}
theorem ZwN(W:Walks prog w A.in1 I fp wr n P St)(bt:Nat->Nat->Bool)(hc:CmpOf prog w A.in1 .Lt P bt)(hf:S ∉ fp)(dv:Value):∀(k j:Nat) (s:Shared) (b:Value) (ep:Nat),n=j+1+k->St (j+1) s.heap->P (argBest bt j) b ->
  s.heap.get? S=Z { cls:=.type "list",dict:=Z_,data:=.seq #[b,b] ep,slots:=#[] } ->
  (∀v h' tk,P (argBest bt (n-1)) v->(∀x o,x ∉ wr->x≠S->s.heap.get? x=Z o->h'.get? x=Z o)->R (.ok (.ret v)) { s with heap:=h',toks:=tk }) ->
  codeAny (model prog w) A (.builtin "min.loop" (mdA I S dv)) R s:=by
 have hw:S ∉ wr:=λh=>hf (W.sub _ h);intro k
 induction k with
 | zero =>
  intro j s b ep hn st pb gS out;have hn:n=j+1:=by omega
  subst hn;refine ZBP ZDL ?_;rw[ZBz ZBV _];show wpAny _ A.in1 (seqItems? (.ref S) >>= _) _ _ s;refine ZAm (ZDz gS rfl ?_);show wpAny _ A.in1 (tryCatch (pyNext (.ref I)) _ >>= _) _ _ s;refine ZAm (ZDA (W.done s _ _ st λh1 tk keep=>?_));have gS1:=keep S _ hw gS;show wpAny _ A.in1 (updateSeq S (λ_=>#[]) >>= _) _ _ _;exact ZAm (ZEW gS1 rfl (ZAm (ZE5 (ZAr (out b _ tk pb λx o hx hS e=>(ZBT _ _ (ZBy hS)).trans (keep x o hx e))))))
 | succ k ih =>
  intro j s b ep hn st pb gS out;refine ZBP ZDL ?_;rw[ZBz ZBV _];show wpAny _ A.in1 (seqItems? (.ref S) >>= _) _ _ s;refine ZAm (ZDz gS rfl ?_);show wpAny _ A.in1 (tryCatch (pyNext (.ref I)) _ >>= _) _ _ s;refine ZAm (ZDA (W.item (j+1) s _ _ (by omega) st λv h1 tk pv st1 keep=>?_));have gS1:=keep S _ hw gS;show wpAny _ A.in1 (tryCatch (holding [v,v] (richCompare .Lt v b >>= _)) _ >>= _) _ _ _;refine ZAm (ZDA (ZBG (ZAm (hc (j+1) (argBest bt j) v b _ _ _ pv pb (ZAm (ZBG (ZB5 (ZAm (ZE5 (ZAr ?_))))))))));have best:argBest bt (j+1)=if bt (j+1) (argBest bt j)then j+1 else argBest bt j:=rfl
  cases hb:bt (j+1) (argBest bt j)with
  | true =>
   rw[hb,if_pos rfl]at best;simp only[if_true];refine ZAm (ZEW gS1 rfl (ZAm (ZE5 ?_)));rw[ZkB];refine ZAr ⟨ZCG ZBV _,ih (j+1) _ v _ (by omega) (W.frame _ _ _ st1 λx hx o e=>?_) (by rw[best]; exact pv) (ZBt _ gS1 rfl) λv' h2 tk2 p' keep2=>?_⟩
   ·exact(ZBT _ _ (λz:S=x=>hf (by rw[z]; exact hx))).trans e
   ·exact out v' h2 tk2 p' λx o hx hS e=>keep2 x o hx hS ((ZBT _ _ (ZBy hS)).trans (keep x o hx e))
  | false=>rw[hb,if_neg (by simp)]at best;simp only[ZCi,if_false];refine ZAm (ZE5 ?_);rw[ZkB];exact ZAr ⟨ZCG ZBV _,ih (j+1) _ b ep (by omega) st1 (by rw[best]; exact pb) gS1 λv' h2 tk2 p' keep2=>out v' h2 tk2 p' λx o hx hS e=>keep2 x o hx hS (keep x o hx e)⟩
theorem Zvw(W:Walks prog w A.in1 I fp wr n P St)(bt:Nat->Nat->Bool)(hc:CmpOf prog w A.in1 .Lt P bt)(hf:S ∉ fp)(dv:Value){s:Shared}{ep:Nat}(st:St 0 s.heap)
  (gS:s.heap.get? S=Z { cls:=.type "list",dict:=Z_,data:=.seq #[] ep,slots:=#[] })
  (o0:n=0->∀h' tk,(∀x o,x ∉ wr->x≠S->s.heap.get? x=Z o->h'.get? x=Z o)->R (.ok (.ret dv)) { s with heap:=h',toks:=tk })
  (o1:0<n->∀v h' tk,P (argBest bt (n-1)) v->(∀x o,x ∉ wr->x≠S->s.heap.get? x=Z o->h'.get? x=Z o)->R (.ok (.ret v)) { s with heap:=h',toks:=tk }) :
  codeAny (model prog w) A (.builtin "min.loop" (mdA I S dv)) R s:=by
 have hw:S ∉ wr:=λh=>hf (W.sub _ h);refine ZBP ZDL ?_;rw[ZBz ZBV _];show wpAny _ A.in1 (seqItems? (.ref S) >>= _) _ _ s;refine ZAm (ZDz gS rfl ?_);show wpAny _ A.in1 (tryCatch (pyNext (.ref I)) _ >>= _) _ _ s
 by_cases h0:n=0
 ·subst h0
  refine ZAm (ZDA (W.done s _ _ st λh1 tk keep=>?_));show wpAny _ A.in1 (rule _ >>= _) _ _ _;exact ZAm (ZEw (ZAr (o0 rfl h1 tk λx o hx _ e=>keep x o hx e)))
 ·refine ZAm (ZDA (W.item 0 s _ _ (by omega) st λv h1 tk pv st1 keep=>?_))
  have gS1:=keep S _ hw gS;show wpAny _ A.in1 (updateSeq S (λ_=>#[v,v]) >>= _) _ _ _;refine ZAm (ZEW gS1 rfl ?_);rw[ZkB];refine ZAr ⟨ZCG ZBV _,ZwN W bt hc hf dv (n-1) 0 _ v _ (by omega) (W.frame _ _ _ st1 λx hx o e=>?_) pv (ZBt _ gS1 rfl) λv' h2 tk2 p' keep2=>?_⟩
  ·exact(ZBT _ _ (λz:S=x=>hf (by rw[z]; exact hx))).trans e
  ·exact o1 (by omega) v' h2 tk2 p' λx o hx hS e=>keep2 x o hx hS ((ZBT _ _ (ZBy hS)).trans (keep x o hx e))
end
end HP
namespace HP
open PySem PySem.Spec PyProof.Rows L2
variable{cs:List PyData}{K:ZAo}{st:Stmt}{x:Str}
variable[FX]
theorem Rep.fn_inv{F:Hp}{t:Nat}{v:V}(h:Rep K F (HM.fnD t cs) v):∃a,v=.ref a/\FX.fv t cs F a:=by
 cases h with
 | @dct a es kvs vvs h he hk hr =>
  cases kvs with
  | nil=>cases he
  | cons p r =>
   injection he with h1 _
   injection h1 with h2 _
   cases h2
 | fn h=>exact⟨_,rfl,h⟩
theorem ZoU{d:PyData}{t:Nat}(h:HM.ZiY d=Z (t,cs)):d=HM.fnD t cs:=by
 unfold HM.ZiY at h;split at h
 ·cases h; rfl
 ·cases h
structure GFn(mg:Str->Option Value)(x:Str)(t:Nat):Prop where
 ex:∃f,mg x=Z (.ref f)/\∀F,FX.fv t [] F f
section
variable{X:Cx}{pos p:Pos}{e a b:Expr}{es:List Expr}{f:HM.AF}
theorem Zoh{t:Nat}(h:GFn X.mg x t)(hg:Gl X x:=by rfl)(hd:(x==("__debug__":Str))=ZFu:=by decide):XE X (.Name x pos) (HM.eC (HM.fnD t [])):=by obtain⟨f,hm,hv⟩:=h.ex;exact Zep (Zmv hg hm (v:=.ref f) rfl hd) λF=>.fn (hv F)
structure ZcQ(P:Program)(w:World)(K:ZAo)(mg:Str->Option Value)(base:Heap)(k:Nat)(ap:HM.AP):Prop where
 fn:∀{t:Nat} {cs:List PyData} {F:Hp} {a:Addr},FX.fv t cs F a->∀{A:Around} {outer:List Env} {s:Shared} {H:Hp},ZfB P w K mg base A outer s H->Zs F H->ZFq a s.heap
 run:∀{t:Nat} {cs:List PyData} {F:Hp} {a:Addr},FX.fv t cs F a->∀{A:Around} {outer:List Env} {s:Shared} {H:Hp},ZfB P w K mg base A outer s H->Zs F H ->
  ∀{us:List Value} {vs:List V} {ds:List PyData} {d:PyData} {Q:VK},Zap k A->Tb H->NoT F->Vals vs us->Zv K F ds vs->ap t cs ds=Z d->(∀v F' H',Ext F H F' H'->Rep K F' d v->Q v H') ->
   codeAny (model P w) A (.call (.ref a) ⟨us,[]⟩) (CR CX0 outer P w H s Q E0) s
theorem ZcQ.mono{P:Program}{w:World}{K:ZAo}{mg:Str->Option Value}{base:Heap}{j k:Nat}{ap:HM.AP}(C:ZcQ P w K mg base j ap)(h:j<=k):ZcQ P w K mg base k ap :=
 ⟨C.fn,by intro t cs F a q A outer s H e z us vs ds d Q hr; exact C.run q e z (hr.mono h)⟩
theorem Zk2{k:Nat}{ap:HM.AP}(C:ZcQ X.prog X.w X.K X.mg X.base k ap)(hr:Zap k X.A)(i:Nat)(ha:XA X (e::es) f)(hN:X.N[i]?=Z x:=by rfl)
  (hv:Vis X.env.scope x:=by first | exact ZBc rfl | exact ZAT (ZBc rfl) | exact ZAT (ZAT rfl)) (hd:(x==("__debug__":Str))=ZFu:=by decide) (hcd:(x==("__classdict__":Str))=ZFu:=by decide)
  (he:ZAD (e::es) X.env=(ZFu,eval e X.env)::ZAD es X.env:=by rfl) (hpl:(backTo pos (ZAD es X.env)).any (·.1)=ZFu:=by rfl):XE X (.Call (.Name x p) (e::es) [] pos) (HM.Zc8 ap i f):=by
 intro r d h;unfold HM.Zc8 at h;split at h
 case h_2=>cases h
 rename_i d0 hs;split at h
 case h_2=>cases h
 rename_i t cs hu;split at h
 case h_2=>cases h
 rename_i ds hds;obtain rfl:=ZoU hu;intro pins s σ H Q I ⟨F0,H0,F1,at_,kk⟩;obtain⟨v,h1,h2⟩:=at_.plain hs;obtain⟨q,rfl,fv⟩:=h2.fn_inv;refine ZCh (thn (ZbL hN hv hd hcd pins s σ H (λv' H'=>v'=.ref q/\H'=H) I ⟨_,h1,rfl,rfl⟩) λu s1 ⟨v',H1,I1,r1,e1,e2⟩=>?_);subst e1 e2;obtain rfl:u=ZBh q:=r1;refine ZFr (C.fn fv I1.env0 at_.sub) (thn (ha.pa r ds hds pos pins s1 σ H1 (λvs H2=>∃F2,Ext F1 H1 F2 H2/\Zv X.K F2 ds vs) I1 ⟨F0,H0,F1,at_,λvs F2 H2 x2 q2=>⟨F2,x2,q2⟩⟩) λus s2 ⟨vs,H2,I2,r2,F2,x2,q2⟩=>?_) he hpl;have fv2:=FX.mono fv x2.ff;refine⟨C.fn fv2 I2.env0 x2.sub,ZEu (ZCk (C.run fv2 I2.env0 x2.sub hr (at_.tbx x2) (at_.ntx x2) r2 q2 h λv F' H' x3 q3=>kk v F' H' (x2.trans x3) q3) λrs s' hq=>?_)⟩;cases rs with
 | error e=>exact ZBk hq
 | ok fl =>
  cases fl with
  | ret u=>exact I2.after hq
  | next=>exact ZBk hq
  | brk=>exact ZBk hq
  | cont=>exact ZBk hq
def spN(K:ZAo)(n:Nat)(M:List PyData->Option (List (List Key × PyData))):Sp:=λvs H Q _=>∃F ds kvs,vs.length=n/\Zs F H/\Tb H/\NoT F/\Zv K F ds vs/\M ds=Z kvs /\
 ∀l vvs F' H',Ext F H F' H'->H' l=Z (.dT vvs)->kvs.map (·.1)=vvs.map (·.1)->Zv K F' (kvs.map (·.2)) (vvs.map (·.2))->F' l=Z_->H l=Z_->Q (.ref l) H'
structure ZeG(P:Program)(w:World)(K:ZAo)(mg:Str->Option Value)(base:Heap)(k:Nat)(x:Str)(M:List PyData->Option (List (List Key × PyData))):Prop where
 ex:∃f fd ps,(∀ds d,M ds=Z d->ds.length=ps.length)/\ZdM P w K mg base CX0 k f fd ps (spN K ps.length M)/\mg x=Z (.ref f)/\ZBS K (.ref f)=ZFt/\Binds K fd ps []
theorem ZeG.mono{P:Program}{w:World}{K:ZAo}{mg:Str->Option Value}{base:Heap}{j k:Nat}{x:Str}{M:List PyData->Option (List (List Key × PyData))}(C:ZeG P w K mg base j x M)(h:j<=k):ZeG P w K mg base k x M:=by obtain⟨f,fd,ps,l,F,r⟩:=C.ex;exact⟨f,fd,ps,l,F.mono h,r⟩
theorem Zv.flat{K:ZAo}{F F':Hp}{ds:List PyData}{vs:List V}(r:Zv K F ds vs)(h:∀d∈ds,HM.ZlW d=ZFt):Zv K F' ds vs :=
 ⟨r.1,λi d v h1 h2=>(r.2 i d v h1 h2).flat (h d (ZAR h1))⟩
theorem Zuv{k:Nat}{g:HM.AF}{M:List PyData->Option (List (List Key × PyData))}(C:ZeG X.prog X.w X.K X.mg X.base k x M)(hr:Zap k X.A)(ha:XAL X (e::es) g)(hg:Gl X x:=by rfl)(hdb:(x==("__debug__":Str))=ZFu:=by decide)
  (he:ZAD (e::es) X.env=(ZFu,eval e X.env)::ZAD es X.env:=by rfl) (hpl:(backTo pos (ZAD es X.env)).any (·.1)=ZFu:=by rfl):XF X (.Call (.Name x p) (e::es) [] pos) (HM.Zj6 M g):=by
 intro r d hd;unfold HM.Zj6 at hd;split at hd
 case h_2=>cases hd
 rename_i ds hds;split at hd
 case h_2=>cases hd
 rename_i kvs hM;split at hd
 case isFalse=>cases hd
 rename_i hfl;cases hd;obtain⟨fa,fd,ps,hl,F,hm,hk,hb⟩:=C.ex;refine PE.imp (Zmw (E:=E0) F hr hg hm hk hb .nil Zsr (ha.pa r ds hds) hdb he hpl) λσ H Q ⟨F0,H0,F1,at_,kk⟩=>?_;refine⟨F0,H0,F1,at_,λvs F' H' x q=>?_⟩;show spN X.K ps.length M (vs++[]) H' Q E0;rw[ZBa];refine⟨Zcp H',ds,kvs,by rw[<-q.1]; exact hl ds _ hM,Zf4,at_.tbx x,.drop,q.drop',hM,λl vvs F2 H2 x2 h1 h2 h3 h4 h5=>?_⟩;refine kk _ F' H2 (x.trans (Ext.forget x.sub (at_.ntx x) x2)) ⟨[l],.ot h1 h2 (h3.flat λd hd=>?_),by simp,λc hc=>?_⟩
 ·obtain⟨q,h6,rfl⟩:=ZAv.mp hd
  exact ZAF.mp hfl q h6
 ·obtain rfl:c=l:=by simpa using hc
  exact⟨x.sub.free h5,x.hh.free h5⟩
def tSn(K:ZAo)(r:HM.Env)(kvs:List (List Key × PyData)):TS:=λE σ H=>Now K r σ H λF0 H0 F=>∀l vvs F' H',Ext F0 H0 F' H'->H' l=Z (.dT vvs)->kvs.map (·.1)=vvs.map (·.1)->Zv K F' (kvs.map (·.2)) (vvs.map (·.2))->F' l=Z_->H0 l=Z_->E.rt (.ref l) H'
def XSn(X:Cx)(sts:List Stmt)(m:HM.NF):Prop:=∀r kvs,m r=Z kvs->PSs X sts (tSn X.K r kvs)
theorem Zo9{rest:List Stmt}{g:HM.SF}{m:HM.NF}(h1:XS X st g)(h2:XSn X rest m):XSn X (st::rest) (HM.Zlm g m):=by
 intro r kvs h;unfold HM.Zlm at h;split at h
 ·rename_i r' q
  refine PSs.imp (ZiP (h1 r _ q) (h2 r' kvs h)) λE σ H ⟨F0,H0,F,at_,k⟩=>?_;exact⟨F0,H0,F,at_,λσ' F' H' at'=>⟨F0,H0,F',at',k⟩⟩
 ·cases h
theorem Zv8(j:Nat){p1:Pos}(hN:X.N[j]?=Z x:=by rfl)(hv:Vis X.env.scope x:=by first | exact ZBc rfl | exact ZAT (ZBc rfl) | exact ZAT (ZAT rfl))(hd:(x==("__debug__":Str))=ZFu:=by decide)
  (hcd:(x==("__classdict__":Str))=ZFu:=by decide):XSn X [.Return (Z (.Name x p)) p1] (HM.Zpw j):=by
 intro r kvs h;unfold HM.Zpw at h;split at h
 ·rename_i kvs' hs
  cases h;refine PSs.imp (ZiP (Zpq (ZbL hN hv hd hcd)) Zhq) λE σ H ⟨F0,H0,F,⟨fp,at_⟩,k⟩=>?_;obtain⟨v,h1,h2⟩:=at_.at_ j _ hs;generalize hfp:fp j=fj at h2;cases h2 with
  | @ot l _ vvs hl hk q=>have ho:=at_.own j l (by rw[hfp]; simp);exact⟨_,h1,k l vvs F H at_.ext hl hk q ho.1 ho.2⟩
 ·cases h
theorem Zsw{P:Program}{w:World}{mg:Str->Option Value}{base:Heap}{k:Nat}{qual:Str}{f:Addr}{fd:FuncData}{N ps:List Str}{m:HM.NF}(Fn:Fun K x qual st f fd)(S:Zu N ps (Zf st))(hm:mg x=Z (.ref f))(hb:Binds K fd ps [])
  (body:∀(cdv:Value) (A:Around) (outer:List Env) (s:Shared) (H:Hp) (E:XK),Zap k (A.deeper (envOfC qual (Zf st) s.heap.objs.size f cdv))->XSn (Zge CX0 P w K mg base N qual (Zf st) f cdv A outer s H E).nox (ZaZ st) m) :
  ZeG P w K mg base (k+1) x (HM.newOf ps.length N.length m):=by
 have hpl:ps.length<=N.length:=by have:=congrArg ZA8 S.pre; rw[ZB1]at this; omega
 refine⟨f,fd,ps,λds d h=>?_,Fn.ok S (λvs H Q E h=>?_) (λcdv A outer s H vs Q E hr h=>?_),hm,Fn.kp,hb⟩
 ·unfold HM.newOf at h
  split at h
  ·assumption
  ·cases h
 ·obtain⟨_,_,_,h,_⟩:=h
  exact h
 ·obtain⟨F,ds,kvs,hl,sub,tb,nt,q,hM,kk⟩:=h
  unfold HM.newOf at hM;split at hM
  ·rename_i hds
   exact⟨_,body cdv A outer s H E hr _ _ hM,F,H,F,Zg9 (N:=N) sub tb nt q (by omega),λl vvs F' H' x h1 h2 h3 h4 h5=>kk l vvs F' H' x h1 h2 h3 h4 h5⟩
  ·cases hM
theorem Zum(hc:X.calm=ZFt){pins:List (Addr × Obj)}{s:Shared}{σ:L2.St}{H:Hp}{l:Addr}{ns:List Int}{Q:VK}(I:Inv X pins σ H s)(hq:SqL X.K H l (ns.map V.int))(q:Q (match ns.min? with | some i=>.int i | none=>.non) H) :
  wpAny (model X.prog X.w) X.A (call (.builtin "min") [.ref l] [(ZAQ "default",.none)]) (EP X pins σ Q) X.xe s:=by
 obtain⟨its,rv,pl,hz⟩:=I.list hq;have hi:=ZdT rv;obtain⟨xs,e⟩:=hi.allInts.items;have hns:ns=xs.toList.map (·.1):=by rw[<-hi.numsOf,<-nums_intItems,<-e]
 have hl:=pl.isList;rw[e]at hl;refine PyProof.Rows.kmk_tree PySem.F.kind_min PySem.F.plain_min PySem.F.entry_min (Zwb _ _) ?_;refine ZAm (ZEc (show Builtin.Builtins.bindParams "min" ["key","default"] 0 ⟨[],[(ZAQ "default",.none)]⟩=pure [Z_,Z .none] from rfl) ?_);refine ZAm (ZAr ?_);refine ZAm (iter_intList hl λs2 e2 st hfp hlI=>?_);subst e2;refine ZAm (ZBn ?_);rw[ZkB];generalize hIT:s.heap.push { cls:=.type "list_iterator",data:=.fields #[.ref l,.int 0 0] }=h1 at st hfp;have z1:h1.objs.size=s.heap.objs.size+1:=by rw[<-hIT]; exact ZCw ..
 have k1:∀b o,s.heap.get? b=Z o->h1.get? b=Z o:=λb o e=>by rw[<-hIT]; exact ZAs _ e
 have W:=Walks.list (prog:=X.prog) (w:=X.w) (A:=X.A.in1) (I.ok.hd hc) s.heap.objs.size l hlI (intItems xs);have hSf:h1.objs.size ∉ [s.heap.objs.size,l]:=λz=>ZCc _ (hfp _ z);have old:∀{h':Heap} {oS:Obj},(∀x o,x ∉ [s.heap.objs.size]->x≠h1.objs.size->(h1.push oS).get? x=Z o->h'.get? x=Z o)->∀b o,s.heap.get? b=Z o->h'.get? b=Z o:=λhk b o e=>by have hb:=ZAG e;exact hk b o (λz=>by rw[ZAu.mp z]at hb; exact ZCc _ hb) (ZAK (by rw[z1]; exact ZC2 hb)) (ZAs _ (k1 b o e))
 refine ZAr ⟨ZCG ZBV _,Zvw W (λi j=>decide (numAt xs i<numAt xs j)) (CmpOf.ints_lt (numAt xs) λ_ _=>ZE3) hSf .none (W.frame _ _ _ st λb _ o e=>ZAs _ e) (ZAH _ rfl) (λh0 h' tk hk=>?_) λh0 v h' tk hP hk=>?_⟩
 ·have e0:ns=[]:=by
   rw[hns];have:xs.size=0:=by simpa [intItems]using h0
   rw[Array.eq_empty_of_size_eq_zero this]; rfl
  subst e0;exact⟨.non,H,I.kept (t':=tk) (old hk),rfl,q⟩
 ·have h0':0<xs.size:=by simpa [intItems]using h0
  have hP':(intItems xs)[argBest (λi j=>decide (numAt xs i<numAt xs j)) (xs.size-1)]?=Z v:=by simpa [intItems]using hP
  obtain⟨t,rfl⟩:=ZE3 hP';obtain⟨g1,g2⟩:=argBest_lt (numAt xs) (xs.size-1);have hm:ns.min?=Z (numAt xs (argBest (λi j=>decide (numAt xs i<numAt xs j)) (xs.size-1))):=by
   refine ZC7.mpr ⟨?_,λa ha=>?_⟩
   ·rw[hns,ZEH]; exact getD_mem (by rw[ZAl,ZAM]; omega)
   ·rw[hns]at ha
    obtain⟨j,hj,rfl⟩:=mem_getD ha;rw[ZAl,ZAM]at hj;rw[<-ZEH]; exact g2 j (by omega)
  rw[hm]at q;exact⟨.int _,H,I.kept (t':=tk) (old hk),⟨t,rfl⟩,q⟩
theorem Zrj{f:HM.BF}{kp p2:Pos}{j:Nat}(hm:X.mg "min" = Z_)(hc:X.calm=ZFt)(ha:XB X a f)(hg:Gl X "min":=by rfl)(hs:ZAD [a] X.env=[(ZFu,eval a X.env)]:=by rfl)
  (he:backTo pos (ZAD [a] X.env)=(ZFu,eval a X.env)::backTo pos (ZAD [] X.env):=by rfl) (hpl:(backTo pos (ZAD [a] X.env)).any (·.1)=ZFu:=by rfl) :
  XE X (.Call (.Name "min" p) [a] [⟨Z "default",.Constant .none j p2,kp⟩] pos) (HM.Zgw f):=by
 intro r d h;unfold HM.Zgw at h;split at h
 case h_2=>cases h
 rename_i x hx;split at h
 case h_2=>cases h
 rename_i ds hds;split at h
 case h_2=>cases h
 rename_i ns hns;cases h;intro pins s σ H Q I ⟨F0,H0,F,at_,k⟩;refine ZCh (Zig I hg hm ZpS ?_);refine callWith_kw (thn (Zff ha hx hs pos pins s σ H (λvs H1=>∃v fp F1,vs=[v]/\Ext F H F1 H1/\Zam X.K F1 H1 x v fp) I ⟨F0,H0,F,at_,λv fp F' H' x1 r1=>⟨v,fp,F',rfl,x1,r1⟩⟩) λus s1 ⟨vs,H1,I1,rv,v,fp,F1,e1,x1,r1⟩=>?_) he hpl;subst e1;obtain⟨u,rfl,ru⟩:=vals1 rv;obtain⟨l,ws,rfl,hq,rs⟩:=ZdR x1.sub r1 hds;obtain rfl:u=ZBh l:=ru;rw[Zcs hns rs]at hq;refine kws_cons (thn (Zuc pins s1 σ H1 (λv' H'=>v'=.non/\H'=H1) I1 ⟨rfl,rfl⟩) λu2 s2 ⟨v',H2,I2,r2,e2,e3⟩=>?_);subst e2 e3;obtain rfl:u2=ZBp:=r2;refine kws_nil ?_;refine Zum hc I2 hq ?_;refine k _ F1 H2 x1 ?_;cases ns.min? with
 | none=>exact .non
 | some i=>exact .int i
end
end HP
namespace HP
open PySem PySem.Spec PyProof.Rows L2
variable{F:Hp}{K:ZAo}
abbrev FX0:FX where
 tl:=[]
 fv:=λ_ _ _ _=>False
 sw:=λ_ _ h=>h
 drop:=λh=>h
 mono:=λh _=>h
structure Clo(K:ZAo)(F:Hp)(p:Addr)(params:Arguments)(body:Expr)(scope:Scope)(names:List Str)(cs:List PyData):Prop where
 ex:∃(qual:Str) (pm ctv:Value) (c:Addr) (oc:Obj) (clos:List (Str × Addr)),
  F p=Z (Zbq p (ZD3 "<lambda>" qual params body scope clos pm c ctv))/\F c=Z (Zbq c oc)/\ZmG oc qual /\
  (∀x y a,clos.lookup x=Z a->clos.lookup y=Z a->x=y)/\(∀y∈scope.names,y.2=.free->(clos.lookup y.1).isSome=ZFt) /\
  (∀x a,clos.lookup x=Z a->∃o v,F a=Z (Zbq a o)/\o.data=.cell v) /\
  names.length=cs.length/\∀(i:Nat) (x:Str) (d:PyData),names[i]?=Z x->cs[i]?=Z d->∃a o u v,clos.lookup x=Z a/\F a=Z (Zbq a o)/\o.data=.cell (Z u)/\RelV v u/\@Rep FX0 K F d v
section
variable{K:ZAo}{F F':Hp}{p:Addr}{params:Arguments}{body:Expr}{scope:Scope}{names:List Str}{cs:List PyData}
theorem Clo.mono(h:Clo K F p params body scope names cs)(s:Zs F F'):Clo K F' p params body scope names cs:=by
 obtain⟨qual,pm,ctv,c,oc,clos,h1,h2,h3,h4,h5,h6,h7,h8⟩:=h.ex;refine⟨qual,pm,ctv,c,oc,clos,s _ _ h1,s _ _ h2,h3,h4,h5,λx a e=>?_,h7,λi x d e1 e2=>?_⟩
 ·obtain⟨o,u,q1,q2⟩:=h6 x a e
  exact⟨o,u,s _ _ q1,q2⟩
 ·obtain⟨a,o,u,v,q1,q2,q3,q4,q5⟩:=h8 i x d e1 e2
  exact⟨a,o,u,v,q1,s _ _ q2,q3,q4,@Rep.mono FX0 _ _ _ _ _ q5 s⟩
theorem Clo.drop(h:Clo K F p params body scope names cs):Clo K (Zcp F) p params body scope names cs:=by
 obtain⟨qual,pm,ctv,c,oc,clos,h1,h2,h3,h4,h5,h6,h7,h8⟩:=h.ex;refine⟨qual,pm,ctv,c,oc,clos,Zcy h1 rfl,Zcy h2 rfl,h3,h4,h5,λx a e=>?_,h7,λi x d e1 e2=>?_⟩
 ·obtain⟨o,u,q1,q2⟩:=h6 x a e
  exact⟨o,u,Zcy q1 rfl,q2⟩
 ·obtain⟨a,o,u,v,q1,q2,q3,q4,q5⟩:=h8 i x d e1 e2
  exact⟨a,o,u,v,q1,Zcy q2 rfl,q3,q4,@Rep.drop FX0 _ _ _ _ q5⟩
theorem Clo.sw{a:Addr}{ob:HO}{vvs:List (List Key × V)}(hF:∀u,F a=Z u->Dk vvs u)(hob:Dk vvs ob)(h:Clo K F p params body scope names cs):Clo K (HP.sw a ob F) p params body scope names cs:=by
 have key:∀{b:Addr} {o:Obj},F b=Z (Zbq b o)->HP.sw a ob F b=Z (Zbq b o):=λ{b o} e=>by
  have hb:b≠a:=λz=>by subst z;have:=@Dk.te FX0 _ _ (hF _ e);cases this
  unfold HP.sw; rw[if_neg hb]; exact e
 obtain⟨qual,pm,ctv,c,oc,clos,h1,h2,h3,h4,h5,h6,h7,h8⟩:=h.ex;refine⟨qual,pm,ctv,c,oc,clos,key h1,key h2,h3,h4,h5,λx a e=>?_,h7,λi x d e1 e2=>?_⟩
 ·obtain⟨o,u,q1,q2⟩:=h6 x a e
  exact⟨o,u,key q1,q2⟩
 ·obtain⟨a,o,u,v,q1,q2,q3,q4,q5⟩:=h8 i x d e1 e2
  exact⟨a,o,u,v,q1,key q2,q3,q4,@Rep.sw FX0 _ _ _ _ _ _ _ hF hob q5⟩
end
theorem Rep.up[FX]{d:PyData}{v:V}(r:@Rep FX0 K F d v):Rep K F d v:=by
 induction r with
 | non=>exact .non
 | bl b=>exact .bl b
 | int i=>exact .int i
 | str x=>exact .str x
 | tup h hl _ ih=>exact .tup h hl ih
 | tupk h=>exact .tupk h
 | lst h hl _ ih=>exact .lst h hl ih
 | dct h he hk _ ih=>exact .dct h he hk ih
 | fn h=>exact h.elim
theorem Rep.cutF[FX]{F':Hp}(hF:∀b o,F b=Z o->te o=ZFu->F' b=Z o){d:PyData}{v:V}(r:Rep K F d v):∀n,HM.noF n d=ZFt->@Rep FX0 K F' d v:=by
 induction r with
 | non=>intro _ _; exact @Rep.non FX0 _ _
 | bl b=>intro _ _; exact @Rep.bl FX0 _ _ b
 | int i=>intro _ _; exact @Rep.int FX0 _ _ i
 | str x=>intro _ _; exact @Rep.str FX0 _ _ x
 | tupk h=>intro _ _; exact @Rep.tupk FX0 _ _ _ _ h
 | tup h hl _ ih =>
  intro n hn;cases n with
  | zero=>cases hn
  | succ n=>exact @Rep.tup FX0 _ _ _ _ _ (hF _ _ h rfl) hl λi d v h1 h2=>ih i d v h1 h2 n (ZAF.mp hn d (ZAR h1))
 | lst h hl _ ih =>
  intro n hn;cases n with
  | zero=>cases hn
  | succ n =>
   refine @Rep.lst FX0 _ _ _ _ _ ?_ hl λi d v h1 h2=>ih i d v h1 h2 n (ZAF.mp hn d (ZAR h1));rcases h with(h | ⟨o,h⟩) | h
   ·exact .inl (.inl (hF _ _ h rfl))
   ·exact .inl (.inr ⟨o,hF _ _ h rfl⟩)
   ·exact .inr h
 | @dct a es kvs vvs h he hk _ ih =>
  intro n hn;cases n with
  | zero=>cases hn
  | succ n =>
   refine @Rep.dct FX0 _ _ _ _ kvs vvs ?_ he hk λi d v h1 h2=>ih i d v h1 h2 n ?_
   ·rcases h with h | ⟨o,h⟩
    ·exact .inl (hF _ _ h rfl)
    ·exact .inr ⟨o,hF _ _ h rfl⟩
   ·subst he
    rw[ZAO]at h1;obtain⟨q,h3,h4⟩:=ZAn.mp h1;subst h4;have hm:(ZAU (q.1.map HM.ZaV),q.2)∈HM.Zh kvs:=ZAv.mpr ⟨q,ZAR h3,rfl⟩;have:=ZAF.mp hn _ hm;rw[ZAW]at this;exact this.2
 | fn h =>
  intro n hn;cases n with
  | zero=>cases hn
  | succ n=>have:=ZAF.mp hn _ (ZAp ..);cases this
end HP
namespace HP
open PySem PySem.Spec PyProof.Rows L2
variable{a b:Addr}{G H:Hp}{C:List Addr}{o:Obj}
theorem Rep0.cut{K:ZAo}{F F':Hp}(hF:∀b o,F b=Z o->te o=ZFu->F' b=Z o){d:PyData}{v:V}(r:@Rep FX0 K F d v):@Rep FX0 K F' d v:=by
 induction r with
 | non=>exact @Rep.non FX0 _ _
 | bl b=>exact @Rep.bl FX0 _ _ b
 | int i=>exact @Rep.int FX0 _ _ i
 | str x=>exact @Rep.str FX0 _ _ x
 | tupk h=>exact @Rep.tupk FX0 _ _ _ _ h
 | tup h hl _ ih=>exact @Rep.tup FX0 _ _ _ _ _ (hF _ _ h rfl) hl ih
 | lst h hl _ ih =>
  refine @Rep.lst FX0 _ _ _ _ _ ?_ hl ih;rcases h with(h | ⟨o,h⟩) | h
  ·exact .inl (.inl (hF _ _ h rfl))
  ·exact .inl (.inr ⟨o,hF _ _ h rfl⟩)
  ·exact .inr h
 | @dct a es kvs vvs h he hk _ ih =>
  refine @Rep.dct FX0 _ _ _ _ kvs vvs ?_ he hk ih;rcases h with h | ⟨o,h⟩
  ·exact .inl (hF _ _ h rfl)
  ·exact .inr ⟨o,hF _ _ h rfl⟩
 | fn h=>exact h.elim
def Zbh(C:List Addr)(H:Hp):Hp:=λb=>if b∈C then Z_ else H b
theorem Zik(h:b∈C):Zbh C H b=Z_:=by unfold Zbh; rw[if_pos h]
theorem Zav(h:b ∉ C):Zbh C H b=H b:=by unfold Zbh; rw[if_neg h]
theorem ZiJ{o:HO}(h:Zbh C H b=Z o):b ∉ C/\H b=Z o:=by
 unfold Zbh at h;split at h
 ·cases h
 ·exact⟨by assumption,h⟩
def ZhQ(C:List Addr)(G H:Hp):Hp:=λb=>if b∈C then G b else H b
theorem Zft(h:b∈C):ZhQ C G H b=G b:=by unfold ZhQ; rw[if_pos h]
theorem Zbp(h:b ∉ C):ZhQ C G H b=H b:=by unfold ZhQ; rw[if_neg h]
section
variable{P:Program}{w:World}{C:List Addr}{G H H':Hp}{h h':Heap}
theorem Zco(x:Zai P w H h a (Zbq a o)):h.get? a=Z o:=x.1
theorem Zkl(e:h.get? a=Z o):Zai P w H h a (Zbq a o):=⟨e,⟨o,e⟩,λh1 h2 q k=>k o q⟩
theorem HOk.cut(x:HOk P w H h)(hC:∀c∈C,∀o,H c=Z o->te o=ZFt):HOk P w (Zbh C H) h:=λa o e=>by
 obtain⟨_,e⟩:=ZiJ e;have out:∀{b:Addr} {u:HO},H b=Z u->te u=ZFu->Zbh C H b=Z u:=λ{b u} q t=>by rw[Zav λz=>by rw[hC b z u q]at t; cases t]; exact q
 exact(x a o e).stay (λ_ _ _ q=>q) (λb q=>out q rfl) λb xs q=>out q rfl
theorem HOk.put(x:HOk P w H h)(hn:∀c∈C,H c=Z_)(hC:∀c∈C,∀u,G c=Z u->∃o,u=Zbq c o/\h.get? c=Z o):HOk P w (ZhQ C G H) h:=λa o e=>by
 have out:∀{b:Addr} {u:HO},H b=Z u->ZhQ C G H b=Z u:=λ{b u} q=>by rw[Zbp λz=>by rw[hn b z]at q; cases q]; exact q
 by_cases ha:a∈C
 ·rw[Zft ha]at e
  obtain⟨ob,rfl,hb⟩:=hC a ha o e;exact Zkl hb
 ·rw[Zbp ha]at e
  exact(x a o e).stay (λ_ _ _ q=>q) (λb q=>out q) λb xs q=>out q
end
structure Zlq(scope:Scope)(x:Str)(names:List Str):Prop where
 kind:scope.kind=.function
 co:scope.isCoroutine=ZFu
 gen:scope.isGenerator=ZFu
 nocell:∀y∈scope.names,y.2≠.cell
 par:scope.names.lookup x=Z .local
 free:∀n∈names,scope.names.lookup n=Z .free
 nd:(x::names).Nodup
def Zn5(P:Program)(w:World)(K:ZAo)(mg:Str->Option Value)(base:Heap)(N:List Str)(qual:Str)(scope:Scope)(f:Addr)(cd:Value)(clos:List (Str × Addr))(A:Around)(outer:List Env)(s:Shared)(H:Hp):Cx where
 prog:=P
 w:=w
 K:=K
 mg:=mg
 base:=base
 A:=A.deeper (ZDs qual scope s.heap.objs.size f cd clos)
 N:=N
 s₀:=s
 H₀:=H
 env:=ZDs qual scope s.heap.objs.size f cd clos
 outer:=outer
 stack:=ZDs qual scope s.heap.objs.size f cd clos::outer
 ex:=[]
 calm:=ZFt
 fn:=λ_=>ZFu
 pn:=[]
 xe:=λ_ _=>False
section
variable{P:Program}{w:World}{K:ZAo}{mg:Str->Option Value}{base:Heap}{A:Around}{outer:List Env}{s:Shared}{H:Hp}{k:Nat}
theorem Zuk{qual x:Str}{scope:Scope}{names:List Str}{f:Addr}{cd:Value}{clos:List (Str × Addr)}(S:Zlq scope x names)(hd:A.handled=Z_)(e0:ZfB P w K mg base A outer s H)
  (inj:∀y z a,clos.lookup y=Z a->clos.lookup z=Z a->y=z) (has:∀y∈scope.names,y.2=.free->(clos.lookup y.1).isSome=ZFt)
  (hcell:∀y a,clos.lookup y=Z a->H a=Z_/\∃o v,s.heap.get? a=Z o/\o.data=.cell v)
  {v:V} {u:Value} (rv:RelV v u) {vs:List V} (hlen:names.length=vs.length) (hcap:∀(i:Nat) (y:Str) (v':V),names[i]?=Z y->vs[i]?=Z v'->∃a o u',clos.lookup y=Z a/\s.heap.get? a=Z o/\o.data=.cell (Z u')/\RelV v' u')
  {h':Heap} {tk:Nat} (hns:h'.Ns s.heap.objs.size λy=>[(x,u)].reverse.lookup y) (hsb:ZB9 s.heap.objs.size (s.heap.push { cls:=.type "frame",data:=.dict #[] }) h') :
  Inv (Zn5 P w K mg base (x::names) qual scope f cd clos A outer s H) [] (Z v::vs.map Z) H { s with heap:=h',toks:=tk }:=by
 have hk:∀b o,s.heap.get? b=Z o->h'.get? b=Z o:=λb o e=>hsb.extBut b o (ZAK (ZAG e)) (ZAs _ e);have noA:∀b:Addr,b ∉ (Zn5 P w K mg base (x::names) qual scope f cd clos A outer s H).ex:=λb z=>absurd (show b∈([]:List Addr) from z) (by simp);refine⟨⟨e0.mod,S.kind,rfl,rfl,ZAz _,inj,λy hy=>?_,λy c z=>absurd (show ZFu=ZFt from z) (by simp),λ_=>hd,ZFg e0.frames,.inr ⟨rfl,rfl⟩,λb z=>absurd z (noA b),e0.bs,e0.bsz,λb _ _=>noA b,λb z=>absurd z (noA b),e0.funs,e0.frf⟩,
  rfl,e0.bare,Un.kept hk,⟨_,hns,λi y v' h1 h2 h3=>?_⟩,λy c e=>?_,e0.hok.fresh (ZAz _),λy c e=>(hcell y c e).1,λp hp=>absurd (show p∈([]:List (Addr × Obj)) from hp) (by simp),e0.hok.kept hk,?_⟩
 ·have hy:scope.names.lookup y=Z .cell\/scope.names.lookup y=Z .free:=hy
  rcases hy with hy | hy
  ·exact absurd rfl (S.nocell _ (ZBX hy))
  ·exact ZAX.mp (has _ (ZBX hy) rfl)
 ·cases i with
  | zero=>have e1:x=y:=ZA9 h1;have e2:v=v':=ZA9 (ZA9 h2);subst e1 e2;exact⟨u,rv,.inl ⟨S.par,by simp⟩⟩
  | succ i=>have h1:names[i]?=Z y:=h1;have h2:(vs.map Z)[i]?=Z (Z v'):=h2;rw[ZAO]at h2;obtain⟨v2,h4,h5⟩:=ZAn.mp h2;cases h5;obtain⟨a,o,u',q1,q2,q3,q4⟩:=hcap i y v' h1 h4;exact⟨u',q4,.inr ⟨.inr (S.free y (ZAR h1)),a,q1,o,hk _ _ q2,q3⟩⟩
 ·obtain⟨_,o,v',q1,q2⟩:=hcell y c e
  exact⟨v',o,hk _ _ q1,q2⟩
 ·show(Z v::vs.map Z).length=(x::names).length
  rw[ZAB,ZAB,ZAl,hlen]
end
end HP
namespace HP
open PySem PySem.Spec PyProof.Rows L2
variable[FX]
def cellsOf(clos:List (Str × Addr)):List Addr:=clos.filterMap λq=>clos.lookup q.1
theorem Znq{clos:List (Str × Addr)}{a:Addr}:a∈cellsOf clos↔∃y,clos.lookup y=Z a:=by unfold cellsOf;rw[ZBs];exact⟨λ⟨q,_,h⟩=>⟨q.1,h⟩,λ⟨y,h⟩=>⟨(y,a),ZBX h,h⟩⟩
theorem Tb.cut{P:Program}{w:World}{C:List Addr}{H:Hp}{h:Heap}(t:Tb H)(x:HOk P w H h)(hC:∀c∈C,∃o v,H c=Z (Zbq c o)/\o.data=.cell v):Tb (Zbh C H):=λT q hT=>by
 obtain⟨ps,h1,h2,h3⟩:=t T q hT;refine⟨ps,?_,h2,λpos c hc=>?_⟩
 ·rw[Zav λz=>by
   obtain⟨o,v,e,_⟩:=hC T z;rw[h1]at e; cases e]
  exact h1
 ·obtain⟨a,o,e1,e2,e3⟩:=h3 pos c hc
  refine⟨a,o,e1,?_,e3⟩;rw[Zav λz=>by obtain⟨o',v,f1,f2⟩:=hC a z;have g1:=Zco (x a _ e2);have g2:=Zco (x a _ f1);rw[g1]at g2;cases g2;obtain⟨vs,tt,d1,_⟩:=e3;rw[d1]at f2; cases f2];exact e2
section
variable{P:Program}{w:World}{K:ZAo}{mg:Str->Option Value}{base:Heap}{k:Nat}
theorem ZwR{params:Arguments}{body:Expr}{scope:Scope}{x:Str}{names:List Str}{g:HM.EF}(S:Zlq scope x names)
  (hbind:∀(qual:Str) (clos:List (Str × Addr)) (pm cd ctv u:Value),bindArgs (PySem.W.kla_fn "<lambda>" qual params body scope clos pm cd ctv) ⟨[u],[]⟩=pure [(x,u)])
  (hbody:∀(qual:Str) (f:Addr) (cd:Value) (clos:List (Str × Addr)) (A:Around) (outer:List Env) (s:Shared) (H:Hp),Zap k (A.deeper (ZDs qual scope s.heap.objs.size f cd clos))->XE (Zn5 P w K mg base (x::names) qual scope f cd clos A outer s H) body g)
  {A:Around} {outer:List Env} {s:Shared} {F H:Hp} {p:Addr} {cs:List PyData} (C:Clo K F p params body scope names cs) (e0:ZfB P w K mg base A outer s H) (sub:Zs F H) (hr:Zap (k+1) A) (tb:Tb H) (nt:NoT F)
  {us:List Value} {vs:List V} {ds:List PyData} {d:PyData} {Q:VK} (rv:Vals vs us) (rs:Zv K F ds vs) (hap:HM.Zkv 1 names.length g cs ds=Z d) (kk:∀v F' H',Ext F H F' H'->Rep K F' d v->Q v H') :
  codeAny (model P w) A (.call (.ref p) ⟨us,[]⟩) (CR CX0 outer P w H s Q E0) s:=by
 unfold HM.Zkv at hap;split at hap
 case isFalse=>cases hap
 rename_i hc;obtain⟨hl1,hl2,hnf⟩:=hc;obtain⟨d0,rfl⟩:=List.length_eq_one_iff.mp hl1;obtain⟨v0,vs',rfl,r0,rs'⟩:=rs.cons_inv;obtain rfl:=rs'.nil_inv;obtain⟨u0,rfl,ru0⟩:=vals1 rv;have hnf0:HM.noF 20 d0=ZFt:=by rw[ZBA,ZAW]at hnf; exact hnf.1
 obtain⟨qual,pm,ctv,c,oc,clos,h1,h2,h3,h4,h5,h6,h7,h8⟩:=C.ex;generalize hCs:cellsOf clos=Cs;have hCm:∀a,a∈Cs↔∃y,clos.lookup y=Z a:=λa=>by rw[<-hCs]; exact Znq
 have hCo:∀a∈Cs,∃o v,F a=Z (Zbq a o)/\o.data=.cell v/\s.heap.get? a=Z o:=λa ha=>by obtain⟨y,e⟩:=(hCm a).mp ha;obtain⟨o,v,q1,q2⟩:=h6 y a e;exact⟨o,v,q1,q2,Zco (e0.hok a _ (sub _ _ q1))⟩
 have hCt:∀a∈Cs,∀o,H a=Z o->te o=ZFt:=λa ha o e=>by obtain⟨ob,v,q1,_,_⟩:=hCo a ha;rw[sub _ _ q1]at e; cases e; rfl
 have hCn:∀a∈Cs,H a≠Z_:=λa ha z=>by obtain⟨ob,v,q1,_,_⟩:=hCo a ha;rw[sub _ _ q1]at z; cases z
 have none1:∀b,H b=Z_->Zbh Cs H b=Z_:=λb e=>by
  by_cases hb:b∈Cs
  ·exact Zik hb
  ·rw[Zav hb]; exact e
 have e1:ZfB P w K mg base A outer s (Zbh Cs H):=⟨e0.frames,e0.mod,λb o e=>⟨(e0.bs b o e).1,none1 b (e0.bs b o e).2⟩,e0.bsz,e0.funs,λb hb=>none1 b (e0.frf b hb),HOk.cut e0.hok hCt,e0.bare⟩;have KX:K.In s.heap:=e0.mod.kin.keeps λb o e=>(e0.bs b o e).1;have lim:s.heap.NoLimit:=e0.mod.nolimit.keeps λb o e=>(e0.bs b o e).1;have hcd:s.heap.CodeRec (.ref c) qual:=by obtain⟨vs,t,d1,d2⟩:=h3;exact⟨c,oc,vs,t,rfl,Zco (e0.hok c _ (sub _ _ h2)),d1,d2⟩
 refine PySem.W.kla_callFunE hr.depth (Zco (e0.hok p _ (sub _ _ h1))) rfl S.co S.gen rfl hcd ?_;rw[hbind];refine ZAr (ZD1 S.nocell (λy hy=>by rw[ZAu.mp hy]; exact S.par) (λh' hns hsb=>⟨lim.fresh _ hsb,?_⟩) S.kind);show codeAny _ _ (.expr body (ZDs qual scope s.heap.objs.size p (.ref c) clos)) _ _;have hvs:∃wv:List V,names.length=wv.length/\(∀(i:Nat) (y:Str) (v':V),names[i]?=Z y->wv[i]?=Z v'->∃a o u',clos.lookup y=Z a/\s.heap.get? a=Z o/\o.data=.cell (Z u')/\RelV v' u')/\Zv K (Zbh Cs F) cs wv:=by
  have step:∀n,n<=cs.length->∃wv:List V,wv.length=n/\∀(i:Nat) (y:Str) (d:PyData) (v':V),names[i]?=Z y->cs[i]?=Z d->wv[i]?=Z v'->(∃a o u',clos.lookup y=Z a/\s.heap.get? a=Z o/\o.data=.cell (Z u')/\RelV v' u')/\Rep K (Zbh Cs F) d v':=by
   intro n
   induction n with
   | zero=>exact λ_=>⟨[],rfl,λi y d v' _ _ h=>by simp at h⟩
   | succ n ih =>
    intro hn;obtain⟨wv,l1,l2⟩:=ih (by omega);have hy:n<names.length:=by omega
    have hd:n<cs.length:=by omega
    obtain⟨a,o,u',v',q1,q2,q3,q4,q5⟩:=h8 n names[n] cs[n] (ZAx hy) (ZAx hd);refine⟨wv++[v'],by rw[ZAE,l1]; rfl,λi y d v2 g1 g2 g3=>?_⟩
    by_cases hi:i<n
    ·rw[ZA4 (by omega)]at g3
     exact l2 i y d v2 g1 g2 g3
    ·have hin:i=n:=by
      have:=(ZAC.mp g3).1;rw[ZAE,l1]at this;have:i<n+1:=this;omega
     subst hin;rw[ZBe (by omega),l1,Nat.sub_self]at g3;rw[ZAx hy]at g1;rw[ZAx hd]at g2;cases g1; cases g2; cases g3;refine⟨⟨a,o,u',q1,Zco (e0.hok a _ (sub _ _ q2)),q3,q4⟩,?_⟩;refine(Rep0.cut (λb ob z t=>?_) q5).up;rw[Zav λhb=>by obtain⟨ob',v,w1,_,_⟩:=hCo b hb;rw[w1]at z; cases z; cases t];exact z
  obtain⟨wv,l1,l2⟩:=step cs.length (ZAz _);refine⟨wv,by omega,λi y v' g1 g3=>?_,by omega,λi d v' g2 g3=>?_⟩
  ·have hi:=(ZAC.mp g3).1
   exact(l2 i y cs[i] v' g1 (ZAx (by omega)) g3).1
  ·have hi:=(ZAC.mp g3).1
   exact(l2 i names[i] d v' (ZAx (by omega)) g2 g3).2
 obtain⟨wv,wl,wc,wr⟩:=hvs;have cutF:∀b o,F b=Z o->te o=ZFu->Zbh Cs F b=Z o:=λb ob z t=>by rw[Zav λhb=>by obtain⟨ob',v,w1,_,_⟩:=hCo b hb;rw[w1]at z; cases z; cases t];exact z
 have r0':Rep K (Zbh Cs F) d0 v0:=(Rep.cutF cutF r0 20 hnf0).up;have sub1:Zs (Zbh Cs F) (Zbh Cs H):=λb o e=>by obtain⟨hb,e⟩:=ZiJ e;rw[Zav hb]; exact sub _ _ e
 have nt1:NoT (Zbh Cs F):=λb o e=>nt b o (ZiJ e).2;have tb1:Tb (Zbh Cs H):=tb.cut e0.hok λa ha=>by obtain⟨o,v,q1,q2,_⟩:=hCo a ha;exact⟨o,v,sub _ _ q1,q2⟩
 have I:=Zuk (qual:=qual) (f:=p) (cd:=.ref c) (tk:=s.toks+1) S hr.hd e1 h4 h5 (λy a e=>by obtain⟨o,v,q1,q2,q3⟩:=hCo a ((hCm a).mpr ⟨y,e⟩);exact⟨Zik ((hCm a).mpr ⟨y,e⟩),o,v,q3,q2⟩) ru0 wl wc hns hsb;have a0:At K (Zbh Cs F) (Zbh Cs H) (Zbh Cs F) (Zbh Cs H) ((d0::cs).map λd=>Z (HM.B.pl d)) (Z v0::wv.map Z):=by
  have:=Zg9 (N:=x::names) sub1 tb1 nt1 (Zv.cons r0' wr) (by rw[ZAB,ZAB]; omega);have e3:HM.Zfl (x::names).length (d0::cs)=(d0::cs).map λd=>Z (HM.B.pl d):=by unfold HM.Zfl;rw[ZAB,ZAB,show names.length+1-(cs.length+1)=0 by omega];exact ZBa _
  have e4:L2.start (x::names) (v0::wv)=Z v0::wv.map Z:=by unfold L2.start;rw[ZAB,ZAB,show names.length+1-(wv.length+1)=0 by omega];exact ZBa _
  rw[e3,e4]at this;exact this
 refine PySem.W.kla_codeExpr (ZBM (hbody qual p (.ref c) clos A outer s (Zbh Cs H) (hr.deeper _) _ _ hap [] _ _ _ (λv' H'=>∃F',Ext (Zbh Cs F) (Zbh Cs H) F' H'/\Rep K F' d v') I ⟨_,_,_,a0,λv' F' H' x' q'=>⟨F',x',q'⟩⟩) (λu' s' hq=>?_) λe s' hq=>ZBk hq);obtain⟨v',H',I',ru',F',x',q'⟩:=hq;have un:Un (frs outer) [] (Zbh Cs H) H' s.heap s'.heap:=I'.base;have nfs:∀a∈Cs,a ∉ frs outer:=λa ha hb=>hCn a ha (e0.frf a hb);have kc:∀a∈Cs,∃o,H a=Z (Zbq a o)/\F a=Z (Zbq a o)/\s'.heap.get? a=Z o/\H' a=Z_:=λa ha=>by obtain⟨o,v,q1,q2,q3⟩:=hCo a ha;exact⟨o,sub _ _ q1,q1,un.keep a o q3 (Zik ha) (nfs a ha) (by simp),un.free a o q3 (Zik ha) (by simp)⟩
 have out:∀{b:Addr} {o:HO},H b=Z o->te o=ZFu->b ∉ Cs:=λ{b o} e t hb=>by rw[hCt b hb o e]at t; cases t
 have outN:∀{b:Addr},H b=Z_->b ∉ Cs:=λ{b} e hb=>hCn b hb e;have outT:∀{b:Addr} {ps:Array Value},H b=Z (.tbl ps)->b ∉ Cs:=λ{b ps} e hb=>by obtain⟨o,q,_⟩:=kc b hb;rw[e]at q; cases q
 refine⟨v',ZhQ Cs H H',I'.os,I'.bare,⟨λb o e n hb hx=>?_,λb o e n hb hx=>?_,λb o e n hx=>?_,un.there,λb xs e=>?_,λb o u e=>?_,λb ps e=>?_⟩,HOk.put I'.hok (λa ha=>by obtain⟨_,_,_,_,q⟩:=kc a ha; exact q) (λa ha u e=>?_),ru',kk v' (ZhQ Cs F F') (ZhQ Cs H H') ⟨λb o e=>?_,λb o e=>?_,λb o e=>?_,λb o e=>?_,λt=>?_,λn b o e=>?_⟩ (q'.mono λb o e=>?_)⟩
 ·exact un.keep b o e (none1 b n) hb hx
 ·exact un.slot b o e (none1 b n) hb hx
 ·rw[Zbp (outN n)]; exact un.free b o e (none1 b n) hx
 ·have hb:=out e rfl
  rw[Zbp hb]; exact un.tups b xs (by rw[Zav hb]; exact e)
 ·have hb:=out e rfl
  rw[Zbp hb]; exact un.frzs b o u (by rw[Zav hb]; exact e)
 ·have hb:=outT e
  rw[Zbp hb]; exact un.tbls b ps (by rw[Zav hb]; exact e)
 ·obtain⟨o,q1,_,q3,_⟩:=kc a ha
  rw[q1]at e; cases e;exact⟨o,rfl,q3⟩
 ·by_cases hb:b∈Cs
  ·rw[Zft hb]; exact e
  ·rw[Zbp hb]; exact x'.ff b o (by rw[Zav hb]; exact e)
 ·by_cases hb:b∈Cs
  ·exact .of (by rw[Zft hb]; exact e)
  ·exact(x'.hh b o (by rw[Zav hb]; exact e)).cong (Zbp hb)
 ·by_cases hb:b∈Cs
  ·rw[Zft hb]at e ⊢; exact sub _ _ e
  ·rw[Zbp hb]at e ⊢; exact x'.sub _ _ e
 ·by_cases hb:b∈Cs
  ·rw[Zft hb]at e; exact .inl e
  ·rw[Zbp hb]at e
   rcases x'.new b o e with q | q
   ·exact .inl (ZiJ q).2
   ·refine .inr ?_
    unfold Fre at q ⊢;rw[Zav hb]at q;exact q
 ·exact(x'.tab tb1).keep λa o e _=>by rw[Zbp λhb=>by obtain⟨_,_,_,_,q⟩:=kc a hb;rw[e]at q; cases q];exact e
 ·by_cases hb:b∈Cs
  ·rw[Zft hb]at e; exact n b o e
  ·rw[Zbp hb]at e; exact x'.nts nt1 b o e
 ·rw[Zbp λhb=>by
   obtain⟨_,_,_,_,q⟩:=kc b hb;rw[x'.sub _ _ e]at q; cases q]
  exact e
end
end HP
namespace HP
open PySem PySem.Spec PyProof.Rows L2
variable{b:Addr}{o:HO}{F H:Hp}
variable[FX]
theorem Zsf{a b:Int}{cv:Value}(l:List Value)(h:TriplesOk l):∀(pos:Pos) (c:Value),ZEd pos (l++[rawInt a,rawInt b,cv])=Z c->ZEd pos l=Z c\/c=cv:=by
 fun_induction TriplesOk l with
 | case1 =>
  intro pos c e;simp only[ZCB,ZEd,rawInt]at e;split at e
  ·cases e; exact .inr rfl
  ·cases e
 | case2 x t y u z rest ih =>
  intro pos c e;simp only[ZEI,ZEd]at e ⊢;split at e
  ·rename_i hq
   rw[if_pos hq];exact .inl e
  ·rename_i hq
   rw[if_neg hq];exact ih h pos c e
 | case3=>exact h.elim
def BMod(base:Heap)(mg:Str->Option Value):Prop:=∃bm o,mg "__builtins__" = Z (.ref bm)/\bm≠ZEt/\bm≠ZA7/\base.get? bm=Z o/\o.cls=.type "module"/\o.dict=Z ZEt/\o.data=.plain
structure ZsA(X:Cx)(t:Nat)(params:Arguments)(body:Expr)(scope:Scope)(names:List Str)(is:List Nat):Prop where
 code:∃c P,X.env.code=.ref c/\ZB3 X.K c P=ZFt/\(P,X.env.qual ++ "<lambda>")∈FX.tl/\∀q,(P,q)∈FX.tl->q=X.env.qual ++ "<lambda>"
 bm:BMod X.base X.mg
 dflt:defaultsOf params X.env=([],[])
 len:is.length=names.length
 at_:∀(j i:Nat) (x:Str),is[j]?=Z i->names[j]?=Z x->X.N[i]?=Z x/\X.env.scope.names.lookup x=Z .cell
 cells:∀y∈scope.names,y.2=.free->X.env.scope.names.lookup y.1=Z .cell
 free:∀x∈names,(x,ZCF)∈scope.names
 own:∀x,X.fn x=ZFt
 good:∀F p cs,Clo X.K F p params body scope names cs->FX.fv t cs F p
section
variable{X:Cx}{t:Nat}{params:Arguments}{body:Expr}{scope:Scope}{names:List Str}{is:List Nat}{pos lpos p:Pos}
structure Made(X:Cx)(params:Arguments)(body:Expr)(scope:Scope)(H H':Hp)(q:Addr)(clos:List (Str × Addr)):Prop where
 ex:∃(pm ctv:Value) (c:Addr) (oc:Obj),H' q=Z (Zbq q (ZD3 "<lambda>" (X.env.qual ++ "<lambda>") params body scope clos pm c ctv))/\H' c=Z (Zbq c oc)/\ZmG oc (X.env.qual ++ "<lambda>")
 hh:ZaQ H H'
 tb:Tb H'
theorem ZuT(L:ZsA X t params body scope names is){pins:List (Addr × Obj)}{s:Shared}{σ:L2.St}(I:Inv X pins σ H s)(tb:Tb H){clos:List (Str × Addr)}(hcl:closureFor scope X.env=pure clos) :
  wpAny (model X.prog X.w) X.A (eval (.Lambda params body scope lpos) X.env) (λu s'=>∃q H',u=.ref q/\Inv X pins σ H' s'/\Made X params body scope H H' q clos) X.xe s:=by
 obtain⟨c,P,hc,hh,hm,hu⟩:=L.code;obtain⟨ps,hP,ht,hg⟩:=tb P _ hm;have gP:s.heap.get? P=Z (ZC8 ps):=I.hok P _ hP;have Ns:=I.mod.glob.keeps I.bk;have CH:PySem.W.CodeHd s.heap c P:=ZFl I.kIn hh;obtain⟨bm,ob,b1,b2,b3,b4,b5,b6,b7⟩:=L.bm;have gb:=I.bk _ _ b4;have hbP:bm≠P:=λz=>by rw[z,gP]at gb; cases gb; cases b5
 have hgP:ZA7≠P:=λz=>by obtain⟨o,es,ep,e,hd,_⟩:=Ns;rw[z,gP]at e; cases e; cases hd
 have BA:s.heap.BuiltinsAt X.mg P:=⟨bm,ob,b1,b2,b3,hbP,gb,b5,b6,b7⟩;refine PySem.W.kla_eval L.dflt ?_;cases hq:ZEd lpos ps.toList with
 | some cv =>
  obtain⟨a,oc,rfl,h1,h2⟩:=hg lpos cv hq;refine PySem.W.kla_makeFunctionHit hcl I.ok.glob Ns hc CH gP ht hq BA λctv h' tk hk hz=>?_;generalize hob:ZD3 "<lambda>" (X.env.qual ++ "<lambda>") params body scope clos ((X.mg "__name__").getD .none) a ctv=fo;have hn:H h'.objs.size=Z_:=I.hok.fresh hz;have hk2:∀b o,s.heap.get? b=Z o->(h'.push fo).get? b=Z o:=λb o e=>ZAs _ (hk b o e);have gq:(h'.push fo).get? h'.objs.size=Z fo:=by rw[<-hob]; exact ZAH _ rfl
  refine⟨h'.objs.size,upd H h'.objs.size (Zbq h'.objs.size fo),rfl,?_,⟨_,ctv,a,oc,by rw[ZI,<-hob],?_,h2⟩,.of (Zlh hn),tb.same (Zlh hn)⟩
  ·subst hob
   exact I.laid (t':=tk) hk2 hz (Zkl gq)
  ·rw[ZB (ZaE h1 hn)]; exact h1
 | none =>
  refine PySem.W.kla_makeFunction hcl I.ok.glob Ns hc CH gP ht hq hgP BA λc' ctv h' tk hx hge hlt hrec htab=>?_;generalize hob:ZD3 "<lambda>" (X.env.qual ++ "<lambda>") params body scope clos ((X.mg "__name__").getD .none) c' ctv=fo;generalize hps:ps++#[rawInt lpos.line,rawInt lpos.col,ZBh c']=ps2 at htab;obtain⟨c2,oc,vs,tq,e2,goc,d1,d2⟩:=hrec;cases e2;have hcn:H c'=Z_:=I.hok.fresh hge;have hqn:H h'.objs.size=Z_:=I.hok.fresh (ZBm hge (ZCj hlt));have hcq:c'≠h'.objs.size:=ZAK hlt;have hcP:c'≠P:=λz=>by rw[z,hP]at hcn; cases hcn
  have hqP:h'.objs.size≠P:=λz=>by rw[z,hP]at hqn; cases hqn
  have gq:(h'.push fo).get? h'.objs.size=Z fo:=by rw[<-hob]; exact ZAH _ rfl
  have gc:(h'.push fo).get? c'=Z oc:=ZAs _ goc;have gP2:(h'.push fo).get? P=Z (ZC8 ps2):=ZAs _ htab;have hk2:∀b o,b≠P->s.heap.get? b=Z o->(h'.push fo).get? b=Z o:=λb o hb e=>ZAs _ (hx b o hb e);generalize hH':upd (upd (upd H P (.tbl ps2)) c' (Zbq c' oc)) h'.objs.size (Zbq h'.objs.size fo)=H';have aq:H' h'.objs.size=Z (Zbq h'.objs.size fo):=by rw[<-hH',ZI]
  have ac:H' c'=Z (Zbq c' oc):=by rw[<-hH',ZB hcq,ZI]
  have aP:H' P=Z (.tbl ps2):=by rw[<-hH',ZB (ZBy hqP),ZB (ZBy hcP),ZI]
  have ao:∀b,b≠h'.objs.size->b≠c'->b≠P->H' b=H b:=λb n1 n2 n3=>by rw[<-hH',ZB n1,ZB n2,ZB n3]
  have at1:∀b o,H b=Z o->b≠P->H' b=Z o:=λb o e n=>by rw[ao b (ZaE e hqn) (ZaE e hcn) n]; exact e
  have nP:∀b o,H b=Z o->(∀ps,o≠.tbl ps)->b≠P:=λb o e n z=>by rw[z,hP]at e; cases e; exact n _ rfl
  have old:∀b o,s.heap.get? b=Z o->b≠h'.objs.size/\b≠c':=λb o e=>by have hb:=ZAG e;exact⟨ZAK (ZAS hb (ZBm hge (ZCj hlt))),ZAK (ZAS hb hge)⟩
  have hokN:HOk X.prog X.w H' (h'.push fo):=λb o e=>by
   by_cases n1:b=h'.objs.size
   ·subst n1; rw[aq]at e; cases e; exact Zkl gq
   ·by_cases n2:b=c'
    ·subst n2; rw[ac]at e; cases e; exact Zkl gc
    ·by_cases n3:b=P
     ·subst n3; rw[aP]at e; cases e; exact gP2
     ·rw[ao b n1 n2 n3]at e
      refine(I.hok b o e).stay (λd u hd z=>hk2 d u (λy=>?_) z) (λd z=>at1 d _ z (nP d _ z λ_ y=>by cases y)) λd xs z=>at1 d _ z (nP d _ z λ_ y=>by cases y);rcases hd with y2 | y2
      ·exact n3 (y2▸y)
      ·exact nP d _ y2 (λ_ q=>by cases q) y
  have un:Un X.fs [] H H' s.heap (h'.push fo):=by
   refine⟨λb o e n hb hx=>?_,λb o e n hb hx=>?_,λb o e n hx=>?_,λb o e hx=>?_,λb xs e=>at1 b _ e (nP b _ e λ_ y=>by cases y),λb o u e=>at1 b _ e (nP b _ e λ_ y=>by cases y),λb pp e=>?_⟩
   ·exact hk2 b o (λz=>by rw[z,hP]at n; cases n) e
   ·exact⟨o.slots,hk2 b o (λz=>by rw[z,hP]at n; cases n) e⟩
   ·obtain⟨n1,n2⟩:=old b o e
    rw[ao b n1 n2 (λz=>by rw[z,hP]at n; cases n)]; exact n
   ·by_cases n3:b=P
    ·exact⟨_,by rw[n3]; exact gP2⟩
    ·exact⟨o,hk2 b o n3 e⟩
   ·by_cases n3:b=P
    ·subst n3
     rw[hP]at e; cases e;exact⟨_,by rw[aP,<-hps]⟩
    ·exact⟨#[],by rw[at1 b _ e n3]; simp⟩
  refine⟨h'.objs.size,H',rfl,?_,⟨_,ctv,c',oc,by rw[aq,<-hob],ac,vs,tq,d1,d2⟩,λb o e=>?_,λT q hT=>?_⟩
  ·exact I.un (t':=tk) un hokN
  ·by_cases n3:b=P
   ·subst n3
    rw[hP]at e; cases e;exact⟨_,aP⟩
   ·exact .of (at1 b o e n3)
  ·by_cases n3:T=P
   ·subst n3
    obtain rfl:=hu q hT;refine⟨ps2,aP,?_,λpos' cc hcc=>?_⟩
    ·rw[<-hps,Array.toList_append]
     exact TriplesOk_snoc _ _ _ _ ht
    ·rw[<-hps,Array.toList_append]at hcc
     rcases Zsf _ ht _ _ hcc with e | e
     ·obtain⟨a,o,q1,q2,q3⟩:=hg pos' cc e
      exact⟨a,o,q1,at1 a _ q2 (nP a _ q2 λ_ y=>by cases y),q3⟩
     ·exact⟨c',oc,e,ac,vs,tq,d1,d2⟩
   ·obtain⟨ps',w1,w2,w3⟩:=tb T q hT
    refine⟨ps',at1 T _ w1 n3,w2,λpos' cc hcc=>?_⟩;obtain⟨a,o,q1,q2,q3⟩:=w3 pos' cc hcc;exact⟨a,o,q1,at1 a _ q2 (nP a _ q2 λ_ y=>by cases y),q3⟩
theorem Zpu{r:HM.Env}:∀{is:List Nat} {cs:List PyData},HM.ZlZ is r=Z cs->cs.length=is.length/\∀(j i:Nat),is[j]?=Z i->∃d,cs[j]?=Z d/\r[i]?=Z (Z (.pl d))
 | [],cs,h=>by cases h; exact⟨rfl,λj i e=>by simp at e⟩
 | i::is,cs,h=>by
  unfold HM.ZlZ at h;split at h
  ·rename_i d hd
   obtain⟨cs',h1,h2⟩:=ZAn.mp h;subst h2;obtain⟨l,k⟩:=Zpu h1;refine⟨by rw[ZAB,ZAB,l],λj i' e=>?_⟩;cases j with
   | zero=>cases e; exact⟨d,rfl,hd⟩
   | succ j=>exact k j i' e
  ·cases h
def Zfu(F H:Hp):Hp:=λb=>match H b with
 | some (.ext φ)=>Z (.ext φ)
 | _=>F b
theorem Zi0{a:Addr}{o:Obj}(h:H a=Z (Zbq a o)):Zfu F H a=Z (Zbq a o):=by unfold Zfu Zbq at *;rw[h]
theorem Zln(h:Zfu F H b=Z o):(H b=Z o/\te o=ZFt)\/F b=Z o:=by
 unfold Zfu at h;split at h
 ·rename_i φ e
  cases h;exact .inl ⟨e,rfl⟩
 ·exact .inr h
theorem Zw2(s:Zs F H)(h:F b=Z o):Zfu F H b=Z o:=by have h2:=s b o h;unfold Zfu;rw[h2];cases o<;>first | rfl | exact h
theorem ZrQ{k:Nat}{x:Str}{M:List PyData->Option PyData}{e:Expr}{fa:HM.EF}(C:Callee X.prog X.w X.K X.mg X.base k x M)(hr:Zap k X.A)(L:ZsA X t params body scope names is)(ha:XE X e fa)(hg:Gl X x:=by rfl)(hdb:(x==("__debug__":Str))=ZFu:=by decide)
  (he:ZAD [e,.Lambda params body scope lpos] X.env=(ZFu,eval e X.env)::ZAD [.Lambda params body scope lpos] X.env:=by rfl) (he2:ZAD [.Lambda params body scope lpos] X.env=[(ZFu,eval (.Lambda params body scope lpos) X.env)]:=by rfl)
  (hpl:(backTo pos (ZAD [.Lambda params body scope lpos] X.env)).any (·.1)=ZFu:=by rfl):XE X (.Call (.Name x p) [e,.Lambda params body scope lpos] [] pos) (HM.Zi6 M t is fa):=by
 intro r d hd;unfold HM.Zi6 at hd;split at hd
 case h_2=>cases hd
 rename_i d1 hd1;split at hd
 case h_2=>cases hd
 rename_i cs hcs;split at hd
 case isFalse=>cases hd
 rename_i hnc;split at hd
 case h_2=>cases hd
 rename_i d' hM;split at hd
 case isFalse=>cases hd
 rename_i hnd;cases hd;obtain⟨fa',fd,ps,hl,FN,hm,hk,hb⟩:=C.ex;intro pins s σ H Q I ⟨F0,H0,F,at_,kk⟩;obtain⟨clos,hcl,hc1,hc2⟩:=Zgi (scope:=scope) (env:=X.env) λy hy hf=>I.ok.has _ (.inl (L.cells y hy hf));refine ZCh (ZmC I hg hm ?_ hdb);have lamPE:PE X (.Lambda params body scope lpos) λσ' H' Q'=>Tb H'/\∀q H2,Made X params body scope H' H2 q clos->Q' (.ref q) H2:=λpins' s' σ' H' Q' I' ⟨tb',k'⟩=>thn (ZuT L I' tb' hcl) λu s2 ⟨q,H2,e1,I2,m⟩=>by subst e1; exact⟨.ref q,H2,I2,rfl,k' q H2 m⟩
 refine ZFo (h₀:=X.base) I.ok.mod.kin hk (thn (ZaC (ha r d1 hd1) (ZaC lamPE ZbT he2) he pos pins s σ H (λvs H2=>∃v1 F1 H1 q,vs=[v1,.ref q]/\Ext F H F1 H1/\Rep X.K F1 d1 v1/\Made X params body scope H1 H2 q clos) I
  ⟨F0,H0,F,at_,λv F1 H1 x1 r1=>⟨at_.tbx x1,λq H2 m=>⟨v,F1,H1,q,rfl,x1,r1,m⟩⟩⟩) λus s2 ⟨vs,H2,I2,rv,v1,F1,H1,q,ev,x1,r1,m⟩=>⟨I2.kIn,?_⟩) he hpl
 subst ev;have at1:=at_.grow x1;have tb1:=at_.tbx x1;have nt1:=at_.ntx x1;generalize hCs:cellsOf clos=Cs;have hCm:∀a,a∈Cs↔∃y,clos.lookup y=Z a:=λa=>by rw[<-hCs]; exact Znq
 have hCc:∀a∈Cs,∃y o v,X.env.cells.lookup y=Z a/\s2.heap.get? a=Z o/\o.data=.cell v/\H2 a=Z_:=λa ha=>by obtain⟨y,e⟩:=(hCm a).mp ha;have e1:=hc1 y a e;obtain⟨v,o,h1,h2⟩:=I2.cell y a e1;exact⟨y,o,v,e1,h1,h2,I2.freeC y a e1⟩
 generalize hG:(λa:Addr=>(s2.heap.get? a).map (Zbq a))=G;have hGo:∀{a:Addr} {o:Obj},s2.heap.get? a=Z o->G a=Z (Zbq a o):=λ{a o} e=>by rw[<-hG]; show ZCo _ _=_; rw[e]; rfl
 generalize hH3:ZhQ Cs G H2=H3;have h3in:∀{a:Addr},a∈Cs->∃o v,H3 a=Z (Zbq a o)/\s2.heap.get? a=Z o/\o.data=.cell v:=λ{a} ha=>by obtain⟨y,o,v,_,g1,g2,_⟩:=hCc a ha;exact⟨o,v,by rw[<-hH3,Zft ha]; exact hGo g1,g1,g2⟩
 have h3out:∀{a:Addr},a ∉ Cs->H3 a=H2 a:=λ{a} ha=>by rw[<-hH3,Zbp ha]
 have s23:Zs H2 H3:=λb o z=>by rw[h3out λhb=>by obtain⟨_,_,_,_,_,_,g⟩:=hCc b hb;rw[g]at z; cases z];exact z
 have cge:∀a∈Cs,X.s₀.heap.objs.size<=a:=λa ha=>by obtain⟨y,_,_,e1,_⟩:=hCc a ha;exact I.ok.cab y a (L.own y) e1
 have hok3:HOk X.prog X.w H3 s2.heap:=by rw[<-hH3];refine HOk.put I2.hok (λa ha=>by obtain⟨_,_,_,_,_,_,g⟩:=hCc a ha; exact g) λa ha u e=>?_;obtain⟨y,o,v,_,g1,g2,_⟩:=hCc a ha;rw[hGo g1]at e; cases e;exact⟨o,rfl,g1⟩
 have E2:=I2.env0;have cfr:∀b∈frs X.stack,b ∉ Cs:=λb hb hc=>by
  obtain⟨y,o,v,e1,g1,g2,_⟩:=hCc b hc;rcases ZAy.mp (I2.stkSub b hb)with z | z
  ·exact I2.cne y b e1 z
  ·obtain⟨_,o',ho',_⟩:=I.ok.funs.mem z
   exact absurd (ZAS (ZAG ho') (cge b hc)) (ZCc _)
 have E3:ZfB X.prog X.w X.K X.mg X.base X.A X.stack s2 H3:=⟨E2.frames,E2.mod,λb o z=>⟨(E2.bs b o z).1,by rw[h3out λhb=>absurd (ZAS (ZAG z) (ZBm I.ok.bsz (cge b hb))) (ZCc _)];exact(E2.bs b o z).2⟩,E2.bsz,E2.funs,λb hb=>by rw[h3out (cfr b hb)]; exact E2.frf b hb,hok3,E2.bare⟩;have s12:Zs F1 H2:=λb o z=>m.hh.ntb (x1.sub b o z) (nt1 b o z);have s13:Zs F1 H3:=s12.trans s23;have ff:Zs F1 (Zfu F1 H3):=λb o z=>Zw2 s13 z;have s33:Zs (Zfu F1 H3) H3:=λb o z=>by
  rcases Zln z with⟨w,_⟩ | w
  ·exact w
  ·exact s13 b o w
 have nt3:NoT (Zfu F1 H3):=λb o z=>by
  rcases Zln z with⟨w1,w2⟩ | w
  ·unfold Zfu at z
   split at z
   ·cases z; rfl
   ·exact nt1 b o z
  ·exact nt1 b o w
 have tb3:Tb H3:=m.tb.same s23;obtain⟨pm,ctv,c,oc,m1,m2,m3⟩:=m.ex;obtain⟨cl1,cl2⟩:=Zpu hcs;have clo:Clo X.K (Zfu F1 H3) q params body scope names cs:=by
  refine⟨_,pm,ctv,c,oc,clos,Zi0 (s23 _ _ m1),Zi0 (s23 _ _ m2),m3,λy z a g1 g2=>I.ok.inj y z a (hc1 y a g1) (hc1 z a g2),hc2,λy a g=>?_,by rw[cl1,L.len],λj y dj g1 g2=>?_⟩
  ·obtain⟨o,v,w1,w2,w3⟩:=h3in ((hCm a).mpr ⟨y,g⟩)
   exact⟨o,v,Zi0 w1,w3⟩
  ·have hj:j<is.length:=by rw[L.len]; exact(ZAC.mp g1).1
   obtain⟨dj',g3,g4⟩:=cl2 j is[j] (ZAx hj);rw[g2]at g3;cases g3;obtain⟨hN,hkind⟩:=L.at_ j is[j] y (ZAx hj) g1;obtain⟨v,w1,w2⟩:=at1.plain g4;obtain⟨mm,_,hloc⟩:=I2.loc;obtain⟨u,ru,lk⟩:=hloc is[j] y v hN w1 (.inr (.inl hkind));have hfr:=hc2 _ (L.free y (ZAR g1)) rfl;obtain⟨a,hal⟩:=ZAX.mp hfr;rcases lk with⟨k1,_⟩ | ⟨_,a',k1,o,k2,k3⟩
   ·rw[show X.env.kindOf y=Z .cell from hkind]at k1; cases k1
   ·rw[hc1 y a hal]at k1
    cases k1;obtain⟨o',v',z1,z2,z3⟩:=h3in ((hCm a).mpr ⟨y,hal⟩);rw[k2]at z2;cases z2;refine⟨a,o,u,v,hal,Zi0 z1,k3,ru,Rep.cutF (λb ob z _=>ff b ob z) w2 20 ?_⟩;exact ZAF.mp hnc dj (ZAR g2)
 have fv:=L.good _ _ _ clo;have hlen:=hl _ _ hM;refine ZEu (ZCk (FN.run X.A X.stack s2 H3 ⟨us,[]⟩ us [v1,.ref q] (λv H4=>∃F4,Ext (Zfu F1 H3) H3 F4 H4/\Rep X.K F4 d v) E0 hr E3 (by
  have:=hb s2 us I2.kIn (by rw[ZBa,<-rv.length]; exact hlen)
  rwa [ZBa]at this) rv ⟨Zfu F1 H3,_,d,hlen,s33,tb3,nt3,.cons (r1.mono ff) (.one (.fn fv)),hM,λv F4 H4 x4 q4=>⟨F4,x4,q4⟩⟩) λrs s4 hq=>?_)
 cases rs with
 | error e=>exact ZBk hq
 | ok fl =>
  cases fl with
  | next=>exact ZBk hq
  | brk=>exact ZBk hq
  | cont=>exact ZBk hq
  | ret u =>
   obtain⟨v,H4,os,bare,un,hok4,ru,F4,x4,q4⟩:=hq;have c4:∀{a:Addr},a∈Cs->∃o v,H4 a=Z (Zbq a o)/\s2.heap.get? a=Z o/\s4.heap.get? a=Z o/\o.data=.cell v:=λ{a} ha=>by obtain⟨o,v,w1,w2,w3⟩:=h3in ha;have w4:H4 a=Z (Zbq a o):=x4.hh.ntb w1 rfl;exact⟨o,v,w4,w2,Zco (hok4 a _ w4),w3⟩
   have out4:∀{b:Addr} {o:HO},H2 b=Z o->b ∉ Cs:=λ{b o} z hb=>by obtain⟨_,_,_,_,_,_,g⟩:=hCc b hb;rw[g]at z; cases z
   generalize hF5:(λb:Addr=>match F4 b with | some o=>if te o=ZFt then F1 b else Z o | none=>Z_)=F5;have f5:∀{b:Addr} {o:HO},F5 b=Z o->(F4 b=Z o/\te o=ZFu)\/F1 b=Z o:=λ{b o} z=>by
    rw[<-hF5]at z;dsimp only at z;split at z
    ·rename_i o' w
     split at z
     ·exact .inr z
     ·rename_i n
      cases z;exact .inl ⟨w,by simpa using n⟩
    ·cases z
   have f5a:∀{b:Addr} {o:HO},F4 b=Z o->te o=ZFu->F5 b=Z o:=λ{b o} z n=>by rw[<-hF5]; dsimp only; rw[z]; dsimp only; rw[if_neg (by rw[n]; simp)]
   have f5b:∀{b:Addr} {o:HO},F1 b=Z o->F5 b=Z o:=λ{b o} z=>by
    have w:=x4.ff b o (ff b o z)
    by_cases n:te o=ZFt
    ·rw[<-hF5]; dsimp only; rw[w]; dsimp only; rw[if_pos n]; exact z
    ·exact f5a w (by simpa using n)
   have sub5:Zs F5 (Zbh Cs H4):=λb o z=>by
    rcases f5 z with⟨w,n⟩ | w
    ·rw[Zav λhb=>by
      obtain⟨_,_,g,_⟩:=c4 hb;rw[x4.sub b o w]at g; cases g; cases n]
     exact x4.sub b o w
    ·rw[Zav (out4 (s12 b o w))]
     exact x4.sub b o (x4.ff b o (ff b o w))
   refine I2.after ⟨v,Zbh Cs H4,os,bare,⟨λb o e n hb hx=>?_,λb o e n hb hx=>?_,λb o e n hx=>?_,un.there,λb xs e=>?_,λb o w e=>?_,λb pp e=>?_⟩,HOk.cut hok4 (λa ha o e=>?_),ru,kk v F5 (Zbh Cs H4) (x1.trans ⟨λb o z=>f5b z,λb o z=>?_,sub5,λb o z=>?_,λtb=>?_,λ_ b o z=>?_⟩) ((Rep.cutF (λb o z n=>f5a z n) q4 20 hnd).up)⟩
   ·by_cases hc:b∈Cs
    ·obtain⟨o',_,_,w2,w3,_⟩:=c4 hc
     rw[e]at w2; cases w2; exact w3
    ·exact un.keep b o e (by rw[h3out hc]; exact n) hb hx
   ·exact un.slot b o e (by rw[h3out (cfr b hb)]; exact n) hb hx
   ·by_cases hc:b∈Cs
    ·exact Zik hc
    ·rw[Zav hc]; exact un.free b o e (by rw[h3out hc]; exact n) hx
   ·rw[Zav (out4 e)]; exact un.tups b xs (s23 _ _ e)
   ·rw[Zav (out4 e)]; exact un.frzs b o w (s23 _ _ e)
   ·rw[Zav (out4 e)]; exact un.tbls b pp (s23 _ _ e)
   ·obtain⟨o',_,g,_⟩:=c4 ha
    rw[g]at e; cases e; rfl
   ·-- tracked things stay
    have z2:=m.hh b o z;have key:∀{u:HO},H2 b=Z u->Zds (Zbh Cs H4) b u:=λ{u} w=>(x4.hh b u (s23 b u w)).cong (Zav (out4 w));cases o<;>first | exact key z2 | (obtain⟨pp,w⟩:=z2; exact(show ∃ps',_ from key w))
   ·rcases f5 z with⟨w,n⟩ | w
    ·rcases x4.new b o w with y | y
     ·rcases Zln y with⟨_,y2⟩ | y2
      ·rw[n]at y2; cases y2
      ·exact .inl y2
     ·refine .inr ?_
      have hcb:b ∉ Cs:=λhb=>by
       obtain⟨o',_,g,_⟩:=h3in hb;rcases y with y | ⟨xs,_,y⟩
       ·rw[g]at y; cases y
       ·rw[g]at y; cases y
      rcases y with y | ⟨xs,y1,y2⟩
      ·rw[h3out hcb]at y
       exact .inl (m.hh.free y)
      ·rw[h3out hcb]at y2
       cases w1:H1 b with
       | none=>exact .inl w1
       | some u =>
        have:=m.hh.back w1 y2 λ_ q=>by cases q
        subst this;exact .inr ⟨xs,y1,w1⟩
    ·exact .inl w
   ·refine(x4.tab tb3).cut hok4 λa ha=>?_
    obtain⟨o,v',g1,_,_,g4⟩:=c4 ha;exact⟨o,v',g1,g4⟩
   ·rcases f5 z with⟨w,_⟩ | w
    ·exact x4.nts nt3 b o w
    ·exact nt1 b o w
end
end HP
namespace HP
open PySem
open Sem (wp)
open AutoSeq1 (wpAny_loadPart')
variable{it:Addr}{A:Around}{items:Array Value}{i:Nat}{prog:Program}{Q:Value->Shared->Prop}{w:World}
section
variable{prog:Program}{w:World}{A:Around}{E:Value->Shared->Prop}{s:Shared}
theorem ZuB{t:Addr}{x:Value}(hit:s.heap.IsTupleIter it t i)(ht:s.heap.IsTuple t items)(hx:items[i]?=Z x)(hQ:∀h',h'.IsTupleIter it t (i+1)->ZB9 it s.heap h'->Q x { s with heap:=h' }):wpAny (model prog w) A (ZCL (.ref it)) Q E s:=by obtain⟨⟨o,ho,hc,hd⟩,⟨ot,hot,_,nt,hdt⟩⟩:=And.intro (id hit) ht;unfold ZCL;refine ZAm (wpAny_callSpecial?_slot (name:=ZAQ "__next__") hit.typeIs F.slot_tuple_iterator_next (ZBB F.slot_tuple_iterator_next hit.typeIs F.entry_tuple_iterator_next ?_ (F.args_tuple_iterator_next_1 _)));show wpAny _ _ (field (.ref it) 0 >>= _) _ _ s; refine ZAm (ZE6 ho hd (x:=.ref t) rfl ?_); show wpAny _ _ (if(ZBh t==ZBp)=ZFt then _ else _) _ _ s; rw[if_neg (λz=>by cases z)];show wpAny _ _ (field (.ref it) 1 >>= _) _ _ s; refine ZAm (ZE6 ho hd (x:=.int i 0) rfl ?_); show wpAny _ _ (seqItems? (.ref t) >>= _) _ _ s; refine ZAm (ZDz hot hdt ?_); simp only[ZBx,hx];exact ZAm (ZCM ho hd (by simp) (ZAr ⟨x,rfl,ZAr (hQ _ ⟨_,ZBt _ ho (ZC5 (ZBI hd _)),(ZDG ..).trans hc,by rw[ZBI hd]; simp[rawInt]⟩ (ZBq ..))⟩))
theorem Zwy{t:Addr}(hh:A.handled=Z_)(hit:s.heap.IsTupleIter it t i)(ht:s.heap.IsTuple t items)(hx:items[i]?=Z_)(hE:∀h' e,Heap.ExtBut it s.heap h'->(∃o,h'.get? e=Z o/\o.cls=.type "StopIteration")->E (.ref e) { s with heap:=h' }):wpAny (model prog w) A (ZCL (.ref it)) Q E s:=by
 obtain⟨⟨o,ho,hc,hd⟩,⟨ot,hot,_,nt,hdt⟩⟩:=And.intro (id hit) ht;unfold ZCL;refine ZAm (wpAny_callSpecial?_slot (name:=ZAQ "__next__") hit.typeIs F.slot_tuple_iterator_next (ZBB F.slot_tuple_iterator_next hit.typeIs F.entry_tuple_iterator_next ?_ (F.args_tuple_iterator_next_1 _)));show wpAny _ _ (field (.ref it) 0 >>= _) _ _ s; refine ZAm (ZE6 ho hd (x:=.ref t) rfl ?_); show wpAny _ _ (if(ZBh t==ZBp)=ZFt then _ else _) _ _ s; rw[if_neg (λz=>by cases z)];show wpAny _ _ (field (.ref it) 1 >>= _) _ _ s; refine ZAm (ZE6 ho hd (x:=.int i 0) rfl ?_); show wpAny _ _ (seqItems? (.ref t) >>= _) _ _ s; refine ZAm (ZDz hot hdt ?_); simp only[ZBx,hx];refine ZAm (ZEw (ZAm (ZCM ho hd (by simp) ?_))); show wpAny _ _ (newExc (.type "StopIteration") [] >>= _) _ _ _; refine ZAm ?_; simp only[newExc,newTuple];refine ZAm (ZBn (ZAm (m:=ZC6 _ _) (ZEc (a:=ZBp) (by first | rfl | (simp only[ZC6]; rfl)) (ZBn ?_ (by size_fits)))) (by size_fits))
 simp only[raiseNew]; refine ZAm (wpAny_handled ?_); first | rw[show A.in1.handled=Z_ from hh] | rw[hh]
 exact ZAm (ZAr (wpAny_throw (hE _ _ (((ZBq ..).extBut.push _).push _) ⟨_,ZAH _ rfl,rfl⟩)))
end
theorem Zm9(hh:A.handled=Z_)(it t:Addr)(hne:t≠it)(items:Array Value):Draws prog w A it [it,t] items.size (λi v=>items[i]?=Z v) (λi h=>h.IsTupleIter it t i/\h.IsTuple t items) where
 live:=λ_ _ st=>let ⟨o,ho,_⟩:=st.1; ⟨o,ho⟩
 frame:=λ_ _ _ ⟨⟨o,ho,r⟩,o2,ho2,r2⟩ hk=>⟨⟨o,hk it (by simp) o ho,r⟩,o2,hk t (by simp) o2 ho2,r2⟩
 item:=λi s Q E hi st hQ=>ZuB st.1 st.2 (x:=items[i]) (by simp[hi]) λh' a b=>hQ _ h' s.toks (by simp[hi]) ⟨a,st.2.extBut b.extBut hne⟩ b
 done:=λs Q E st hE=>Zwy hh st.1 st.2 (by simp) hE
theorem Zre(l:Addr)(items:Array Value)(n:Nat)(dct:Option Addr)(sl:Array (Option Value)):Meets (Builtin.«enumerate.__new__» ⟨[.type "enumerate",.ref l],[]⟩) (λ_ R s=>s.heap.get? l=Z { cls:=.type "tuple",dict:=dct,data:=.seq items n,slots:=sl } /\
  R (.ok (.ret (.ref (s.heap.push { cls:=.type "tuple_iterator",data:=.fields #[.ref l,.int 0 0] }).objs.size))) { s with heap:=(s.heap.push { cls:=.type "tuple_iterator",data:=.fields #[.ref l,.int 0 0] }).push { cls:=.type "enumerate",data:=.fields #[.none,.bool ZFu,.ref s.heap.objs.size,rawInt 0,.none,.none] } }) :=
 .of_wp λprog w A R s h=>by
  cases s with
  | mk hp g d tk os =>
  obtain⟨hl,h⟩:=h; have hsub:=sub_enumerate;have hL:Heap.IsTuple (Shared.heap ⟨hp,g,d,tk,os⟩) l items:=⟨_,hl,rfl,n,rfl⟩
  wp_walk using wpAny_loadPart' hl
  refine wpAny_stack_any λst=>ZAr ?_;split
  ·rename_i c _ _ _ _ _
   cases(c==ZCJ "enumerate")<;>(wp_walk using wpAny_loadPart' hl,ZEe hL; exact⟨_,rfl,h⟩)
  ·wp_walk using wpAny_loadPart' hl,ZEe hL; exact⟨_,rfl,h⟩
theorem ZsI{E:Value->Shared->Prop}{s:Shared}{l:Addr}(hL:s.heap.IsTuple l items)
  (h:∀h',IsEnum h' (s.heap.objs.size+1) s.heap.objs.size 0 .none->h'.IsTupleIter s.heap.objs.size l 0->h'.objs.size=s.heap.objs.size+2->(∀b o,s.heap.get? b=Z o->h'.get? b=Z o)->Q (.ref (s.heap.objs.size+1)) { s with heap:=h' }):wpAny (model prog w) A (call (.type "enumerate") [.ref l]) Q E s:=by
 obtain⟨⟨c,dct,dt,sl⟩,hl,hc,n,hd⟩:=hL; replace hc:c=.type "tuple":=hc; replace hd:dt=.seq items n:=hd; subst hc hd;refine callType_new F.called_enumerate (by decide) (F.typeCall_enumerate_1 _) (F.newCall_enumerate_1 _) (λobj=>F.args_object_init_2 obj _) F.entry_enumerate_new (Zre l items n dct sl) ⟨hl,?_⟩;generalize hG:s.heap.push { cls:=.type "tuple_iterator",data:=.fields #[.ref l,.int 0 0] }=g;have hz:g.objs.size=s.heap.objs.size+1:=by rw[<-hG]; exact ZCw ..
 show _/\_;rw[hz];have he:IsEnum (g.push { cls:=.type "enumerate",data:=.fields #[.none,.bool ZFu,.ref s.heap.objs.size,rawInt 0,.none,.none] }) (s.heap.objs.size+1) s.heap.objs.size 0 .none:=by rw[<-hz]; exact ZAH g rfl
 exact⟨⟨_,he,rfl⟩,h _ he ⟨_,ZAs _ (by rw[<-hG]; exact ZAH _ rfl),rfl,rfl⟩ (by rw[ZCw,hz]) λb o x=>ZAs _ (by rw[<-hG]; exact ZAs _ x)⟩
end HP
namespace HP
open PySem PySem.Spec PyProof.Rows L2
variable{a c f:Addr}{A:Around}{fd:FuncData}{base:Heap}{H:Hp}{tabs:List (Addr × Addr)}{outer:List Env}{N:List Str}{P:Program}{K:ZAo}{s:Shared}{st:Stmt}{qual x:Str}{mg:Str->Option Value}{w:World}
structure Zr8(K:ZAo)(x qual:Str)(st:Stmt)(f:Addr)(fd:FuncData)(c:Addr):Prop where
 ex:∃(oc:Value) (od:Option Addr) (kV doc pm:Value) (an:Option Addr) (ct:Value) (osl:Array (Option Value)),
  fd=ZBO x qual (Zch st) (ZaZ st) (Zf st) .none kV doc pm an (.ref c) ct/\K.lookup f=Z ⟨oc,od,.func fd,osl⟩/\ZCv K (.ref c) qual=ZFt
 kp:ZBS K (.ref f)=ZFt
theorem Zwm{oc:Value}{od an:Option Addr}{osl:Array (Option Value)}{kV doc pm ct:Value}(l:K.lookup f=Z ⟨oc,od,.func (ZBO x qual (Zch st) (ZaZ st) (Zf st) .none kV doc pm an (.ref c) ct),osl⟩)
  (h:ZCv K (.ref c) qual=ZFt) (k:ZBS K (.ref f)=ZFt):Zr8 K x qual st f (ZBO x qual (Zch st) (ZaZ st) (Zf st) .none kV doc pm an (.ref c) ct) c:=⟨⟨oc,od,kV,doc,pm,an,ct,osl,rfl,l,h⟩,k⟩
section
variable[FX]
theorem Zsz{k:Nat}{ps:List Str}{g:HM.SF}(Fn:Zr8 K x qual st f fd c)(S:Zu N ps (Zf st))(hm:mg x=Z (.ref f))(hb:Binds K fd ps [])
  (body:∀(A:Around) (outer:List Env) (s:Shared) (H:Hp) (E:XK),Zap k (A.deeper (envOfC qual (Zf st) s.heap.objs.size f (.ref c)))->XSs (Zge CX0 P w K mg base N qual (Zf st) f (.ref c) A outer s H E).nox (ZaZ st) g) :
  Callee P w K mg base (k+1) x (HM.fnOf ps.length N.length g):=by
 have hpl:ps.length<=N.length:=by have:=congrArg ZA8 S.pre; rw[ZB1]at this; omega
 refine⟨f,fd,ps,λds d h=>?_,?_,hm,Fn.kp,hb⟩
 ·unfold HM.fnOf at h
  split at h
  ·assumption
  ·cases h
 ·obtain⟨oc,od,kV,doc,pm,an,ct,osl,rfl,lk,hcd⟩:=Fn.ex
  refine ZvR lk hcd S (λvs H Q E h=>by obtain⟨_,_,_,h,_⟩:=h; exact h) λA outer s H vs Q E hr h=>?_;obtain⟨F,ds,d,hl,sub,tb,nt,q,hM,kk⟩:=h;unfold HM.fnOf at hM;split at hM
  ·rename_i hds
   have a0:=Zg9 (N:=N) sub tb nt q (by omega);split at hM
   ·rename_i r hr'
    cases hM;exact⟨_,(body A outer s H E hr _ _ hr').nox,F,H,F,a0,λσ F' H' a'=>kk .non F' H' a'.ext .non⟩
   ·rename_i d' hr'
    cases hM;exact⟨_,(body A outer s H E hr _ _ hr').nox,F,H,F,a0,λv F' H' x q=>kk v F' H' x q⟩
   ·cases hM
  ·cases hM
def ZsL(N:List Str)(sc scope:Scope)(names:List Str)(is:List Nat):Bool :=
 decide (is.length=names.length)&&(is.zip names).all (λq=>decide (N[q.1]?=Z q.2)&&decide (sc.names.lookup q.2=Z .cell))&&scope.names.all (λy=>decide (y.2≠.free)||decide (sc.names.lookup y.1=Z .cell))&&names.all λx=>decide ((x,ZCF)∈scope.names)
theorem Zva{X:Cx}{t:Nat}{params:Arguments}{body:Expr}{scope sc:Scope}{names:List Str}{is:List Nat}{T:Addr}{q:Str}(ck:ZsL N sc scope names is=ZFt)(h1:ZB3 X.K c T=ZFt)(h2:(T,q)∈FX.tl)(h3:∀q',(T,q')∈FX.tl->q'=q)(bm:BMod X.base X.mg)
  (good:∀F p cs,Clo X.K F p params body scope names cs->FX.fv t cs F p) (hN:X.N=N:=by rfl) (hs:X.env.scope=sc:=by rfl) (hc:X.env.code=.ref c:=by rfl) (hq:X.env.qual ++ "<lambda>" = q:=by rfl) (hd:defaultsOf params X.env=([],[]):=by rfl) (ho:∀x,X.fn x=ZFt:=by exact λ_=>rfl) :
  ZsA X t params body scope names is:=by
 unfold ZsL at ck;rw[ZAW,ZAW,ZAW]at ck;obtain⟨⟨⟨k1,k2⟩,k3⟩,k4⟩:=ck;refine⟨⟨c,T,hc,h1,by rw[hq]; exact h2,λq' z=>by rw[hq]; exact h3 q' z⟩,bm,hd,of_decide_eq_true k1,λj i x e1 e2=>?_,λy hy hf=>?_,λx hx=>?_,ho,good⟩
 ·have:(i,x)∈is.zip names:=ZAR (i:=j) (by rw[List.getElem?_zip_eq_some]; exact⟨e1,e2⟩)
  have:=ZAF.mp k2 _ this;rw[ZAW]at this;rw[hN,hs];exact⟨of_decide_eq_true this.1,of_decide_eq_true this.2⟩
 ·have:=ZAF.mp k3 y hy
  rw[ZCY]at this;rw[hs];rcases this with z | z
  ·exact absurd hf (of_decide_eq_true z)
  ·exact of_decide_eq_true z
 ·exact of_decide_eq_true (ZAF.mp k4 x hx)
theorem ZrP(Fn:Fun K x qual st f fd)(hm:mg x=Z (.ref f))(ha:mg x=Z (.ref a))(e0:ZfB P w K mg base A outer s H):ZFq a s.heap:=by rw[hm]at ha;cases ha;obtain⟨oc,od,kV,doc,pm,an,cdv,ct,osl,rfl,lk,hcd⟩:=Fn.ex;have KX:K.In s.heap:=e0.mod.kin.keeps λb o e=>(e0.bs b o e).1;exact⟨_,_,_,_,KX _ _ lk⟩
theorem ZpD{k:Nat}{M:List PyData->Option PyData}(C:Callee P w K mg base k x M)(ha:mg x=Z (.ref a)){F:Hp}(e0:ZfB P w K mg base A outer s H)(sub:Zs F H)
  {us:List Value} {vs:List V} {ds:List PyData} {d:PyData} {Q:VK} (hr:Zap k A) (tb:Tb H) (nt:NoT F) (rv:Vals vs us) (rs:Zv K F ds vs) (hM:M ds=Z d) (kk:∀v F' H',Ext F H F' H'->Rep K F' d v->Q v H') :
  codeAny (model P w) A (.call (.ref a) ⟨us,[]⟩) (CR CX0 outer P w H s Q E0) s:=by
 obtain⟨f,fd,ps,hl,FN,hm,hk,hb⟩:=C.ex;rw[hm]at ha;cases ha;have KX:K.In s.heap:=e0.mod.kin.keeps λb o e=>(e0.bs b o e).1;have hlen:vs.length=ps.length:=by rw[<-rs.1]; exact hl _ _ hM
 refine FN.run A outer s H ⟨us,[]⟩ us vs Q E0 hr e0 ?_ rv ⟨F,ds,d,hlen,sub,tb,nt,rs,hM,kk⟩;have:=hb s us KX (by rw[ZBa,<-rv.length]; exact hlen)
 rwa [ZBa]at this
end
def Zn3(tabs:List Addr)(H:Hp):Prop:=(∀b,H b=Z_\/(∃o xs,H b=Z (.frz o (.lst xs)))\/H b=Z (.tbl #[]))/\∀T∈tabs,H T=Z (.tbl #[])
theorem Ztb{mb:Str->Option Value}{k:Nat}{fa:Addr}{sp:Sp}{s₁:Shared}{vs:List Value}{ns:List Int}
  (hT:∀q∈tabs,ZB3 K q.1 q.2=ZFt/\K.lookup q.2=Z_/\s₁.heap.get? q.2=Z (ZC8 #[]))
  (KX:K.In s₁.heap) (hns:s₁.heap.Ns ZA7 mg) (hb:s₁.heap.Ns ZEt mb) (hbb:∀x:Str,x ≠ "__name__"->mb x=ZBr x) (hlim:s₁.heap.NoLimit) (hg:s₁.gens=#[])
  (ha:s₁.heap.get? a=Z { cls:=.type "list",data:=.seq vs.toArray }) (hi:IntsAre vs ns) (hl:ns.length<=sizeLine) (hr:Zap k callerA)
  (hbm:PyProof.Rows.BMain s₁.heap mg) (F:∀base:Heap,K.In base->base.Ns ZA7 mg->BMod base mg->ZdM P w K mg base CX0 k fa fd [x] sp) (hbind:∀(s:Shared) (u:Value),BindsTo s fd ⟨[u],[]⟩ [(x,u)])
  (hsp:∀H:Hp,Zn3 (tabs.map (·.2)) H->SqL K H a (ns.map V.int)->sp [.ref a] H (λv _=>v=.bl ZFt) λ_ _ _=>False) :
  codeAny (model P w) callerA (.call (.ref fa) ⟨[.ref a],[]⟩) (λr s'=>r=.ok (.ret (.bool ZFt))/\OldK s₁.heap s'.heap/\s'.os=s₁.os/\AllBare s'.gens) s₁:=by
 have rv:=Zm4 hi;have lenV:=hi.length;have tne:∀q∈tabs,q.2≠a:=λq hq z=>by have:=(hT q hq).2.2;rw[z,ha]at this; cases this
 have core:∀oS:Option HO,(oS=Z_\/∃o xs,oS=Z (.frz o (.lst xs)))->(∀H:Hp,H a=oS->SqL K H a (ns.map V.int))->(∀H:Hp,∀u,oS=Z u->Zai P w H s₁.heap a u)->(oS≠Z_->K.lookup a=Z_) ->
   codeAny (model P w) callerA (.call (.ref fa) ⟨[.ref a],[]⟩) (λr s'=>r=.ok (.ret (.bool ZFt))/\OldK s₁.heap s'.heap/\s'.os=s₁.os/\AllBare s'.gens) s₁:=by
  intro oS hO hS hok0 hK;generalize hH:(λb:Addr=>if b=a then oS else if b∈tabs.map (·.2)then Z (HO.tbl #[])else Z_)=H;have Ha:H a=oS:=by rw[<-hH]; exact if_pos rfl
  have Ht:∀T∈tabs.map (·.2),H T=Z (.tbl #[]):=λT hT'=>by obtain⟨q,hq,e⟩:=ZAv.mp hT';rw[<-hH];show(if T=a then oS else if T∈tabs.map (·.2)then Z (HO.tbl #[])else Z_)=_;rw[if_neg (by rw[<-e]; exact tne q hq),if_pos hT']
  have Hc:∀b u,H b=Z u->(b=a/\oS=Z u)\/(b∈tabs.map (·.2)/\u=.tbl #[]):=λb u e=>by
   rw[<-hH]at e;dsimp only at e;split at e
   ·rename_i h; exact .inl ⟨h,e⟩
   ·split at e
    ·rename_i h; cases e; exact .inr ⟨h,rfl⟩
    ·cases e
  have tget:∀T∈tabs.map (·.2),s₁.heap.get? T=Z (ZC8 #[])/\K.lookup T=Z_/\∃c,ZB3 K c T=ZFt:=λT hT'=>by obtain⟨q,hq,e⟩:=ZAv.mp hT';subst e;exact⟨(hT q hq).2.2,(hT q hq).2.1,q.1,(hT q hq).1⟩
  have hok:HOk P w H s₁.heap:=λb u e=>by
   rcases Hc b u e with⟨rfl,e'⟩ | ⟨h,rfl⟩
   ·exact hok0 H u e'
   ·exact(tget b h).1
  have base_of:∀{b:Addr} {o:Obj},s₁.heap.get? b=Z o->H b=Z_->(ZhW s₁.heap H).get? b=Z o:=λe n=>Zve e n;have noA:∀{b:Addr} {o:Obj} {es:Array DictEntry} {ep:Nat},s₁.heap.get? b=Z o->o.data=.dict es ep->H b=Z_:=λ{b o es ep} e d=>by
   cases q:H b with
   | none=>rfl
   | some u =>
    rcases Hc b u q with⟨rfl,_⟩ | ⟨h,_⟩
    ·rw[ha]at e; cases e
     have d':Data.seq vs.toArray _=Data.dict es ep:=d;cases d'
    ·rw[(tget b h).1]at e; cases e; cases d
  have nsK:∀{b:Addr} {m:Str->Option Value},s₁.heap.Ns b m->(ZhW s₁.heap H).Ns b m:=λ{b m} ⟨o,es,ep,e,d,r⟩=>⟨o,es,ep,base_of e (noA e d),d,r⟩;have hKb:K.In (ZhW s₁.heap H):=λb o e=>base_of (KX b o e) (by
   cases q:H b with
   | none=>rfl
   | some u =>
    rcases Hc b u q with⟨rfl,e'⟩ | ⟨h,_⟩
    ·rw[hK (by rw[e']; simp)]at e; cases e
    ·rw[(tget b h).2.1]at e; cases e)
  have hM:Mod K mg (ZhW s₁.heap H):=⟨hKb,nsK hns,⟨mb,nsK hb,hbb⟩,let ⟨mc,h1,h2⟩:=hlim; ⟨mc,nsK h1,h2⟩⟩;have e0:ZfB P w K mg (ZhW s₁.heap H) callerA [] s₁ H:=⟨rfl,hM,λb o e=>Zww e,ZD0 (Zti _ _),trivial,λb hb=>absurd (show b∈([]:List Addr) from hb) (by simp),hok,.of_eq hg⟩;have hOT:Zn3 (tabs.map (·.2)) H:=⟨λb=>by
   cases q:H b with
   | none=>exact .inl rfl
   | some u =>
    rcases Hc b u q with⟨_,e'⟩ | ⟨_,rfl⟩
    ·rcases hO with z | ⟨o,xs,z⟩
     ·rw[z]at e'; cases e'
     ·rw[z]at e'; cases e'; exact .inr (.inl ⟨o,xs,rfl⟩)
    ·exact .inr (.inr rfl),Ht⟩
  have hBM:BMod (ZhW s₁.heap H) mg:=by
   obtain⟨bm,ob,b1,b2,b3,b4,b5,b6⟩:=hbm;refine⟨bm,ob,b1,b2,λz=>?_,base_of b3 ?_,b4,b5,b6⟩
   ·obtain⟨o,es,ep,e,d,_⟩:=hns
    rw[z,e]at b3; cases b3; rw[b6]at d; cases d
   ·cases q:H bm with
    | none=>rfl
    | some u =>
     rcases Hc bm u q with⟨z,_⟩ | ⟨h,_⟩
     ·rw[z,ha]at b3; cases b3; exact absurd (show(ZCJ "list":Value)=.type "module" from b4) (by decide)
     ·rw[(tget bm h).1]at b3; cases b3; cases b4
  refine ZCk ((F _ hKb (nsK hns) hBM).run callerA [] s₁ H ⟨[.ref a],[]⟩ [.ref a] [.ref a] _ _ hr e0 (hbind s₁ (.ref a)) (.cons rfl .nil) (hsp H hOT (hS H Ha))) λr s' h=>?_;cases r with
  | error e=>exact ZBk h
  | ok fl =>
   cases fl with
   | next=>exact ZBk h
   | brk=>exact ZBk h
   | cont=>exact ZBk h
   | ret u =>
    obtain⟨v,H',os,bare,un,hok',r',q⟩:=h;have q':v=.bl ZFt:=q;subst q';obtain rfl:u=Value.bool ZFt:=r';refine⟨rfl,⟨λb o e=>?_,λb o e=>un.there b o e (by simp)⟩,os,bare⟩;cases q:H b with
    | none=>exact .inl (un.keep b o e q (by intro z; exact absurd (show b∈([]:List Addr) from z) (by simp)) (by simp))
    | some u =>
     rcases Hc b u q with⟨rfl,e'⟩ | ⟨h,rfl⟩
     ·rcases hO with z | ⟨ob,xs,z⟩
      ·rw[z]at e'; cases e'
      ·rw[z]at e'; cases e'
       have z2:=un.frzs _ ob _ q;obtain⟨e1,_⟩:=hok _ _ q;obtain⟨e2,_⟩:=hok' _ _ z2;rw[e]at e1; cases e1;exact .inl e2
     ·obtain⟨g1,_,c,g3⟩:=tget b h
      rw[g1]at e; cases e;obtain⟨more,z2⟩:=un.tbls b _ q;have z3:s'.heap.get? b=Z { cls:=.none,data:=.fields (#[]++more) }:=hok' b _ z2;refine .inr (.inl ⟨((ZFl KX g3).tab g1).isCodeTable,rfl,#[],more,rfl,z3⟩)
 cases hk:K.lookup a with
 | some o=>have e:=KX a o hk;rw[ha]at e;cases e;exact core Z_ (.inl rfl) (λH _=>.inr ⟨_,vs.toArray,_,hk,rfl,rfl,rfl,by rw[ZAJ,lenV]; exact hl,by simpa using rv⟩) (λH u z=>by cases z) λz=>absurd rfl z
 | none=>refine core (Z (.frz { cls:=.type "list",data:=.seq vs.toArray } (.lst (ns.map V.int)))) (.inr ⟨_,_,rfl⟩) (λH e=>.inl (.inr ⟨_,e⟩)) (λH u z=>?_) λ_=>hk;cases z;exact⟨ha,by rw[ZAl]; exact hl,vs,_,rv,ha⟩
theorem ZvI{l:ZEX}{n k:Nat}{q:Program}{loose:List Str}{XP:(Str->Option Value)->Heap->Prop}{YP:World->Heap->Prop}{d:DefRec}{K:Params->ZAo}{sp:World->Sp}
  (hn:l.most=Z n) (hn2:n<=sizeLine) (hdf:d.params.defaults=[]) (hr:Zap k callerA)
  (hY:∀(w:World) (h:Heap),YP w h->(K w.params).In h) (hYT:∀(w:World) (h:Heap),YP w h->∀q∈tabs,h.get? q.2=Z (ZC8 #[]))
  (hT:∀(w:World),∀q∈tabs,ZB3 (K w.params) q.1 q.2=ZFt/\(K w.params).lookup q.2=Z_)
  (F:∀(w:World) (mg:Str->Option Value) (fa:Addr) (h:Heap),(K w.params).In h->h.Ns ZA7 mg->mg d.name=Z (.ref fa) ->
   ∃fd:FuncData,(∀(s:Shared) (u:Value),BindsTo s fd ⟨[u],[]⟩ [(x,u)]) /\
    ∀base:Heap,(K w.params).In base->base.Ns ZA7 mg->BMod base mg->ZdM l.prog w (K w.params) mg base CX0 k fa fd [x] (sp w))
  (hsp:∀(w:World) (H:Hp) (a:Addr) (ns:List Int),ns.length<=n->Zn3 (tabs.map (·.2)) H->SqL (K w.params) H a (ns.map V.int)->sp w [.ref a] H (λv _=>v=.bl ZFt) λ_ _ _=>False) :
  PySem.W.WalkO q loose XP YP l.row.toRowW d [] (λf vs=>PySem.call f vs):=by
 refine Att.Zq1 hn hdf λw s₀ s₁ mg mb fa o pm cd doc a vs ns G Y ho hd hcd hmg hobj hints hlen hg=>?_;have KX:=hY w _ Y;obtain⟨fd,hb,hF⟩:=F w mg fa _ KX G.T.g hmg;exact Ztb (λq hq=>⟨(hT w q hq).1,(hT w q hq).2,hYT w _ Y q hq⟩) KX G.T.g G.T.b G.T.builtins G.T.nolimit hg hobj hints (ZBm hlen hn2) hr G.T.bmain hF hb λH hO hS=>hsp w H a ns hlen hO hS
end HP
namespace HP
open PySem PySem.Spec PyProof.Rows L2
def Zzc:Stmt->Option (Arguments × Expr × Scope)
 | .Return (Z (.Call _ [_,.Lambda a b s _] _ _)) _=>Z (a,b,s)
 | .Assign _ (.Call _ [_,.Lambda a b s _] _ _) _=>Z (a,b,s)
 | .Return (Z (.Call _ [_] [⟨_,.Lambda a b s _,_⟩] _)) _=>Z (a,b,s)
 | _=>Z_
def ZmZ(st:Stmt):Arguments × Expr × Scope:=((ZaZ st).findSome? Zzc).getD default
abbrev Zxf(st:Stmt):Arguments:=(ZmZ st).1
abbrev Zvr(st:Stmt):Expr:=(ZmZ st).2.1
abbrev ZmX(st:Stmt):Scope:=(ZmZ st).2.2
theorem Zxp{P:Program}{w:World}{K:ZAo}{mg:Str->Option Value}{base:Heap}{A:Around}{outer:List Env}{s:Shared}{F H:Hp}{p:Addr}{params:Arguments}{body:Expr}{scope:Scope}{names:List Str}{cs:List PyData}
  (C:Clo K F p params body scope names cs) (e0:ZfB P w K mg base A outer s H) (sub:Zs F H):ZFq p s.heap:=by
 obtain⟨qual,pm,ctv,c,oc,clos,h1,_⟩:=C.ex;exact⟨_,_,_,_,Zco (e0.hok p _ (sub _ _ h1))⟩
section
variable[FX]
theorem Zx1{K:ZAo}{M:List PyData->Option PyData}{H:Hp}{a:Addr}{ns:List Int}{tabs:List Addr}(hO:Zn3 tabs H)(ht:∀T q,(T,q)∈FX.tl->T∈tabs)(hS:SqL K H a (ns.map V.int))(hM:M [.list (HM.ofInts ns)]=Z (.bool ZFt)) :
  spD K 1 M [.ref a] H (λv _=>v=.bl ZFt) λ_ _ _=>False:=by
 refine⟨Zcp H,[.list (HM.ofInts ns)],.bool ZFt,rfl,Zf4,λT q hT=>⟨#[],hO.2 T (ht T q hT),trivial,λpos c hc=>by cases hc⟩,.drop,.one (Rep.drop (.lst hS (Zf2 (K:=K) (F:=H) ns).1 (Zf2 ns).2)),hM,λv F1 H1 _ r=>r.bool_inv⟩
end
end HP
namespace HP
open PySem PySem.Spec PyProof.Rows L2
variable[FX]
end HP
namespace HP
open PySem PySem.Spec PyProof.Rows L2
variable[FX]
section
variable{X:Cx}{a b c e:Expr}{fa fb fc:HM.EF}{f:HM.AF}{pos p:Pos}{es:List Expr}
theorem ZsD{F H:Hp}(s:Zs F H):Zs (Zcp F) (Zcp H):=NoT.drop.sub (λb o e=>s b o (Zf4 b o e))
theorem Zs2{k:Nat}{ap:HM.AP}(C:ZcQ X.prog X.w X.K X.mg X.base k ap)(hr:Zap k X.A)(i:Nat){x:Str}(ha:XAL X (e::es) f)(hN:X.N[i]?=Z x:=by rfl)
  (hv:Vis X.env.scope x:=by first | exact ZBc rfl | exact ZAT (ZBc rfl) | exact ZAT (ZAT rfl)) (hd:(x==("__debug__":Str))=ZFu:=by decide) (hcd:(x==("__classdict__":Str))=ZFu:=by decide)
  (he:ZAD (e::es) X.env=(ZFu,eval e X.env)::ZAD es X.env:=by rfl) (hpl:(backTo pos (ZAD es X.env)).any (·.1)=ZFu:=by rfl):XE X (.Call (.Name x p) (e::es) [] pos) (HM.ZgA ap i f):=by
 intro r d h;unfold HM.ZgA at h;split at h
 case h_2=>cases h
 rename_i d0 hs;split at h
 case h_2=>cases h
 rename_i t cs hu;split at h
 case h_2=>cases h
 rename_i ds hds;split at h
 case h_2=>cases h
 rename_i z hz;split at h
 case isFalse=>cases h
 rename_i ht;cases h;obtain rfl:=ZoU hu;intro pins s σ H Q I ⟨F0,H0,F1,at_,kk⟩;obtain⟨v,h1,h2⟩:=at_.plain hs;obtain⟨q,rfl,fv⟩:=h2.fn_inv;refine ZCh (thn (ZbL hN hv hd hcd pins s σ H (λv' H'=>v'=.ref q/\H'=H) I ⟨_,h1,rfl,rfl⟩) λu s1 ⟨v',H1,I1,r1,e1,e2⟩=>?_);subst e1 e2;obtain rfl:u=ZBh q:=r1;refine ZFr (C.fn fv I1.env0 at_.sub) (thn (ha.pa r ds hds pos pins s1 σ H1 (λvs H2=>∃F2,Ext F1 H1 F2 H2/\Zv X.K H2 ds vs) I1 ⟨F0,H0,F1,at_,λvs F2 H2 x2 q2=>⟨F2,x2,q2⟩⟩) λus s2 ⟨vs,H2,I2,r2,F2,x2,q2⟩=>?_) he hpl;have fv2:=FX.mono (FX.drop (FX.mono fv x2.ff)) (ZsD x2.sub);refine⟨C.fn fv2 I2.env0 Zf4,ZEu (ZCk (C.run fv2 I2.env0 Zf4 hr (at_.tbx x2) .drop r2 q2.drop' hz λv F' H' x3 q3=>kk v (ZbW F2 H') H' (x2.trans (Ext.forget x2.sub (at_.ntx x2) x3).tups) (Ztl x3.sub 400 ht q3)) λrs s' hq=>?_)⟩;cases rs with
 | error e=>exact ZBk hq
 | ok fl =>
  cases fl with
  | ret u=>exact I2.after hq
  | next=>exact ZBk hq
  | brk=>exact ZBk hq
  | cont=>exact ZBk hq
end
end HP
namespace HP
open PySem PySem.W PyProof.Rows
end HP
namespace HP
open PySem PySem.Spec PyProof.Rows L2
variable[FX]
end HP
namespace HP
open PySem PySem.Spec PyProof.Rows L2
variable[FX]
end HP
namespace HP
open PySem PySem.Spec PyProof.Rows L2
variable[FX]
end HP
namespace HT
open PySem PySem.Spec PyProof.Rows L2
end HT
namespace HP
open PySem PySem.Spec PyProof.Rows L2
end HP
namespace HP
open PySem PySem.Spec PyProof.Rows L2
variable{X:Cx}{elts:List Expr}{kt:Nat}{K:ZAo}
variable[FX]
def Ite(K:ZAo)(a:Addr):It :=
 ⟨λi H=>∃xs x,SqT K H a xs/\xs[i]?=Z x,λi H y H'=>∃T x,H T=Z_/\y=.ref T/\(∀xs,SqT K H a xs->xs[i]?=Z x)/\H'=upd H T (.tup [.int (i:Int),x]),λi H=>∃xs,SqT K H a xs/\xs.length=i⟩
omit [FX]in
theorem Znt{pins:List (Addr × Obj)}{σ:L2.St}{H:Hp}{s:Shared}{h':Heap}{t':Nat}{fp:List Addr}(I:Inv X pins σ H s)(k:∀b o,b ∉ fp->s.heap.get? b=Z o->h'.get? b=Z o)(hf:∀b∈fp,Zgk X pins H b):Inv X pins σ H { s with heap:=h',toks:=t' }:=by
 refine I.step (g':=s.gens) (d':=s.drawn) (ch:=fp) (λb hb=>⟨(hf b hb).2.2.2.1,(hf b hb).2.1,(hf b hb).2.2.2.2.1,(hf b hb).2.2.2.2.2⟩) (λb o _ _ hc e _=>k b o hc e) (λb o _ _ hc e _=>⟨o.slots,k b o hc e⟩) (λ_ _ _ _ n=>n) (λb o hc e=>⟨o,k b o hc e⟩) (λ_ _ e=>e) (λ_ _ _ e=>e) (λb ps e=>⟨#[],by rw[e]; simp⟩) (λm hm=>?_) (λb u e=>?_) I.bare
 ·obtain⟨o,es,ep,ho,r⟩:=hm; exact⟨o,es,ep,k _ o (λz=>(hf _ z).2.1 rfl) ho,r⟩
 ·refine(I.hok b u e).stay (λc v hc q=>k c v (λz=>?_) q) (λ_ q=>q) λ_ _ q=>q
  rcases hc with y | y
  ·subst y; rw[(hf _ z).1]at e; cases e
  ·rw[(hf c z).1]at y; cases y
omit [FX]in
theorem Zuh{P:Program}{w:World}{pt:Pos}(a e it:Addr)(hei:e≠it):Turn P w K (.Tuple elts kt pt) (Ite K a) [e,it] e (λi h=>(∃old,IsEnum h e it (i:Int) old)/\h.IsTupleIter it a i) where
 mem:=by simp
 obj:=λi h st b hb=>by
  rcases ZAy.mp hb with rfl | hb
  ·obtain⟨⟨old,he⟩,_⟩:=st; exact⟨_,he,λv z=>by cases z⟩
  ·rw[ZAu.mp hb]; obtain⟨_,o,ho,hc,hd⟩:=st; exact⟨o,ho,λv z=>by rw[hd]at z; cases z⟩
 keep:=λi h h' ⟨⟨old,he⟩,o,ho,r⟩ k=>⟨⟨old,k e (by simp) _ he⟩,o,k it (by simp) o ho,r⟩
 item:=by
  intro X hP hw hK hc i pins s σ H E I hf st hg;subst hP hw hK;obtain⟨⟨old,he⟩,hit⟩:=st;obtain⟨xs,x,hq,hx⟩:=hg;obtain⟨its,rv,p,hz⟩:=I.tuple hq;obtain⟨u,hu,ru⟩:=rv.get hx;have hp:s.heap.IsTuple a its.toArray:=p;have hai:a≠it:=by
   rintro rfl
   obtain⟨o,ho,hcl,_⟩:=hit;obtain⟨o2,ho2,hcl2,_⟩:=hp;rw[ho]at ho2; cases ho2; rw[hcl]at hcl2; exact absurd hcl2 (by decide)
  have hae:e≠a:=by
   rintro rfl
   obtain⟨o2,ho2,hcl2,_⟩:=hp;rw[he]at ho2; cases ho2; exact absurd (show ZCJ "enumerate" = ZCJ "tuple" from hcl2) (by decide)
  have D:=Zm9 (prog:=X.prog) (w:=X.w) (A:=X.A.in1) (I.ok.hd hc) it a hai its.toArray;have hlt:i<its.length:=(ZAC.mp hu).1;have hes:e<s.heap.objs.size:=ZAG he;have his:it<s.heap.objs.size:=by obtain⟨o,ho,_⟩:=hit; exact ZAG ho
  refine wpAny_pyNext_enum_itemD D he ⟨hit,hp⟩ (by simpa using hlt) hei (by simp[hei,hae]) λy h' tk hP ho hs' hT hsz hk=>⟨_,rfl,wpAny_letOwnedTupleGo_enum ho λh2 he2 hs2=>?_⟩;have ey:y=u:=by
   have:its.toArray[i]?=Z u:=by simpa using hu
   rw[this]at hP; exact(ZA9 hP).symm
  subst ey;have hn:H s.heap.objs.size=Z_:=I.hok.fresh (ZAz _);have IL:Inv X pins σ (upd H s.heap.objs.size (.tup [.int (i:Int),x])) { s with heap:=s.heap.push { cls:=.type "tuple",data:=.seq #[.int i tk,y] },toks:=s.toks }:=I.laid (λb ob q=>ZAs _ q) (ZAz _) ⟨by show 2<=sizeLine; decide,[.int i tk,y],.cons ⟨tk,rfl⟩ (.cons ru .nil),IsTup.new _ _⟩;have I2:Inv X pins σ (upd H s.heap.objs.size (.tup [.int (i:Int),x])) { s with heap:=h2,toks:=tk+1 }:=Znt (s:={ s with heap:=s.heap.push { cls:=.type "tuple",data:=.seq #[.int i tk,y] },toks:=s.toks }) (fp:=[e,it]) IL (λb o hb q=>by
   have h1:b≠e:=λz=>hb (by simp[z]);have h3:b≠it:=λz=>hb (by simp[z]);show h2.get? b=Z o;rw[hs2.2 b h1]
   by_cases eb:b=s.heap.objs.size
   ·subst eb
    have:(s.heap.push { cls:=.type "tuple",data:=.seq #[.int i tk,y] }).get? s.heap.objs.size=Z { cls:=.type "tuple",data:=.seq #[.int i tk,y] }:=ZAH _ rfl;rw[show(Z o:Option Obj)=_ from q.symm.trans this];exact hT
   ·exact hk b o h1 h3 (by rw[<-ZC3 _ _ _ eb]; exact q)) λb hb=>by
    obtain⟨f0,f1,f2,f3,f4,f5⟩:=hf b hb;refine⟨?_,f1,f2,f3,f4,f5⟩;rw[ZB]
    ·exact f0
    ·rcases ZAy.mp hb with rfl | hb
     ·exact ZAK hes
     ·rw[ZAu.mp hb]; exact ZAK his
  refine⟨.ref s.heap.objs.size,_,I2,rfl,⟨_,x,hn,rfl,λys hy=>by rw[I.tuple_inj hy hq]; exact hx,rfl⟩,⟨⟨_,by simpa using he2⟩,?_⟩,λb hb=>?_⟩
  ·obtain⟨⟨o,ho',r⟩,_⟩:=hs'
   exact⟨o,(hs2.2 it hei.symm).trans ho',r⟩
  ·rw[ZB]
   ·exact(hf b hb).1
   ·rcases ZAy.mp hb with rfl | hb
    ·exact ZAK hes
    ·rw[ZAu.mp hb]; exact ZAK his
 done:=by
  intro X hP hw hK hc i pins s σ H E I hf st hg;subst hP hw hK;obtain⟨⟨old,he⟩,hit⟩:=st;obtain⟨xs,hq,hx⟩:=hg;obtain⟨its,rv,p,hz⟩:=I.tuple hq;have hp:s.heap.IsTuple a its.toArray:=p;have hl:=rv.length;have hai:a≠it:=by
   rintro rfl
   obtain⟨o,ho,hcl,_⟩:=hit;obtain⟨o2,ho2,hcl2,_⟩:=hp;rw[ho]at ho2; cases ho2; rw[hcl]at hcl2; exact absurd hcl2 (by decide)
  have D:=Zm9 (prog:=X.prog) (w:=X.w) (A:=X.A.in1) (I.ok.hd hc) it a hai its.toArray;have en:i=its.toArray.size:=by simp; omega
  subst en;exact wpAny_pyNext_enum_endD D he ⟨hit,hp⟩ λh' eb=>⟨rfl,Znt (t':=s.toks) (fp:=[e,it]) I (λb o hb q=>eb b o (λz=>hb (by simp[z])) q) hf⟩
 self:=λ_ _ _ _ _ ⟨⟨_,he⟩,_⟩ h=>wpAny_pyIter_enum he h
omit [FX]in
theorem ZrD:∀(ds:List PyData) (k i:Nat) (d:PyData),(HM.Zjc k ds)[i]?=Z d->∃x,ds[i]?=Z x/\d=.tuple [.int ((k+i:Nat):Int),x]
 | [],_,_,_,h=>by cases h
 | x::ds,k,0,d,h=>by cases h; exact⟨x,rfl,rfl⟩
 | x::ds,k,i+1,d,h=>by obtain⟨y,h1,h2⟩:=ZrD ds (k+1) i d h;exact⟨y,h1,by rw[h2,show k+1+i=k+(i+1) by omega]⟩
omit [FX]in
theorem Zph:∀(ds:List PyData) (k:Nat),(HM.Zjc k ds).length=ds.length
 | [],_=>rfl
 | _::ds,k=>congrArg (·+1) (Zph ds (k+1))
theorem Zvk{F:Hp}{a:Addr}{ds:List PyData}{vs:List V}(h:SqT K F a vs)(r:Zv K F ds vs):ItE K (Ite K a) (HM.Zjc 0 ds) F:=by
 intro F' H s1 s2;have hq:SqT K H a vs:=Zlt h (s1.trans s2);refine⟨λi d hd=>?_,vs,hq,by rw[Zph,r.1]⟩;obtain⟨x,hx,rfl⟩:=ZrD ds 0 i d hd;obtain⟨v,h1,h2⟩:=r.get hx;refine⟨⟨vs,v,hq,h1⟩,λy H' ⟨T,z,hn,ey,hz,eH⟩=>?_⟩;subst ey eH;have:=hz vs hq;rw[h1]at this;cases this;have hs:=(Ext.refl s2).tups.sub;refine⟨_,(Ext.refl hs).lay hn,.tup ZI rfl ?_⟩;have hT:ZbW F' H T=Z_:=hs.free hn;have hr:Zv K (upd (ZbW F' H) T (.tup [.int (i:Int),v])) [.int ((0+i:Nat):Int),x] [.int (i:Int),v]:=by rw[Nat.zero_add];exact .cons (.int _) (.one ((h2.mono (s1.trans (ZcN s2))).mono (Zs.upd' hT)))
 exact hr.2
theorem Zv3{a:Expr}{f:HM.EF}{p pos:Pos}{pt:Pos}(hm:X.mg "enumerate" = Z_)(ha:XE X a f)(hg:Gl X "enumerate":=by rfl)(hs:ZAD [a] X.env=[(ZFu,eval a X.env)]:=by rfl):XIE X (.Tuple elts kt pt) (.Call (.Name "enumerate" p) [a] [] pos) (HM.Zn7 f):=by
 intro r ds h;unfold HM.Zn7 at h;split at h
 ·rename_i xs hx
  cases h;intro pins s σ H R I ⟨F0,H0,F,at_,k⟩;have hxa:=Zd ha (Zl (X:=X)) hs;refine Call_ (Zig I hg hm boot_enumerate (ZC9 (thn (hxa.pa r [.tuple xs] (by show(match f r with | some x=>_ | none=>_)=_; rw[hx]; rfl) pos pins s σ H (λvs H1=>∃F1,Ext F H F1 H1/\Zv X.K F1 [.tuple xs] vs) I ⟨F0,H0,F,at_,λvs F' H' x q=>⟨F',x,q⟩⟩) λus s1 ⟨vs,H1,I1,r1,F1,x1,q1⟩=>?_) hs rfl));obtain⟨v,rfl,rv⟩:∃v,vs=[v]/\Rep X.K F1 (.tuple xs) v:=by
   obtain⟨e,hh⟩:=q1
   match vs,e with
   | [v],_=>exact⟨v,rfl,hh 0 _ v rfl rfl⟩
  obtain⟨l,ws,rfl,hq,rs⟩:=Zwq rv;obtain⟨u,rfl,ru⟩:=vals1 r1;cases ru;obtain⟨its,_,pt1,_⟩:=I1.tuple (Zlt hq x1.sub);refine ZsI (items:=its.toArray) pt1 λh' he hi hsz hk=>wpAny_pyIter_enum he ?_;refine⟨_,[s1.heap.objs.size+1,s1.heap.objs.size],_,_,H1,rfl,I1.kept (t':=s1.toks) hk,Zuh l _ _ (Nat.succ_ne_self _),⟨⟨_,he⟩,hi⟩,λb hb=>?_,k _ F1 H1 x1 (Zvk hq rs)⟩;rcases ZAy.mp hb with rfl | hb
  ·exact I1.fpOk (ZE2 _) (I1.hok.fresh (ZE2 _))
  ·rw[ZAu.mp hb]; exact I1.fpOk (ZAz _) (I1.hok.fresh (ZAz _))
 ·cases h
section
variable{X:Cx}{N:List Str}{scope:Scope}{x x2:Str}{px px2 pt:Pos}{kt:Nat}{elt iter:Expr}{ifs:List Expr}{pos:Pos}{fi:HM.IF}{fc:HM.TF}{fe:HM.EF}
theorem Zoi(i:Nat){y:Str}{py spos:Pos}(hN:X.N.Nodup)(hxe:X.xe=λ_ _=>False)(hcalm:X.calm=ZFt)(T:Zdt X N scope [x,x2])(hi:XIE X (.Tuple [.Name x px,.Name x2 px2] kt pt) iter fi)(hc:∀cl C s H ex,XTs (ZX X N scope cl C s H ex) ifs fc)(he:∀cl C s H ex,XE (ZX X N scope cl C s H ex) elt fe)
  (hiy:X.N[i]?=Z y:=by rfl) (hy:X.env.scope.names.lookup y=Z .local:=by rfl) (hsw:ZCq (.ListComp elt [⟨.Tuple [.Name x px,.Name x2 px2] kt pt,iter,ifs,0⟩] scope pos) (Z (.Name y py)) spos.line X.env=pure ZFt:=by rfl)
  (hs:∀x,ZBN iter X.env x=pure x:=by intro _; rfl):XS X (.Assign [.Name y py] (.ListComp elt [⟨.Tuple [.Name x px,.Name x2 px2] kt pt,iter,ifs,0⟩] scope pos) spos) (HM.ZU i (HM.Za2 fi fc fe)):=by
 rw[ZmR];exact Zhv i hN hxe hcalm T (Zp8 T) hi hc he hiy hy hsw hs
end
section
variable{X:Cx}{a b:Expr}{ga gb:HM.BF}{pos:Pos}
def ZyW(K:ZAo):R2:=λx y H Q=>∃l b xs zs,x=.ref l/\y=.ref b/\SqL K H l xs/\SqL K H b zs/\xs.length+zs.length<=sizeLine/\∀p,H p=Z_->Q (.ref p) (upd H p (.lst (xs++zs)))
omit [FX]in
theorem ZwL:OpR X (ZDn .Add) (ZyW X.K):=by intro pins s σ H x y v u Q I rx ry h;obtain⟨l,b,xs,zs,rfl,rfl,hH,hB,hz,q⟩:=h;cases rx;cases ry;obtain⟨its,r,⟨⟨c1,d1,t1,s1⟩,n1,e1,k1,k2,k3⟩,_⟩:=I.list hH;obtain⟨its2,r2,⟨⟨c2,d2,t2,s2⟩,n2,e2,m1,m2,m3⟩,_⟩:=I.list hB;simp only at k1 k2 k3 m1 m2 m3;subst k1 k3 m1 m3;have hl1:=r.length;have hl2:=r2.length;refine concat_meets ⟨_,e1,rfl⟩ ⟨_,e2,rfl⟩ noFill_list_add seq_list_add PySem.F.slot_list_add PySem.F.entry_list_add (PySem.F.args_list_add_2 _ _) (list_addW l b its.toArray its2.toArray n1 n2 d1 d2 s1 s2 (by rw[ZAJ,ZAJ]; omega)) ⟨e1,e2,?_⟩;rw[show its.toArray++its2.toArray=(its++its2).toArray by simp];exact⟨.ref _,_,I.lnew (t':=s.toks) (r.append r2) (by rw[ZAE]; omega),rfl,q _ I.fresh⟩
theorem Zv4(ha:XB X a ga)(hb:XB X b gb):XF X (.BinOp a .Add b pos) (HM.ZsT ga gb):=by
 intro r d h;unfold HM.ZsT at h;split at h
 ·rename_i x hx
  split at h
  ·rename_i xs hxs
   split at h
   ·rename_i y hy
    split at h
    ·rename_i ys hys
     split at h
     ·rename_i hz
      cases h;refine PE.imp (Zoa ZwL (ha r _ hx) (hb r _ hy)) λσ H Q ⟨F0,H0,F,at_,k⟩=>?_;refine⟨F0,H0,F,at_,λv F1 H1 x1 ⟨fp,r1⟩=>⟨F0,H0,F1,at_.grow x1,λw F2 H2 x2 ⟨fq,r2⟩=>?_⟩⟩;obtain⟨l1,vs1,rfl,hq1,q1⟩:=ZdR x2.sub (r1.mono x2.ff λ_ _ _ z=>x2.hh _ _ z) hxs;obtain⟨l2,vs2,rfl,hq2,q2⟩:=ZdR x2.sub r2 hys;refine⟨_,_,_,_,rfl,rfl,hq1,hq2,?_,λl hl=>ZeC (P:=λv _ H'=>Q v H') (x1.trans x2) (q1.append q2) hl k⟩;have e1:=q1.1;have e2:=q2.1;have e3:(1000000:Nat)<=sizeLine:=by decide
      unfold HM.big at hz;omega
     ·cases h
    ·cases h
   ·cases h
  ·cases h
 ·cases h
end
end HP
namespace HM
open PySem
variable{i:Int}{ds:List D}{n:Nat}
theorem Zbz{α:Type}{c:TF}{e:EF}{r:Env}(g:α->D)(p:α->Bool)(f:α->D):∀(xs:List α),(∀x∈xs,c (Z (.pl (g x))::r)=Z (p x))->(∀x∈xs,p x=ZFt->e (Z (.pl (g x))::r)=Z (f x))->Zak c e r (xs.map g)=Z ((xs.filter p).map f)
 | [],_,_=>rfl
 | x::xs,h1,h2=>by
  have ih:=Zbz g p f xs (λy hy=>h1 y (ZAq _ hy)) (λy hy=>h2 y (ZAq _ hy));have hc:=h1 x (ZAp ..);rw[ZAt];unfold Zak;rw[hc];cases hp:p x with
  | true=>have he:=h2 x (ZAp ..) hp;dsimp only;rw[he];dsimp only;rw[ih,ZEN hp];rfl
  | false=>dsimp only;rw[ih,ZEO (by simp[hp])]
theorem ZaF{α:Type}{e:EF}{r:Env}(g:α->D)(f:α->D)(xs:List α)(h:∀x∈xs,e (Z (.pl (g x))::r)=Z (f x)):Zak ZE e r (xs.map g)=Z (xs.map f):=by rw[Zbz g (λ_=>ZFt) f xs (λ_ _=>rfl) λx hx _=>h x hx,ZBD.mpr λ_ _=>rfl]
theorem ZfC{α:Type}{i:Nat}{body:SF}(g:α->D)(P:List α->Env->Prop)(xs:List α)(r:Env)(h0:P [] r)
  (hs:∀pre x post r,xs=pre++x::post->P pre r->∃r',body (r.set i (Z (.pl (g x))))=Z (.nx r')/\P (pre++[x]) r'):∃r',ZaO i body (xs.map g) r=Z (.nx r')/\P xs r':=by
 have key:∀(post pre:List α) (r:Env),xs=pre++post->P pre r->∃r',ZaO i body (post.map g) r=Z (.nx r')/\P xs r':=by
  intro post
  induction post with
  | nil=>intro pre r e h; rw[ZBa]at e; subst e; exact⟨r,rfl,h⟩
  | cons x post ih=>intro pre r e h;obtain⟨r1,h1,h2⟩:=hs pre x post r e h;obtain⟨r2,h3,h4⟩:=ih (pre++[x]) r1 (by rw[e,ZBE]; rfl) h2;refine⟨r2,?_,h4⟩;rw[ZAt];unfold ZaO;rw[h1];exact h3
 exact key xs [] r rfl h0
def Zxz{α S:Type}(q:S->α->Bool)(step:S->α->S):S->List α->Bool
 | _,[]=>ZFt
 | s,x::xs=>q s x&&Zxz q step (step s x) xs
abbrev dI(i:Int):D:=ZA2 i
abbrev dN(k:Nat):D:=ZA2 (k:Int)
theorem Zgv(ns:List Int):ofInts ns=ns.map dI:=rfl
theorem Zaj(n:Nat):Zc7 0 n=(ZAw n).map dN:=by unfold Zc7;refine ZBL λk _=>?_;show ZA2 (0+(k:Int))=ZA2 (k:Int);rw[Int.zero_add]
theorem Zby(ns:List Int):Zax (ns.map dI)=Z ns:=by
 induction ns with
 | nil=>rfl
 | cons n ns ih=>show(Zax (ns.map dI)).map (n::·)=_; rw[ih]; rfl
theorem Zfc(bs:List Bool):Zfh (bs.map λb=>ZBQ b)=Z bs:=by
 induction bs with
 | nil=>rfl
 | cons b bs ih=>show(Zfh (bs.map λb=>ZBQ b)).map (b::·)=_; rw[ih]; rfl
abbrev tupI(ns:List Int):D:=ZAU (ns.map dI)
theorem Zcg{j:Nat}{d:D}(h:ds[j]?=Z d):atD ds (j:Int)=Z d:=by have hj:j<ds.length:=(ZAC.mp h).1;unfold atD ixN;rw[if_pos (by omega),if_pos (by omega)];simpa using h
theorem Zkx{d:D}(h0:0<=i)(h:ds[i.toNat]?=Z d):atD ds i=Z d:=by
 have e:i=((i.toNat:Nat):Int):=by omega
 rw[e]; exact Zcg (by simpa using h)
@[simp] theorem Zy3(d:D)(r:List D):atD (d::r) 0=Z d:=Zcg (j:=0) rfl
@[simp] theorem ZAf(a d:D)(r:List D):atD (a::d::r) 1=Z d:=Zcg (j:=1) rfl
@[simp] theorem ZAe(a b d:D)(r:List D):atD (a::b::d::r) 2=Z d:=Zcg (j:=2) rfl
@[simp] theorem ZAg(a b c d:D)(r:List D):atD (a::b::c::d::r) 3=Z d:=Zcg (j:=3) rfl
@[simp] theorem ZAd(a b c e d:D)(r:List D):atD (a::b::c::e::d::r) 4=Z d:=Zcg (j:=4) rfl
theorem ZzT(i j:Int)(h:(Z8 i||Z8 j)=ZFt):Zcx (.int i) (.int j)=Z (.int (i*j)):=by show(if Z8 i||Z8 j then Z (ZA2 (i*j))else Z_)=_;rw[if_pos h]
@[simp] theorem ZzK:Z8 7=ZFt:=rfl
@[simp] theorem Zzu:Z8 11=ZFt:=rfl
@[simp] theorem Zzm:Z8 13=ZFt:=rfl
@[simp] theorem Zzj:Z8 17=ZFt:=rfl
@[simp] theorem Zzo:Z8 19=ZFt:=rfl
@[simp] theorem Zzv:Z8 23=ZFt:=rfl
@[simp] theorem Zzl:Z8 29=ZFt:=rfl
@[simp] theorem Zzt:Z8 31=ZFt:=rfl
@[simp] theorem Zzr:Z8 37=ZFt:=rfl
@[simp] theorem Zzq:Z8 41=ZFt:=rfl
@[simp] theorem Zzx:Z8 43=ZFt:=rfl
@[simp] theorem Zzi:Z8 47=ZFt:=rfl
@[simp] theorem Zzp:Z8 53=ZFt:=rfl
@[simp] theorem Zzh:Z8 59=ZFt:=rfl
@[simp] theorem Zzk:Z8 61=ZFt:=rfl
@[simp] theorem Zzs:Z8 67=ZFt:=rfl
@[simp] theorem Zzw:Z8 71=ZFt:=rfl
@[simp] theorem Zzn:Z8 73=ZFt:=rfl
@[simp] theorem Zys:Z8 48271=ZFt:=rfl
@[simp] theorem ZzN:Z8 2=ZFt:=rfl
@[simp] theorem Zz4:Z8 3=ZFt:=rfl
@[simp] theorem ZzH:Z8 5=ZFt:=rfl
theorem ZjI(h1:-1000000000<i)(h2:i<1000000000):Z8 i=ZFt:=by
 unfold Z8;have:i.natAbs<18446744073709551616:=by omega
 exact ZDx.mpr this
theorem ZcR(h:n<1000000):okR (n:Int)=ZFt:=ZDx.mpr (by omega)
@[simp] theorem ZyQ(i:Int):Z2 (.int i)=ZFt:=rfl
@[simp] theorem ZyG(i:Bool):Z2 (.bool i)=ZFt:=rfl
@[simp] theorem ZyF:Z2 .none=ZFt:=rfl
@[simp] theorem Zz7(i j:Int):ZA6 (.int i) (.int j)=(i==j):=rfl
structure Wk where
 many:Nat
 deeds:List (List (List Int))
 looks:List (List Int)
 beg:List Int
 goal:List Int
noncomputable def ZZ (dd:List (List Int)):D:=.tuple (dd.map tupI)
def Wk.d(w:Wk):D:=.tuple [.int w.many,.tuple (w.deeds.map ZZ),.tuple (w.looks.map tupI),tupI w.beg,tupI w.goal]
def Cr(n:Nat)(c:List Int):Prop:=c.Pairwise (· < ·)/\∀x∈c,0<=x/\x<(n:Int)
structure Wk.Ok(w:Wk):Prop where
 m1:2<=w.many
 m2:w.many<=5
 d1:1<=w.deeds.length
 d2:w.deeds.length<=3
 dl:∀dd∈w.deeds,dd.length=w.many
 dc:∀dd∈w.deeds,∀c∈dd,Cr w.many c
 l2:w.looks.length<=3
 ll:∀l∈w.looks,l.length=w.many
 lc:∀l∈w.looks,∀x∈l,0<=x/\x<=9
 b1:w.beg≠[]
 bc:Cr w.many w.beg
 g1:w.goal≠[]
 gc:Cr w.many w.goal
theorem Cr.len:∀{c:List Int},Cr n c->c.length<=n:=by
 have key:∀(c:List Int) (l:Int),c.Pairwise (· < ·)->(∀x∈c,l<=x/\x<(n:Int))->(c.length:Int)<=max 0 ((n:Int)-l):=by
  intro c
  induction c with
  | nil=>intro l _ _; simp; omega
  | cons x c ih=>intro l hp hb;have h1:=hb x (ZAp ..);have h2:=ih (x+1) (ZBj.mp hp).2 λy hy=>⟨by have:=(ZBj.mp hp).1 y hy; omega,(hb y (ZAq _ hy)).2⟩;rw[ZAB];omega
 intro c h;have:=key c 0 h.1 h.2;omega
theorem sortI_perm(ns:List Int):(sortI ns).Perm ns:=ZDi ns _
theorem ZvD(ns:List Int):(sortI ns).Pairwise (·<=·):=by have h:=ZDC (le:=λa b:Int=>decide (a<=b)) (λa b c h1 h2=>by simp at *; omega) (λa b=>by simp; omega) ns;exact h.imp λh=>by simpa using h
theorem ZkX:∀{ns:List Int},ns.Pairwise (·<=·)->ns.Nodup->ns.Pairwise (· < ·)
 | [],_,_=>.nil
 | n::ns,h,hn=>by obtain⟨h1,h2⟩:=ZBj.mp h;obtain⟨n1,n2⟩:=ZBf.mp hn;refine ZBj.mpr ⟨λx hx=>?_,ZkX h2 n2⟩;have:=h1 x hx;have:n≠x:=λe=>n1 (e▸hx);omega
theorem Zi2{ns:List Int}(hn:ns.Nodup)(hb:∀x∈ns,0<=x/\x<(n:Int)):Cr n (sortI ns) :=
 ⟨ZkX (ZvD ns) ((sortI_perm ns).nodup_iff.mpr hn),λx hx=>hb x ((sortI_perm ns).mem_iff.mp hx)⟩
theorem Zja(ns:List Int)(h:ns.length<64):ZfT (ns.map dI)=Z ((sortI ns).map dI):=by unfold ZfT;rw[if_pos (by rw[ZAl]; exact h),Zby];rfl
theorem ZfZ:∀(ns acc:List Int) (x:Int),x∈dedup acc ns↔x∈acc\/x∈ns
 | [],acc,x=>by simp[dedup]
 | n::ns,acc,x=>by
  unfold dedup;split
  ·rename_i h
   have h':n∈acc:=by simpa using h
   rw[ZfZ ns acc x]
   constructor
   ·rintro (h | h)
    ·exact .inl h
    ·exact .inr (ZAq _ h)
   ·rintro (h | h)
    ·exact .inl h
    ·rcases ZAy.mp h with e | e
     ·exact .inl (e▸h')
     ·exact .inr e
  ·rw[ZfZ ns _ x,ZAV,ZAu,ZAy]
   constructor
   ·rintro ((h | h) | h)
    ·exact .inl h
    ·exact .inr (.inl h)
    ·exact .inr (.inr h)
   ·rintro (h | h | h)
    ·exact .inl (.inl h)
    ·exact .inl (.inr h)
    ·exact .inr h
theorem ZfR:∀(ns acc:List Int),acc.Nodup->(dedup acc ns).Nodup
 | [],acc,h=>h
 | n::ns,acc,h=>by
  unfold dedup;split
  ·exact ZfR ns acc h
  ·rename_i hc
   have hc':n ∉ acc:=by simpa using hc
   refine ZfR ns _ ?_;rw[ZB7];exact⟨h,by simp,λa ha b hb=>by simp at hb; subst hb; exact λe=>hc' (e▸ha)⟩
end HM
namespace HG
open PySem HM
def Zjp:SF :=
 (Zr (sIf (tOr (tV (Zey (Zb 0) .bool)) (ZcW (tV (Zey (Zb 0) .int)))) (ZD (eC (.bool ZFu))) Zab)
  (ZD (Zl9 gLe gLe (Zb 1) (Zb 0) (Zb 2))))
def ZaJ:List D->Option D:=fnOf 3 3 Zjp
def Zm1:SF :=
 (ZD (ZfF (Zey (Zb 0) .tuple) (Zl9 gLe gLe (Zb 1) (Z6 (Ze 0)) (Zb 2))))
def ZaA:List D->Option D:=fnOf 3 3 Zm1
def ZaK:SF :=
 (Zr (sIf (ZcW (tV (Zn ZaJ (Za (Zb 3) (Za (Zb 2) (Za (op2 ZmA (Zb 1) (eC (.int 1))) Zk)))))) (ZD (eC (.bool ZFu))) Zab)
  (Z0 2 (op2 Zaz (Zb 3) (eC (.int 1)))))
def ZeN:SF :=
 (Zr (sIf (ZcW (tV (Zey (Zb 0) .tuple))) (ZD (eC (.bool ZFu))) Zab)
  (Zr (Z0 2 (eC (.int 0)))
  (Zr (ZaS 3 (ZJ (bOf (Zb 0))) ZaK)
  (ZD (eC (.bool ZFt))))))
def ZaL:List D->Option D:=fnOf 2 4 ZeN
def Ziq:SF :=
 (ZD (ZfF (Zn ZaA (Za (Zb 0) (Za (Zb 1) (Za (Zb 1) Zk)))) (ZiX (ZF (ZJ (bOf (Zb 0))) ZE (Zn ZaL (Za (Zb 0) (Za (Zb 2) Zk)))))))
def ZcS:List D->Option D:=fnOf 2 2 Ziq
def Zir:SF :=
 (ZD (ZfF (Zn ZaA (Za (Zb 0) (Za (Zb 1) (Za (Zb 1) Zk)))) (ZiX (ZF (ZJ (bOf (Zb 0))) ZE (Zn ZaJ (Za (Zb 0) (Za (eC (.int 0)) (Za (eC (.int 9)) Zk))))))))
def ZcT:List D->Option D:=fnOf 2 2 Zir
def Zjq:SF :=
 (ZD (ZfF (Zn ZaA (Za (Zb 0) (Za (eC (.int 1)) (Za (eC (.int 5)) Zk)))) (ZiX (ZF (ZJ (bOf (Zb 0))) ZE (Zn ZcS (Za (Zb 0) (Za (Zb 2) Zk)))))))
def Zdy:List D->Option D:=fnOf 2 2 Zjq
def Zjr:SF :=
 (ZD (ZfF (Zn ZaA (Za (Zb 0) (Za (eC (.int 0)) (Za (eC (.int 4)) Zk)))) (ZiX (ZF (ZJ (bOf (Zb 0))) ZE (Zn ZcT (Za (Zb 0) (Za (Zb 2) Zk)))))))
def Zdz:List D->Option D:=fnOf 2 2 Zjr
def ZkJ:SF :=
 (ZD (ZfF (Zn ZaL (Za (Zb 0) (Za (Zb 1) Zk))) (op2 gGt (Z6 (Ze 0)) (eC (.int 0)))))
def Zea:List D->Option D:=fnOf 2 2 ZkJ
def Zjs:SF :=
 (Zr (sIf (tOr (ZcW (tV (Zn ZaA (Za (Zb 0) (Za (eC (.int 5)) (Za (eC (.int 5)) Zk)))))) (ZcW (tV (Zn ZaJ (Za (eIx (Ze 0) (eC (.int 0))) (Za (eC (.int 1)) (Za (eC (.int 8)) Zk))))))) (ZD (eC (.bool ZFu))) Zab)
  (Zr (Z0 1 (eIx (Ze 0) (eC (.int 0))))
  (Zr (sIf (tOr (ZcW (tV (Zn Zdy (Za (eIx (Ze 0) (eC (.int 1))) (Za (Zb 1) Zk))))) (ZcW (tV (Zn Zdz (Za (eIx (Ze 0) (eC (.int 2))) (Za (Zb 1) Zk)))))) (ZD (eC (.bool ZFu))) Zab)
  (ZD (ZfF (Zn Zea (Za (eIx (Ze 0) (eC (.int 3))) (Za (Zb 1) Zk))) (Zn ZaL (Za (eIx (Ze 0) (eC (.int 4))) (Za (Zb 1) Zk))))))))
def ZdA:List D->Option D:=fnOf 1 2 Zjs
def ZkK:SF :=
 (ZD (eIx (Ze 0) (eC (.int 1))))
def Za9:List D->Option D:=fnOf 1 1 ZkK
def ZkL:SF :=
 (ZD (eIx (Ze 0) (eC (.int 2))))
def Zct:List D->Option D:=fnOf 1 1 ZkL
def ZlD:SF :=
 (Zr (sIf (ZcW (tV (Zn ZdA (Za (Zb 0) Zk)))) Zii Zab)
  (ZD (Zb 0)))
def ZeO:List D->Option D:=fnOf 1 1 ZlD
def ZlE:SF :=
 (ZD (Z1 (ZF (ZJ (bOf (Zb 1))) ZE (eIx (bOf (eIx (bOf (Zn Zct (Za (Zb 1) Zk))) (Zb 0))) (Zb 3)))))
def ZeP:List D->Option D:=fnOf 3 3 ZlE
def Zh2:SF :=
 (Zr (Z0 3 (eIx (bOf (Zn Za9 (Za (Zb 0) Zk))) (Zb 2)))
  (ZD (ZiX (ZF (ZJ (bOf (Zb 1))) ZE (op2 gGt (Z6 (bOf (eIx (Ze 4) (Zb 0)))) (eC (.int 0)))))))
def ZcC:List D->Option D:=fnOf 3 4 Zh2
def Zje:SF :=
 (ZD (eOf (ZF (ZaU (Z6 (bOf (Zn Za9 (Za (Zb 0) Zk))))) (tV (Zn ZcC (Za (Zb 1) (Za (Zb 2) (Za (Zb 0) Zk))))) (Zb 0))))
def Zc2:List D->Option D:=fnOf 2 2 Zje
def ZeQ:SF :=
 (Zgh 4 (Zb 6) (eC (.bool ZFt)))
def ZeR:SF :=
 (ZaS 6 (ZJ (bOf (eIx (Ze 3) (Zb 5)))) ZeQ)
def Zm2:SF :=
 (Zr (Z0 3 (eIx (bOf (Zn Za9 (Za (Zb 0) Zk))) (Zb 2)))
  (Zr (ZU 4 fDk)
  (Zr (ZaS 5 (ZJ (bOf (Zb 1))) ZeR)
  (ZD (Z1 (ZgC (Ze 4)))))))
def ZeD:List D->Option D:=fnOf 3 7 Zm2
def ZeS:SF :=
 (Zpt 3 (Zn ZeP (Za (Zb 0) (Za (Zb 1) (Za (Zb 4) Zk)))) (Zb 4))
def Zm3:SF :=
 (Zr (ZU 3 ZuZ)
  (Zr (ZaS 4 (ZJ (bOf (Zb 2))) ZeS)
  (ZD (eOf (ZF (ZJ (bOf (eOf (ZgC (Ze 3))))) ZE (Zaf (Za (Zb 0) (Za (Z1 (ZpN 4 (Zb 0))) Zk))))))))
def ZbE:List D->Option D:=fnOf 3 5 Zm3
def ZkM:SF :=
 (Zr (sIf (tV (op2 gLt (Zb 1) (Z6 (Ze 0)))) (ZD (eIx (Ze 0) (Zb 1))) Zab)
  (ZD (eC (.int 0))))
def Zaw:List D->Option D:=fnOf 2 2 ZkM
def ZlF:SF :=
 (ZD (op2 ZuL (op2 ZuL (op2 Zcx (Zb 0) (eC (.int 48271))) (Zb 1)) (Zb 2)))
def ZN:List D->Option D:=fnOf 3 3 ZlF
def ZgF:SF :=
 (Zr (ZU 3 (ZF (ZaU (Zb 1)) (tV (op2 gLt (Zn ZN (Za (op2 Zaz (op2 Zaz (Zb 1) (op2 Zcx (op2 Zcx (eC (.int 31)) (Zb 0)) (Zb 0))) (op2 Zcx (eC (.int 7)) (Zb 0))) (Za (eC (.int 9973)) (Za (eC (.int 5)) Zk)))) (eC (.int 2)))) (Zb 0)))
  (Zr (sIf (tV (op2 gLt (Z6 (Ze 3)) (Zb 2))) (ZU 3 (Zdl (Za (Zn ZN (Za (Zb 0) (Za (eC (.int 9967)) (Za (Zb 1) Zk)))) Zk))) Zab)
  (ZD (Z1 (Ze 3)))))
def Zb1:List D->Option D:=fnOf 3 4 ZgF
def Zb2:SF :=
 (Zr (Z0 4 (op2 Zaz (op2 Zaz (Zb 0) (op2 Zcx (op2 Zcx (eC (.int 43)) (Zb 3)) (Zb 3))) (op2 Zcx (eC (.int 11)) (Zb 3))))
  (Zr (Z0 5 (Zn ZN (Za (Zb 4) (Za (eC (.int 9949)) (Za (eC (.int 10)) Zk)))))
  (Zr (ZU 6 (Zqo (Zn ZN (Za (Zb 4) (Za (eC (.int 9941)) (Za (Zb 1) Zk)))) (eC (.bool ZFt))))
  (Zr (sIf (tV (op2 gLt (Zb 5) (eC (.int 3)))) (Zgh 6 (Zn ZN (Za (Zb 4) (Za (eC (.int 9931)) (Za (Zb 1) Zk)))) (eC (.bool ZFt))) Zab)
  (Zr (Zdf 2 (Z1 (ZgC (Ze 6))))
  (sIf (tV (op2 gEq (Zb 5) (eC (.int 9)))) (Zsu 2 (eC (.int (-1))) (Zaf Zk)) Zab))))))
def ZkN:SF :=
 (Zr (ZU 2 (Zdl Zk))
  (Zr (ZaS 3 (ZaU (Zb 1)) Zb2)
  (ZD (Z1 (Ze 2)))))
def Zeb:List D->Option D:=fnOf 2 7 ZkN
def ZdB:SF :=
 (Zr (Z0 5 (op2 Zym (op2 ZmA (Zb 4) (eC (.int 1))) (eC (.int 0))))
  (Zr (Z0 6 (op2 ZxM (op2 Zaz (Zb 4) (eC (.int 1))) (op2 ZmA (Zb 1) (eC (.int 1)))))
  (Zr (Z0 7 (op2 gEq (Zn ZN (Za (op2 Zaz (Zb 0) (op2 Zcx (eC (.int 17)) (Zb 4))) (Za (eC (.int 9929)) (Za (eC (.int 6)) Zk)))) (eC (.int 1))))
  (Zr (Zdf 2 (Z1 (Zgx (ZmH (Zdl (Za (Zb 5) Zk)) (ZuR (Zdl (Za (Zb 4) Zk)) (Zqb (Zb 7)))))))
  (Zdf 3 (Zaf (Za (Zb 6) Zk)))))))
def ZkO:SF :=
 (Zr (ZU 2 (Zdl Zk))
  (Zr (ZU 3 (Zdl Zk))
  (Zr (ZaS 4 (ZaU (Zb 1)) ZdB)
  (ZD (Zaf (Za (Z1 (Ze 2)) (Za (Z1 (Ze 3)) Zk)))))))
def Zec:List D->Option D:=fnOf 2 8 ZkO
def Zc3:SF :=
 (Zr (Z0 7 (op2 Zaz (Zn Zaw (Za (Zb 0) (Za (op2 Zaz (op2 Zaz (Zb 1) (eC (.int 4))) (Zb 5)) Zk))) (op2 Zcx (eC (.int 71)) (Zb 5))))
  (Zr (Z0 8 (op2 Zaz (eC (.int 2)) (Zn ZN (Za (Zb 7) (Za (eC (.int 9883)) (Za (eC (.int 2)) Zk))))))
  (Zdf 6 (Z1 (ZF (ZaU (Zb 3)) ZE (Zn ZN (Za (op2 Zaz (Zb 8) (op2 Zcx (op2 Zcx (eC (.int 13)) (Zb 0)) (Zb 0))) (Za (eC (.int 9871)) (Za (Zb 9) Zk)))))))))
def Zef:SF :=
 (Zdf 4 (Zn Zeb (Za (op2 Zaz (Zn Zaw (Za (Zb 0) (Za (op2 Zaz (op2 Zaz (Zb 1) (eC (.int 1))) (Zb 5)) Zk))) (op2 Zcx (eC (.int 61)) (Zb 5))) (Za (Zb 3) Zk))))
def ZdC:SF :=
 (Zr (Z0 2 (Zn Zaw (Za (Zb 0) (Za (Zb 1) Zk))))
  (Zr (Z0 3 (op2 Zaz (eC (.int 2)) (Zn ZN (Za (Zb 2) (Za (eC (.int 9923)) (Za (eC (.int 4)) Zk))))))
  (Zr (sIf (tV (op2 gGt (Z6 (Ze 0)) (eC (.int 63)))) (Z0 3 (op2 Zaz (eC (.int 2)) (Zn ZN (Za (Zb 2) (Za (eC (.int 9923)) (Za (eC (.int 6)) Zk)))))) Zab)
  (Zr (ZU 4 (Zdl Zk))
  (Zr (ZaS 5 (ZaU (op2 Zaz (eC (.int 1)) (Zn ZN (Za (Zb 2) (Za (eC (.int 9907)) (Za (eC (.int 3)) Zk)))))) Zef)
  (Zr (sIf (tV (op2 gEq (Zn ZN (Za (Zb 2) (Za (eC (.int 9901)) (Za (eC (.int 3)) Zk)))) (eC (.int 1)))) (ZU 4 (ZmH (Zh8 (bOf (Zn Zec (Za (Zn Zaw (Za (Zb 0) (Za (op2 Zaz (Zb 1) (eC (.int 1))) Zk))) (Za (Zb 3) Zk))))) (Zu0 (Ze 4) Z_ (Z (eC (.int 1)))))) Zab)
  (Zr (ZU 6 (Zdl Zk))
  (Zr (ZaS 5 (ZaU (Zn ZN (Za (Zb 2) (Za (eC (.int 9887)) (Za (eC (.int 4)) Zk))))) Zc3)
  (Zr (Z0 9 (Zn Zb1 (Za (Zn Zaw (Za (Zb 0) (Za (op2 Zaz (Zb 1) (eC (.int 7))) Zk))) (Za (Zb 3) (Za (eC (.int 1)) Zk)))))
  (Zr (sIf (tV (op2 gEq (Zn ZN (Za (Zb 2) (Za (eC (.int 9859)) (Za (eC (.int 3)) Zk)))) (eC (.int 1)))) (Z0 9 (Zlb (ZaU (Zb 3)))) Zab)
  (Zr (Z0 10 (Zn Zb1 (Za (Zn Zaw (Za (Zb 0) (Za (op2 Zaz (Zb 1) (eC (.int 8))) Zk))) (Za (Zb 3) (Za (eC (.int 1)) Zk)))))
  (ZD (Zaf (Za (Zb 3) (Za (Z1 (Ze 4)) (Za (Z1 (Ze 6)) (Za (Zb 9) (Za (Zb 10) Zk))))))))))))))))))
def Zbl:List D->Option D:=fnOf 2 11 ZdC
def Zba:SF :=
 (Zr (sIf (tV (op2 gEq (eIx (bOf (eIx (bOf (eIx (Ze 0) (eC (.int 1)))) (Zb 2))) (Zb 4)) (Zaf Zk))) (ZD (eC .none)) Zab)
  (ZU 3 (ZmH (Ze 3) (Zh8 (bOf (eIx (bOf (eIx (bOf (eIx (Ze 0) (eC (.int 1)))) (Zb 2))) (Zb 4)))))))
def Zis:SF :=
 (Zr (ZU 3 (Zdl Zk))
  (Zr (ZaS 4 (ZJ (bOf (Zb 1))) Zba)
  (ZD (Z1 (Zgx (Ze 3))))))
def Zbm:List D->Option D:=fnOf 3 5 Zis
def Zcd:SF :=
 (Zr (Z0 5 (Z1 (ZF (ZJ (bOf (Zb 1))) ZE (eIx (bOf (eIx (bOf (eIx (Ze 1) (eC (.int 2)))) (Zb 0))) (Zb 5)))))
  (Zr (sIf (tV (ZlS (Zb 5) (Ze 3))) (ZmE 3 (Zb 5)) Zab)
  (Zqm 3 (Zb 5) (Zb 4))))
def Zjt:SF :=
 (Zr (ZU 3 ZuZ)
  (Zr (ZaS 4 (ZJ (bOf (Zb 2))) Zcd)
  (ZD (eOf (ZF (ZJ (bOf (eOf (ZgC (Ze 3))))) ZE (Zaf (Za (Zb 0) (Za (Z1 (ZpN 4 (Zb 0))) Zk))))))))
def ZaM:List D->Option D:=fnOf 3 6 Zjt
end HG
namespace HG
open PySem HM
def Zy(ns:List Int)(k:Nat):Int:=if k<ns.length then ns.getD k 0 else 0
theorem ZeF(ns:List Int)(k:Nat):Zaw [.list (ns.map dI),.int k]=Z (.int (Zy ns k)):=by
 simp[Zaw,ZkM,Zy]
 by_cases h:k<ns.length
 ·have h':(k:Int)<(ns.length:Int):=by omega
  have e:atD (ns.map dI) (k:Int)=Z (.int ns[k]):=Zcg (by simp[h]);simp[h,h',e]
 ·have h':¬(k:Int)<(ns.length:Int):=by omega
  simp[h,h']
def ZY(c p m:Int):Int:=c*48271 % p % m
theorem Zb8(c p m:Int)(hp:0<p)(hm:0<m):ZN [.int c,.int p,.int m]=Z (.int (ZY c p m)):=by simp[ZN,ZlF,hp,hm,ZY]
theorem Zay(c p m:Int)(hm:0<m):0<=ZY c p m/\ZY c p m<m:=⟨Int.emod_nonneg _ (by omega),Int.emod_lt_of_pos _ hm⟩
def crP(c:Int)(k:Nat):Bool:=decide (ZY (c+31*(k:Int)*(k:Int)+7*(k:Int)) 9973 5<2)
def crF(c:Int)(n:Nat):List Int:=((ZAw n).filter (crP c)).map λ(k:Nat)=>(k:Int)
def crV(c:Int)(n:Nat):List Int:=if(crF c n).length<1 then[ZY c 9967 n]else crF c n
theorem Zi9(n:Nat)(p:Nat->Bool):Cr n (((ZAw n).filter p).map λ(k:Nat)=>(k:Int)):=by
 refine⟨?_,λx hx=>?_⟩
 ·rw[ZDI]
  refine List.Pairwise.imp (λ{a b} h=>?_) (List.Pairwise.filter p List.pairwise_lt_range);omega
 ·obtain⟨k,hk,rfl⟩:=ZAv.mp hx
  have:=ZA5.mp (ZAY.mp hk).1;omega
theorem ZtG(c:Int)(n:Nat)(hn:0<n):Cr n (crV c n)/\crV c n≠[]:=by
 unfold crV;split
 ·refine⟨⟨by simp,λx hx=>?_⟩,by simp⟩
  have e:x=ZY c 9967 n:=by simpa using hx
  rw[e];have:=Zay c 9967 n (by omega);omega
 ·rename_i h
  exact⟨Zi9 n _,λe=>h (by rw[e]; simp)⟩
theorem ZpM(c:Int)(n:Nat)(hn:0<n)(hb:n<1000):Zb1 [.int c,.int n,.int 1]=Z (tupI (crV c n)):=by
 have hn':(0:Int)<(n:Int):=by omega
 have key:Zak (tV (op2 gLt (Zn ZN (Za (op2 Zaz (op2 Zaz (Zb 1) (op2 Zcx (op2 Zcx (eC (.int 31)) (Zb 0)) (Zb 0))) (op2 Zcx (eC (.int 7)) (Zb 0))) (Za (eC (.int 9973)) (Za (eC (.int 5)) Zk)))) (eC (.int 2)))) (Zb 0)
   [Z (.pl (.int c)),Z (.pl (.int n)),Z (.pl (.int 1)),Z_] (Zc7 0 n)=Z ((crF c n).map dI):=by
  rw[Zaj];rw[Zbz dN (crP c) dN]
  ·unfold crF
   rw[ZAI];rfl
  ·intro k hk
   have hk':=ZA5.mp hk;have s2:Z8 (31*(k:Int))=ZFt:=ZjI (by omega) (by omega);simp[Zb8,crP,s2]
  ·intro k hk _
   simp
 have h1:okR (n:Int)=ZFt:=ZcR (by omega);have h2:(Zc7 0 n).length<1000000:=by rw[Zaj]; simp; omega
 by_cases hl:(crF c n).length<1
 ·have hl':((crF c n).length:Int)<1:=by omega
  have hm:=Zb8 c 9967 n (by decide) hn';simp[Zb1,ZgF,h1,h2,key];simp[hl',crV,hl,hm]
 ·have hl':¬((crF c n).length:Int)<1:=by omega
  simp[Zb1,ZgF,h1,h2,key];simp[hl',crV,hl]
def ZuU(c:Int)(n k:Nat):List Int :=
 let s:=c+43*(k:Int)*(k:Int)+11*(k:Int)
 if ZY s 9949 10<3/\ZY s 9941 n≠ZY s 9931 n then[ZY s 9941 n,ZY s 9931 n]else[ZY s 9941 n]
def Zgg(c:Int)(n k:Nat):List Int:=if ZY (c+43*(k:Int)*(k:Int)+11*(k:Int)) 9949 10=9 then[]else sortI (ZuU c n k)
theorem Zwf(c:Int)(n k:Nat)(hn:0<n):Cr n (Zgg c n k):=by
 unfold Zgg;split
 ·exact⟨.nil,λx hx=>by simp at hx⟩
 ·unfold ZuU
  dsimp only;have b1:=Zay (c+43*(k:Int)*(k:Int)+11*(k:Int)) 9941 n (by omega);have b2:=Zay (c+43*(k:Int)*(k:Int)+11*(k:Int)) 9931 n (by omega);split
  ·rename_i h
   refine Zi2 (by simp[h.2]) λx hx=>?_;simp at hx;rcases hx with e | e<;>(subst e; assumption)
  ·refine Zi2 (by simp) λx hx=>?_
   simp at hx;subst hx; assumption
theorem ZuX(n:Nat):ixN (n+1) (-1)=Z n:=by unfold ixN;rw[if_neg (by decide),if_pos (by omega)];congr 1;omega
theorem Zs8(c:Int)(n k:Nat)(rows:List D)(o4 o5 o6:Option B)(hn:0<n)(hk:k<1000)(hl:rows.length<1000) :
  ∃r5 r6 r7,Zb2 [Z (.pl (.int c)),Z (.pl (.int n)),Z (.ol rows),Z (.pl (dN k)),o4,o5,o6]=Z (.nx [Z (.pl (.int c)),Z (.pl (.int n)),Z (.ol (rows++[tupI (Zgg c n k)])),Z (.pl (dN k)),r5,r6,r7]):=by
 have hn':(0:Int)<(n:Int):=by omega
 have s2:Z8 (43*(k:Int))=ZFt:=ZjI (by omega) (by omega);have hl':rows.length<1000000:=by omega
 have m1:=Zb8 (c+43*(k:Int)*(k:Int)+11*(k:Int)) 9949 10 (by decide) (by decide);have m2:=Zb8 (c+43*(k:Int)*(k:Int)+11*(k:Int)) 9941 n (by decide) hn';have m3:=Zb8 (c+43*(k:Int)*(k:Int)+11*(k:Int)) 9931 n (by decide) hn';unfold Zgg ZuU;dsimp only;generalize ZY (c+43*(k:Int)*(k:Int)+11*(k:Int)) 9949 10=wy at *;generalize ZY (c+43*(k:Int)*(k:Int)+11*(k:Int)) 9941 n=a at *;generalize ZY (c+43*(k:Int)*(k:Int)+11*(k:Int)) 9931 n=b at *;have t1:ZfT [ZA2 a]=Z ((sortI [a]).map dI):=Zja [a] (by simp);have t2:ZfT [ZA2 a,ZA2 b]=Z ((sortI [a,b]).map dI):=Zja [a,b] (by simp)
 by_cases w3:wy<3
 ·have w9:(wy==9)=ZFu:=by simp; omega
  have w9':¬wy=9:=by omega
  by_cases ab:a=b
  ·subst ab
   simp[Zb2,s2,m1,m2,m3,w3,w9,w9',putD,ZaV,hl',t1]
  ·simp[Zb2,s2,m1,m2,m3,w3,w9,w9',putD,ab,ZaV,hl',t2]
 ·by_cases w9:wy=9
  ·subst w9
   simp[Zb2,s2,m1,m2,putD,ZaV,hl',t1,ZuX]
  ·have w9':(wy==9)=ZFu:=by simp[w9]
   simp[Zb2,s2,m1,m2,w3,w9',w9,putD,ZaV,hl',t1]
theorem ZwK(c:Int)(n:Nat)(hn:0<n)(hb:n<1000):Zeb [.int c,.int n]=Z (ZZ ((ZAw n).map λk=>Zgg c n k)):=by
 have h1:okR (n:Int)=ZFt:=ZcR (by omega);have h2:(Zc7 0 n).length<1000000:=by rw[Zaj]; simp; omega
 obtain⟨r',e1,o3,o4,o5,o6,p1⟩:=ZfC (i:=3) (body:=Zb2) dN (λ(s:List Nat) r=>∃o3 o4 o5 o6,r=[Z (.pl (.int c)),Z (.pl (.int n)),Z (.ol (s.map λk=>tupI (Zgg c n k))),o3,o4,o5,o6]) (ZAw n)
  [Z (.pl (.int c)),Z (.pl (.int n)),Z (.ol []),Z_,Z_,Z_,Z_] ⟨Z_,Z_,Z_,Z_,rfl⟩ (by
   rintro s k post r hxs ⟨o3,o4,o5,o6,rfl⟩
   have hk':k<n:=ZA5.mp (by rw[hxs]; simp);have hs:s.length<n:=by have:=congrArg ZA8 hxs; simp at this; omega
   obtain⟨r5,r6,r7,e⟩:=Zs8 c n k (s.map λk=>tupI (Zgg c n k)) o4 o5 o6 hn (by omega) (by simp; omega);exact⟨_,e,Z (.pl (dN k)),r5,r6,r7,by simp⟩)
 subst p1;have hl:n<1000000:=by omega
 simp[Zeb,ZkN,h1,Zaj,hl,e1,ZZ]
end HG
namespace HG
open PySem HM
def ahV(k:Nat):Int:=if(0:Int) > (k:Int)-1 then 0 else(k:Int)-1
def beV(n k:Nat):Int:=if(n:Int)-1<(k:Int)+1 then(n:Int)-1 else(k:Int)+1
def wlV(c:Int)(k:Nat):List Int:=sortI (dedup [] (ahV k::(if ZY (c+17*(k:Int)) 9929 6=1 then[(k:Int)]else[])))
theorem Zyw(c:Int)(n k:Nat)(hk:k<n):Cr n (wlV c k):=by
 unfold wlV;have ha:0<=ahV k/\ahV k<n:=by unfold ahV; split<;>omega
 refine Zi2 (ZfR _ _ (by simp)) λx hx=>?_;rw[ZfZ]at hx;rcases hx with h | h
 ·simp at h
 ·rcases ZAy.mp h with e | e
  ·subst e; exact ha
  ·split at e
   ·simp at e; subst e; omega
   ·simp at e
theorem Zyu(n k:Nat)(hk:k<n):Cr n [beV n k]:=by
 have ha:0<=beV n k/\beV n k<n:=by unfold beV; split<;>omega
 exact⟨by simp,λx hx=>by simp at hx; subst hx; exact ha⟩
theorem Zt8(c:Int)(n k:Nat)(ls rs:List D)(o4 o5 o6 o7:Option B)(hk:k<8)(h1:ls.length<1000)(h2:rs.length<1000) :
  ∃r4 r5 r6,ZdB [Z (.pl (.int c)),Z (.pl (.int n)),Z (.ol ls),Z (.ol rs),Z (.pl (dN k)),o5,o6,o7]=Z (.nx [Z (.pl (.int c)),Z (.pl (.int n)),Z (.ol (ls++[tupI (wlV c k)])),Z (.ol (rs++[tupI [beV n k]])),Z (.pl (dN k)),r4,r5,r6]):=by
 have h1':ls.length<1000000:=by omega
 have h2':rs.length<1000000:=by omega
 have m1:=Zb8 (c+17*(k:Int)) 9929 6 (by decide) (by decide);have hk8:k=0\/k=1\/k=2\/k=3\/k=4\/k=5\/k=6\/k=7:=by omega
 have l1:ZsE [if(k:Int)-1<0 then 0 else(k:Int)-1,(k:Int)]=ZFt:=by rcases hk8 with rfl | rfl | rfl | rfl | rfl | rfl | rfl | rfl<;>rfl
 have l2:ZsE [if(k:Int)-1<0 then 0 else(k:Int)-1]=ZFt:=by rcases hk8 with rfl | rfl | rfl | rfl | rfl | rfl | rfl | rfl<;>rfl
 unfold wlV;generalize ZY (c+17*(k:Int)) 9929 6=a at *
 by_cases e:a=1
 ·subst e
  simp[ZdB,m1,h1',h2',ahV,beV,Zax,Zgv,l1]
 ·have e':(a==1)=ZFu:=by simp[e]
  simp[ZdB,m1,h1',h2',ahV,beV,e,e',Zax,Zgv,l2]
theorem Zwi(c:Int)(n:Nat)(hb:n<=8):Zec [.int c,.int n]=Z (.tuple [ZZ ((ZAw n).map λk=>wlV c k),ZZ ((ZAw n).map λk=>[beV n k])]):=by
 have h1:okR (n:Int)=ZFt:=ZcR (by omega);obtain⟨r',e1,o4,o5,o6,o7,p1⟩:=ZfC (i:=4) (body:=ZdB) dN (λ(s:List Nat) r=>∃o4 o5 o6 o7,r=[Z (.pl (.int c)),Z (.pl (.int n)),Z (.ol (s.map λk=>tupI (wlV c k))),Z (.ol (s.map λk=>tupI [beV n k])),o4,o5,o6,o7]) (ZAw n)
  [Z (.pl (.int c)),Z (.pl (.int n)),Z (.ol []),Z (.ol []),Z_,Z_,Z_,Z_] ⟨Z_,Z_,Z_,Z_,rfl⟩ (by
   rintro s k post r hxs ⟨o4,o5,o6,o7,rfl⟩
   have hk':k<n:=ZA5.mp (by rw[hxs]; simp);have hs:s.length<n:=by have:=congrArg ZA8 hxs; simp at this; omega
   obtain⟨r5,r6,r7,e⟩:=Zt8 c n k (s.map λk=>tupI (wlV c k)) (s.map λk=>tupI [beV n k]) o4 o5 o6 o7 (by omega) (by simp; omega) (by simp; omega);exact⟨_,e,Z (.pl (dN k)),r5,r6,r7,by simp⟩)
 subst p1;have hl:n<1000000:=by omega
 simp[Zec,ZkO,h1,Zaj,hl,e1,ZZ]
section
variable(ns:List Int)(at_:Nat)
def ZW:Nat:=(2+ZY (Zy ns at_) 9923 4).toNat
def ZbU:List (List (List Int)):=(ZAw (1+ZY (Zy ns at_) 9907 3).toNat).map λk=>(ZAw (ZW ns at_)).map λs=>Zgg (Zy ns (at_+1+k)+61*(k:Int)) (ZW ns at_) s
def Zg3:List (List (List Int)) :=
 if ZY (Zy ns at_) 9901 3=1 then[(ZAw (ZW ns at_)).map λk=>wlV (Zy ns (at_+1)) k,(ZAw (ZW ns at_)).map λk=>[beV (ZW ns at_) k]]++(ZbU ns at_).take 1 else ZbU ns at_
def Zhr(k:Nat):List Int:=(ZAw (ZW ns at_)).map λ(s:Nat)=>ZY (Zy ns (at_+4+k)+71*(k:Int)+13*(s:Int)*(s:Int)) 9871 (2+ZY (Zy ns (at_+4+k)+71*(k:Int)) 9883 2)
def Zg2:List (List Int):=(ZAw (ZY (Zy ns at_) 9887 4).toNat).map (Zhr ns at_)
def Zpc:List Int:=if ZY (Zy ns at_) 9859 3=1 then(ZAw (ZW ns at_)).map λ(k:Nat)=>(k:Int)else crV (Zy ns (at_+7)) (ZW ns at_)
def ZvU:List Int:=crV (Zy ns (at_+8)) (ZW ns at_)
def wkV:Wk:=⟨ZW ns at_,Zg3 ns at_,Zg2 ns at_,Zpc ns at_,ZvU ns at_⟩
theorem Zku:2<=ZW ns at_/\ZW ns at_<=5:=by have:=Zay (Zy ns at_) 9923 4 (by decide);unfold ZW; omega
theorem Zwr:((ZW ns at_:Nat):Int)=2+ZY (Zy ns at_) 9923 4:=by have:=Zay (Zy ns at_) 9923 4 (by decide);unfold ZW; omega
theorem Zyc:(wkV ns at_).Ok:=by
 have hm:=Zku ns at_;have hd3:=Zay (Zy ns at_) 9907 3 (by decide);have dk:∀dd∈ZbU ns at_,dd.length=ZW ns at_/\∀c∈dd,Cr (ZW ns at_) c:=by intro dd h;unfold ZbU at h;obtain⟨k,_,rfl⟩:=ZAv.mp h;refine⟨by simp,λc hc=>?_⟩;obtain⟨s,_,rfl⟩:=ZAv.mp hc;exact Zwf _ _ _ (by omega)
 have dv:∀dd∈Zg3 ns at_,dd.length=ZW ns at_/\∀c∈dd,Cr (ZW ns at_) c:=by
  intro dd h;unfold Zg3 at h;split at h
  ·rcases ZAV.mp h with h | h
   ·simp at h
    rcases h with rfl | rfl
    ·refine⟨by simp,λc hc=>?_⟩
     obtain⟨s,hs,rfl⟩:=ZAv.mp hc;exact Zyw _ _ _ (ZA5.mp hs)
    ·refine⟨by simp,λc hc=>?_⟩
     obtain⟨s,hs,rfl⟩:=ZAv.mp hc;exact Zyu _ _ (ZA5.mp hs)
   ·exact dk dd (List.mem_of_mem_take h)
  ·exact dk dd h
 have lk:(ZbU ns at_).length=(1+ZY (Zy ns at_) 9907 3).toNat:=by unfold ZbU; simp
 have lv:1<=(Zg3 ns at_).length/\(Zg3 ns at_).length<=3:=by
  unfold Zg3;split
  ·simp; omega
  ·omega
 have hl4:=Zay (Zy ns at_) 9887 4 (by decide);have lo:∀l∈Zg2 ns at_,l.length=ZW ns at_/\∀x∈l,0<=x/\x<=9:=by intro l h;unfold Zg2 at h;obtain⟨k,_,rfl⟩:=ZAv.mp h;unfold Zhr;refine⟨by simp,λx hx=>?_⟩;obtain⟨s,_,rfl⟩:=ZAv.mp hx;have h2:=Zay (Zy ns (at_+4+k)+71*(k:Int)) 9883 2 (by decide);have h3:=Zay (Zy ns (at_+4+k)+71*(k:Int)+13*(s:Int)*(s:Int)) 9871 (2+ZY (Zy ns (at_+4+k)+71*(k:Int)) 9883 2) (by omega);omega
 have ll:(Zg2 ns at_).length<=3:=by unfold Zg2; simp; omega
 have cb:=ZtG (Zy ns (at_+7)) (ZW ns at_) (by omega);have cg:=ZtG (Zy ns (at_+8)) (ZW ns at_) (by omega);have hb:Zpc ns at_≠[]/\Cr (ZW ns at_) (Zpc ns at_):=by
  unfold Zpc;split
  ·refine⟨λe=>?_,?_⟩
   ·have:=congrArg ZA8 e
    simp at this;omega
   ·have:=Zi9 (ZW ns at_) λ_=>ZFt
    rwa [ZBD.mpr λ_ _=>rfl]at this
  ·exact⟨cb.2,cb.1⟩
 exact⟨hm.1,hm.2,lv.1,lv.2,λdd h=>(dv dd h).1,λdd h=>(dv dd h).2,ll,λl h=>(lo l h).1,λl h=>(lo l h).2,hb.1,hb.2,cg.2,cg.1⟩
theorem ZzC(k:Int)(h:0<=k):Zaw [.list (ns.map dI),.int k]=Z (.int (Zy ns k.toNat)):=by
 have:=ZeF ns k.toNat
 rwa [Int.toNat_of_nonneg h]at this
theorem ZsH(k n:Nat)(c:Option B)(ds:List D)(o6 o7 o8 o9 o10:Option B)(hk:k<1000)(h1:ds.length<1000)(hn:0<n)(hb:n<1000) :
  Zef [Z (.pl (.list (ns.map dI))),Z (.pl (.int at_)),c,Z (.pl (.int n)),Z (.ol ds),Z (.pl (dN k)),o6,o7,o8,o9,o10] =
   Z (.nx [Z (.pl (.list (ns.map dI))),Z (.pl (.int at_)),c,Z (.pl (.int n)),Z (.ol (ds++[ZZ ((ZAw n).map λs=>Zgg (Zy ns (at_+1+k)+61*(k:Int)) n s)])),Z (.pl (dN k)),o6,o7,o8,o9,o10]):=by
 have h1':ds.length<1000000:=by omega
 have hc:=ZeF ns (at_+1+k);have e:((at_+1+k:Nat):Int)=(at_:Int)+1+(k:Int):=by omega
 rw[e]at hc;have hd:=ZwK (Zy ns (at_+1+k)+61*(k:Int)) n hn hb;simp[Zef,hc,hd,h1']
theorem Zsm(k n:Nat)(c o4:Option B)(ls:List D)(o7 o8 o9 o10:Option B)(hk:k<1000)(h1:ls.length<1000)(hn:n=ZW ns at_) :
  ∃r7 r8,Zc3 [Z (.pl (.list (ns.map dI))),Z (.pl (.int at_)),c,Z (.pl (.int n)),o4,Z (.pl (dN k)),Z (.ol ls),o7,o8,o9,o10] =
   Z (.nx [Z (.pl (.list (ns.map dI))),Z (.pl (.int at_)),c,Z (.pl (.int n)),o4,Z (.pl (dN k)),Z (.ol (ls++[tupI (Zhr ns at_ k)])),r7,r8,o9,o10]):=by
 have hb:=Zku ns at_;have h1':ls.length<1000000:=by omega
 have hc:=ZeF ns (at_+4+k);have e:((at_+4+k:Nat):Int)=(at_:Int)+4+(k:Int):=by omega
 rw[e]at hc;have m1:=Zb8 (Zy ns (at_+4+k)+71*(k:Int)) 9883 2 (by decide) (by decide);have b1:=Zay (Zy ns (at_+4+k)+71*(k:Int)) 9883 2 (by decide);have hok:okR (n:Int)=ZFt:=ZcR (by omega);have hl:n<1000000:=by omega
 unfold Zhr;rw[<-hn];generalize ZY (Zy ns (at_+4+k)+71*(k:Int)) 9883 2=mo at *;generalize Zy ns (at_+4+k)=cc at *;simp[Zc3,hc,m1,hok,h1',Zaj,hl];rw[ZaF dN λ(s:Nat)=>dI (ZY (cc+71*(k:Int)+13*(s:Int)*(s:Int)) 9871 (2+mo))]
 ·refine⟨Z (.pl (.int (cc+71*(k:Int)))),Z (.pl (.int (2+mo))),?_⟩
  simp
 ·intro s hs
  have hs':=ZA5.mp hs;have s2:Z8 (13*(s:Int))=ZFt:=ZjI (by omega) (by omega);have m2:=Zb8 (cc+71*(k:Int)+13*(s:Int)*(s:Int)) 9871 (2+mo) (by decide) (by omega);simp[s2,m2]
theorem ZvK(h:ns.length<=63):Zbl [.list (ns.map dI),.int at_]=Z (wkV ns at_).d:=by
 have hb:=Zku ns at_;have hmc:=Zwr ns at_;have c0:=ZeF ns at_;have c1:=ZeF ns (at_+1);have c7:=ZeF ns (at_+7);have c8:=ZeF ns (at_+8);have e1:((at_+1:Nat):Int)=(at_:Int)+1:=by omega
 have e7:((at_+7:Nat):Int)=(at_:Int)+7:=by omega
 have e8:((at_+8:Nat):Int)=(at_:Int)+8:=by omega
 rw[e1]at c1;rw[e7]at c7;rw[e8]at c8;have m4:=Zb8 (Zy ns at_) 9923 4 (by decide) (by decide);have m3:=Zb8 (Zy ns at_) 9907 3 (by decide) (by decide);have b3:=Zay (Zy ns at_) 9907 3 (by decide);have mw:=Zb8 (Zy ns at_) 9901 3 (by decide) (by decide);have ml:=Zb8 (Zy ns at_) 9887 4 (by decide) (by decide);have bl:=Zay (Zy ns at_) 9887 4 (by decide);have mb:=Zb8 (Zy ns at_) 9859 3 (by decide) (by decide);have wk:=Zwi (Zy ns (at_+1)) (ZW ns at_) (by omega);have k7:=ZpM (Zy ns (at_+7)) (ZW ns at_) (by omega) (by omega);have k8:=ZpM (Zy ns (at_+8)) (ZW ns at_) (by omega) (by omega);have hlen:¬(63:Int)<(ns.length:Int):=by omega
 have ok3:okR (1+ZY (Zy ns at_) 9907 3)=ZFt:=ZDx.mpr (by omega);have okl:okR (ZY (Zy ns at_) 9887 4)=ZFt:=ZDx.mpr (by omega);have okm:okR ((ZW ns at_:Nat):Int)=ZFt:=ZcR (by omega);obtain⟨r1,f1,o5,q1⟩:=ZfC (i:=5) (body:=Zef) dN (λ(s:List Nat) r=>∃o5,r=[Z (.pl (.list (ns.map dI))),Z (.pl (.int at_)),Z (.pl (.int (Zy ns at_))),Z (.pl (.int (ZW ns at_))),
   Z (.ol (s.map λk=>ZZ ((ZAw (ZW ns at_)).map λs=>Zgg (Zy ns (at_+1+k)+61*(k:Int)) (ZW ns at_) s))),o5,Z_,Z_,Z_,Z_,Z_]) (ZAw (1+ZY (Zy ns at_) 9907 3).toNat)
  [Z (.pl (.list (ns.map dI))),Z (.pl (.int at_)),Z (.pl (.int (Zy ns at_))),Z (.pl (.int (ZW ns at_))),Z (.ol []),Z_,Z_,Z_,Z_,Z_,Z_] ⟨Z_,rfl⟩ (by
   rintro s k post r hxs ⟨o5,rfl⟩
   have hk':=ZA5.mp (show k∈ZAw (1+ZY (Zy ns at_) 9907 3).toNat by rw[hxs]; simp);have hs:s.length<4:=by have:=congrArg ZA8 hxs; simp at this; omega
   have e:=ZsH ns at_ k (ZW ns at_) (Z (.pl (.int (Zy ns at_)))) (s.map λk=>ZZ ((ZAw (ZW ns at_)).map λs=>Zgg (Zy ns (at_+1+k)+61*(k:Int)) (ZW ns at_) s)) Z_ Z_ Z_ Z_ Z_ (by omega) (by simp; omega) (by omega) (by omega);exact⟨_,e,Z (.pl (dN k)),by simp⟩)
 subst q1;have lks:∀(o4 o5:Option B),∃r2,ZaO 5 Zc3 ((ZAw (ZY (Zy ns at_) 9887 4).toNat).map dN) [Z (.pl (.list (ns.map dI))),Z (.pl (.int at_)),Z (.pl (.int (Zy ns at_))),Z (.pl (.int (ZW ns at_))),o4,o5,Z (.ol []),Z_,Z_,Z_,Z_]=Z (.nx r2) /\
   ∃o5 o7 o8,r2=[Z (.pl (.list (ns.map dI))),Z (.pl (.int at_)),Z (.pl (.int (Zy ns at_))),Z (.pl (.int (ZW ns at_))),o4,o5,Z (.ol ((ZAw (ZY (Zy ns at_) 9887 4).toNat).map λk=>tupI (Zhr ns at_ k))),o7,o8,Z_,Z_]:=by
  intro o4 o5;refine ZfC (i:=5) (body:=Zc3) dN (λ(s:List Nat) r=>∃o5 o7 o8,r=[Z (.pl (.list (ns.map dI))),Z (.pl (.int at_)),Z (.pl (.int (Zy ns at_))),Z (.pl (.int (ZW ns at_))),
   o4,o5,Z (.ol (s.map λk=>tupI (Zhr ns at_ k))),o7,o8,Z_,Z_]) (ZAw (ZY (Zy ns at_) 9887 4).toNat) _ ⟨o5,Z_,Z_,rfl⟩ ?_
  rintro s k post r hxs ⟨o5,o7,o8,rfl⟩
  have hk':=ZA5.mp (show k∈ZAw (ZY (Zy ns at_) 9887 4).toNat by rw[hxs]; simp);have hs:s.length<4:=by have:=congrArg ZA8 hxs; simp at this; omega
  obtain⟨r7,r8,e⟩:=Zsm ns at_ k (ZW ns at_) (Z (.pl (.int (Zy ns at_)))) o4 (s.map λk=>tupI (Zhr ns at_ k)) o7 o8 Z_ Z_ (by omega) (by simp; omega) rfl;exact⟨_,e,Z (.pl (dN k)),r7,r8,by simp⟩
 have n3:(1+ZY (Zy ns at_) 9907 3).toNat<1000000:=by omega
 have nl:(ZY (Zy ns at_) 9887 4).toNat<1000000:=by omega
 have nm:ZW ns at_<1000000:=by omega
 have hdk:((ZAw (1+ZY (Zy ns at_) 9907 3).toNat).map λk=>ZZ ((ZAw (ZW ns at_)).map λs=>Zgg (Zy ns (at_+1+k)+61*(k:Int)) (ZW ns at_) s))=(ZbU ns at_).map ZZ:=by unfold ZbU; simp
 have hlk:((ZAw (ZY (Zy ns at_) 9887 4).toNat).map λk=>tupI (Zhr ns at_ k))=(Zg2 ns at_).map tupI:=by unfold Zg2; simp
 rw[hdk]at f1;simp only[hlk]at lks;have dkl:(ZbU ns at_).length<10:=by unfold ZbU; simp; omega
 unfold wkV Wk.d Zg3 Zpc ZvU;simp only
 by_cases w1:ZY (Zy ns at_) 9901 3=1
 ·have w1':(ZY (Zy ns at_) 9901 3==1)=ZFt:=by simp[w1]
  have cut:cutD ((ZbU ns at_).map ZZ) Z_ (Z 1)=((ZbU ns at_).take 1).map ZZ:=by unfold cutD sIx;simp
  obtain⟨r2,f2,p5,p7,p8,q2⟩:=lks (Z (.ol (ZZ ((ZAw (ZW ns at_)).map λk=>wlV (Zy ns (at_+1)) k)::ZZ ((ZAw (ZW ns at_)).map λk=>[beV (ZW ns at_) k])::List.take 1 ((ZbU ns at_).map ZZ)))) o5;subst q2;have c2:min 1 (ZbU ns at_).length+1+1<1000000:=by omega
  have c3:(2:Nat)+min 1 (ZbU ns at_).length<1000000:=by omega
  by_cases w2:ZY (Zy ns at_) 9859 3=1
  ·have w2':(ZY (Zy ns at_) 9859 3==1)=ZFt:=by simp[w2]
   simp[Zbl,ZdC,c0,m4,<-hmc,hlen,m3,ok3,Zaj,n3,f1,mw,w1',c1,wk,cut,w1,ml,okl,nl,f2,c7,k7,mb,w2',okm,nm,c8,k8,w2,c2,c3]
  ·have w2':(ZY (Zy ns at_) 9859 3==1)=ZFu:=by simp[w2]
   simp[Zbl,ZdC,c0,m4,<-hmc,hlen,m3,ok3,Zaj,n3,f1,mw,w1',c1,wk,cut,w1,ml,okl,nl,f2,c7,k7,mb,w2',okm,nm,c8,k8,w2,c2,c3]
 ·have w1':(ZY (Zy ns at_) 9901 3==1)=ZFu:=by simp[w1]
  obtain⟨r2,f2,p5,p7,p8,q2⟩:=lks (Z (.ol ((ZbU ns at_).map ZZ))) o5;subst q2
  by_cases w2:ZY (Zy ns at_) 9859 3=1
  ·have w2':(ZY (Zy ns at_) 9859 3==1)=ZFt:=by simp[w2]
   simp[Zbl,ZdC,c0,m4,<-hmc,hlen,m3,ok3,Zaj,n3,f1,mw,w1',w1,ml,okl,nl,f2,c7,k7,mb,w2',okm,nm,c8,k8,w2]
  ·have w2':(ZY (Zy ns at_) 9859 3==1)=ZFu:=by simp[w2]
   simp[Zbl,ZdC,c0,m4,<-hmc,hlen,m3,ok3,Zaj,n3,f1,mw,w1',w1,ml,okl,nl,f2,c7,k7,mb,w2',okm,nm,c8,k8,w2]
end
end HG
namespace HG
open PySem HM
variable{c:List Int}{n:Nat}{w:Wk}
theorem Zo0{e:EF}{r:HM.Env}{f:D->D}(xs:List D)(h:∀x∈xs,e (Z (.pl x)::r)=Z (f x)):Zak ZE e r xs=Z (xs.map f):=by
 have:=ZaF (e:=e) (r:=r) id f xs h
 rwa [List.map_id]at this
theorem ZpE(xs:List D)(p:D->Bool):Zfh (xs.map λx=>ZBQ (p x))=Z (xs.map p):=by
 have:=Zfc (xs.map p)
 rwa [ZAI]at this
def ZgZ(d:D)(lo hi:Int):Bool:=match d with
 | .int i=>decide (lo<=i)&&decide (i<=hi)
 | _=>ZFu
def ndD:D->Prop
 | .dict _=>False
 | _=>True
theorem Zfk(d:D)(lo hi:Int)(nd:ndD d:=by trivial):ZaJ [d,.int lo,.int hi]=Z (.bool (ZgZ d lo hi)):=by
 cases d<;>first | exact nd.elim | simp[ZaJ,Zjp,ZgZ]
 rename_i i
 by_cases h:lo<=i<;>simp[h]
def Zdj(d:D)(lo hi:Int):Bool:=match d with
 | .tuple ds=>decide (lo<=(ds.length:Int))&&decide ((ds.length:Int)<=hi)
 | _=>ZFu
theorem ZdP(d:D)(lo hi:Int)(nd:ndD d:=by trivial):ZaA [d,.int lo,.int hi]=Z (.bool (Zdj d lo hi)):=by
 cases d<;>first | exact nd.elim | simp[ZaA,Zm1,Zdj]
 rename_i ds
 by_cases h:lo<=(ds.length:Int)<;>simp[h]
def Zcr(many:Int):Int->List D->Bool
 | _,[]=>ZFt
 | l,.int i::r=>(decide (l<=i)&&decide (i<=many-1))&&Zcr many (i+1) r
 | _,_::_=>ZFu
def Zkr(d:D)(many:Int):Bool:=match d with
 | .tuple ds=>Zcr many 0 ds
 | _=>ZFu
theorem ZrK(d:D)(many:Int):∀(ds:List D) (l:Int) (o:Option B),(∀x∈ds,ndD x) ->
  (Zcr many l ds=ZFt->∃l' o',ZaO 3 ZaK ds [Z (.pl d),Z (.pl (.int many)),Z (.pl (.int l)),o]=Z (.nx [Z (.pl d),Z (.pl (.int many)),Z (.pl (.int l')),o'])) /\
  (Zcr many l ds=ZFu->ZaO 3 ZaK ds [Z (.pl d),Z (.pl (.int many)),Z (.pl (.int l)),o]=Z (.rt (.bool ZFu)))
 | [],l,o,_=>⟨λ_=>⟨l,o,rfl⟩,λh=>by simp[Zcr]at h⟩
 | x::ds,l,o,nd=>by
  have key:=Zfk x l (many-1) (nd x (ZAp ..));cases hx:ZgZ x l (many-1)with
  | false =>
   have e:ZaK [Z (.pl d),Z (.pl (.int many)),Z (.pl (.int l)),Z (.pl x)]=Z (.rt (.bool ZFu)):=by rw[hx]at key;simp[ZaK,key]
   have e2:Zcr many l (x::ds)=ZFu:=by cases x<;>simp[Zcr];rename_i i;simp[ZgZ]at hx;intro h1 h2;exact absurd (hx h1) (by omega)
   refine⟨λh=>?_,λ_=>?_⟩
   ·rw[e2]at h; cases h
   ·unfold ZaO
    show(match ZaK [Z (.pl d),Z (.pl (.int many)),Z (.pl (.int l)),Z (.pl x)]with | some (.nx r')=>_ | some (.ct r')=>_ | some (.bk r')=>_ | some (.rt d)=>_ | none=>_)=_;rw[e]
  | true =>
   cases x with
   | int i =>
    have e:ZaK [Z (.pl d),Z (.pl (.int many)),Z (.pl (.int l)),Z (.pl (.int i))]=Z (.nx [Z (.pl d),Z (.pl (.int many)),Z (.pl (.int (i+1))),Z (.pl (.int i))]):=by rw[hx]at key;simp[ZaK,key]
    have e2:Zcr many l (.int i::ds)=Zcr many (i+1) ds:=by have:(decide (l<=i)&&decide (i<=many-1))=ZFt:=hx;simp only[Zcr,this,Bool.true_and]
    obtain⟨a1,a2⟩:=ZrK d many ds (i+1) (Z (.pl (.int i))) λx hx=>nd x (ZAq _ hx);rw[e2];have e3:ZaO 3 ZaK (.int i::ds) [Z (.pl d),Z (.pl (.int many)),Z (.pl (.int l)),o]=ZaO 3 ZaK ds [Z (.pl d),Z (.pl (.int many)),Z (.pl (.int (i+1))),Z (.pl (.int i))]:=by show(match ZaK [Z (.pl d),Z (.pl (.int many)),Z (.pl (.int l)),Z (.pl (.int i))]with | some (.nx r')=>_ | some (.ct r')=>_ | some (.bk r')=>_ | some (.rt d)=>_ | none=>_)=_;rw[e]
    rw[e3];exact⟨a1,a2⟩
   | _=>simp[ZgZ]at hx
theorem Zj9(d:D)(many:Int)(hl:∀ds,d=.tuple ds->ds.length<1000000/\∀x∈ds,ndD x)(nd:ndD d:=by trivial):ZaL [d,.int many]=Z (.bool (Zkr d many)):=by
 cases d with
 | tuple ds =>
  obtain⟨hl,hn⟩:=hl ds rfl;obtain⟨a1,a2⟩:=ZrK (.tuple ds) many ds 0 Z_ hn;cases h:Zcr many 0 ds with
  | true=>obtain⟨l',o',e⟩:=a1 h;simp[ZaL,ZeN,Zkr,h,hl,e]
  | false=>have e:=a2 h;simp[ZaL,ZeN,Zkr,h,hl,e]
 | dict _=>exact nd.elim
 | _=>simp[ZaL,ZeN,Zkr]
def small:D->Prop
 | .tuple ds=>ds.length<1000000/\∀x∈ds,ndD x
 | .dict _=>False
 | _=>True
theorem ZlY(h:(c.map dI).length<1000000):small (tupI c):=⟨h,λx hx=>by obtain⟨i,_,rfl⟩:=ZAv.mp hx; trivial⟩
theorem Zqc{d:D}(h:small d):ndD d:=by cases d<;>first | exact h.elim | trivial
theorem Zt5{d:D}(h:small d):∀ds,d=.tuple ds->ds.length<1000000/\∀x∈ds,ndD x:=by rintro ds rfl; exact h
def ZjK(d:D)(many:Int):Bool:=Zdj d many many&&(match d with | .tuple ds=>ds.all λc=>Zkr c many | _=>ZFu)
def Zl5(d:D):Prop:=match d with | .tuple ds=>ds.length<1000000/\∀x∈ds,small x | .dict _=>False | _=>True
theorem Zu9{d:D}(h:Zl5 d):ndD d:=by cases d<;>first | exact h.elim | trivial
theorem Zsp(d:D)(many:Int)(hs:Zl5 d):ZcS [d,.int many]=Z (.bool (ZjK d many)):=by
 have h1:=ZdP d many many (Zu9 hs);cases hr:Zdj d many many with
 | false=>rw[hr]at h1; simp[ZcS,Ziq,h1,ZjK,hr]
 | true =>
  rw[hr]at h1;cases d with
  | tuple ds =>
   have hs':ds.length<1000000/\∀x∈ds,small x:=hs;simp[ZcS,Ziq,h1,ZjK,hr,hs'.1];rw[Zo0 (f:=λc=>.bool (Zkr c many))]
   ·simp[ZpE]
   ·intro x hx
    simp[Zj9 x many (Zt5 (hs'.2 x hx)) (Zqc (hs'.2 x hx))]
  | _=>simp[Zdj]at hr
def Zj2(d:D)(many:Int):Bool:=Zdj d many many&&(match d with | .tuple ds=>ds.all λc=>ZgZ c 0 9 | _=>ZFu)
theorem Zsc(d:D)(many:Int)(hs:small d):ZcT [d,.int many]=Z (.bool (Zj2 d many)):=by
 have h1:=ZdP d many many (Zqc hs);cases hr:Zdj d many many with
 | false=>rw[hr]at h1; simp[ZcT,Zir,h1,Zj2,hr]
 | true =>
  rw[hr]at h1;cases d with
  | tuple ds =>
   have hs':ds.length<1000000:=hs.1;simp[ZcT,Zir,h1,Zj2,hr,hs'];rw[Zo0 (f:=λc=>.bool (ZgZ c 0 9))]
   ·simp[ZpE]
   ·intro x hx
    simp[Zfk x 0 9 (hs.2 x hx)]
  | _=>simp[Zdj]at hr
structure Wk.V(w:Wk):Prop where
 m1:1<=w.many
 m2:w.many<=8
 d1:1<=w.deeds.length
 d2:w.deeds.length<=5
 dl:∀dd∈w.deeds,dd.length=w.many
 dc:∀dd∈w.deeds,∀c∈dd,Cr w.many c
 l2:w.looks.length<=4
 ll:∀l∈w.looks,l.length=w.many
 lc:∀l∈w.looks,∀x∈l,0<=x/\x<=9
 b1:w.beg≠[]
 bc:Cr w.many w.beg
 gc:Cr w.many w.goal
theorem Wk.Ok.v(h:w.Ok):Wk.V w:=by obtain⟨m1,m2,d1,d2,dl,dc,l2,ll,lc,b1,bc,g1,gc⟩:=h;exact⟨by omega,by omega,d1,by omega,dl,dc,by omega,ll,lc,b1,bc,gc⟩
theorem Zm0(n:Nat):∀(c:List Int) (l:Int),c.Pairwise (· < ·)->(∀x∈c,l<=x/\x<(n:Int))->Zcr n l (c.map dI)=ZFt
 | [],_,_,_=>rfl
 | x::c,l,hp,hb=>by have h1:=hb x (ZAp ..);have ih:=Zm0 n c (x+1) (ZBj.mp hp).2 λy hy=>⟨by have:=(ZBj.mp hp).1 y hy; omega,(hb y (ZAq _ hy)).2⟩;show((decide (l<=x)&&decide (x<=(n:Int)-1))&&Zcr n (x+1) (c.map dI))=ZFt;rw[ih,decide_eq_true h1.1,decide_eq_true (show x<=(n:Int)-1 by omega)];rfl
theorem Zm7(h:Cr n c)(hn:n<1000):ZaL [tupI c,.int n]=Z (.bool ZFt):=by have hl:=h.len;rw[Zj9 (tupI c) n (by intro ds e; cases e; exact⟨by simp; omega,λx hx=>by obtain⟨i,_,rfl⟩:=ZAv.mp hx; trivial⟩)];show Z (ZBQ (Zcr n 0 (c.map dI)))=_;rw[Zm0 n c 0 h.1 h.2]
theorem Zrb(h:Cr n c)(h0:c≠[])(hn:n<1000):Zea [tupI c,.int n]=Z (.bool ZFt):=by
 have h1:=Zm7 h hn;have h2:(0:Int)<(c.length:Int):=by have:=ZD6.mpr h0;omega
 simp[Zea,ZkJ,h1];exact ZD6.mpr h0
theorem ZwE(h:Wk.V w){dd:List (List Int)}(hd:dd∈w.deeds):ZcS [ZZ dd,.int w.many]=Z (.bool ZFt):=by
 have hl:=h.dl dd hd;have m2:=h.m2;rw[Zsp (ZZ dd) _ (show(dd.map tupI).length<1000000/\∀x∈dd.map tupI,small x by refine⟨by simp; omega,λx hx=>?_⟩;obtain⟨c,hc,rfl⟩:=ZAv.mp hx;have:=(h.dc dd hd c hc).len;refine ZlY ?_;simp; omega)];have e:ZjK (ZZ dd) w.many=ZFt:=by unfold ZjK ZZ Zdj;simp[hl];intro c hc;exact Zm0 w.many c 0 (h.dc dd hd c hc).1 (h.dc dd hd c hc).2
 rw[e]
theorem Zv6(h:Wk.V w){l:List Int}(hd:l∈w.looks):ZcT [tupI l,.int w.many]=Z (.bool ZFt):=by
 have hl:=h.ll l hd;have m2:=h.m2;rw[Zsc (tupI l) _ (ZlY (show(l.map dI).length<1000000 by simp; omega))];have e:Zj2 (tupI l) w.many=ZFt:=by unfold Zj2 Zdj;simp[hl];intro x hx;have:=h.lc l hd x hx;simp[ZgZ];omega
 rw[e]
theorem allTrue(α:Type)(xs:List α):Zfh (xs.map λ_=>ZBQ ZFt)=Z (xs.map λ_=>ZFt):=by
 have:=Zfc (xs.map λ_=>ZFt)
 rwa [ZAI]at this
theorem ZpK(h:Wk.V w):Zdy [.tuple (w.deeds.map ZZ),.int w.many]=Z (.bool ZFt):=by
 have h1:=ZdP (.tuple (w.deeds.map ZZ)) 1 5;have d1:=h.d1;have d2:=h.d2;have e:Zdj (.tuple (w.deeds.map ZZ)) 1 5=ZFt:=by simp[Zdj]; omega
 rw[e]at h1;have hl:w.deeds.length<1000000:=by omega
 simp[Zdy,Zjq,h1,hl];rw[ZaF ZZ (λ_=>.bool ZFt)]
 ·simp[allTrue]
 ·intro x hx
  simp[ZwE h hx]
theorem Zql(h:Wk.V w):Zdz [.tuple (w.looks.map tupI),.int w.many]=Z (.bool ZFt):=by
 have h1:=ZdP (.tuple (w.looks.map tupI)) 0 4;have d2:=h.l2;have e:Zdj (.tuple (w.looks.map tupI)) 0 4=ZFt:=by simp[Zdj]; omega
 rw[e]at h1;have hl:w.looks.length<1000000:=by omega
 simp[Zdz,Zjr,h1,hl];rw[ZaF tupI (λ_=>.bool ZFt)]
 ·simp[allTrue]
 ·intro x hx
  simp[Zv6 h hx]
theorem ZpV(h:Wk.V w):ZdA [w.d]=Z (.bool ZFt):=by
 have h1:=ZdP w.d 5 5;have e:Zdj w.d 5 5=ZFt:=by simp[Zdj,Wk.d]
 rw[e]at h1;have h2:=Zfk (.int w.many) 1 8;have m1:=h.m1;have m2:=h.m2;have e2:ZgZ (.int w.many) 1 8=ZFt:=by simp[ZgZ]; omega
 rw[e2]at h2;have h3:=ZpK h;have h4:=Zql h;have h5:=Zrb h.bc h.b1 (by omega);have h6:=Zm7 h.gc (by omega);unfold Wk.d at h1 ⊢;simp[ZdA,Zjs,h1,h2,h3,h4,h5,h6]
theorem ZsR(h:Wk.V w):ZeO [w.d]=Z w.d:=by simp[ZeO,ZlD,ZpV h]
theorem ZfQ(w:Wk):Za9 [w.d]=Z (.tuple (w.deeds.map ZZ)):=by simp[Za9,ZkK,Wk.d]
theorem ZkW(w:Wk):Zct [w.d]=Z (.tuple (w.looks.map tupI)):=by simp[Zct,ZkL,Wk.d]
end HG
namespace HG
open PySem HM
variable{l s:Int}{c:List Int}{w:Wk}
def ZbM(w:Wk)(d s:Int):List Int:=(w.deeds[d.toNat]?.getD [])[s.toNat]?.getD []
def Zkp(w:Wk)(l s:Int):Int:=(w.looks[l.toNat]?.getD [])[s.toNat]?.getD 0
def Za6(w:Wk)(c:List Int)(d:Int):Bool:=c.all λs=>decide (0<(ZbM w d s).length)
def Zbf(w:Wk)(c:List Int)(d:Int):List Int:=c.flatMap λs=>ZbM w d s
def Zat(w:Wk)(c:List Int)(d:Int):List Int:=sortI (dedup [] (Zbf w c d))
def Zz(w:Wk)(ls:List Int)(s:Int):List Int:=ls.map λl=>Zkp w l s
theorem ZmJ{d:Int}(h0:0<=d)(h1:d<w.deeds.length):atD (w.deeds.map ZZ) d=Z (ZZ (w.deeds[d.toNat]?.getD [])):=by
 refine Zkx h0 ?_;have h:d.toNat<w.deeds.length:=by omega
 simp[h,ZBW]
theorem Zqk(hv:Wk.V w){d:Int}(h0:0<=d)(h1:d<w.deeds.length)(h2:0<=s)(h3:s<w.many):atD ((w.deeds[d.toNat]?.getD []).map tupI) s=Z (tupI (ZbM w d s)):=by
 refine Zkx h2 ?_;have h:d.toNat<w.deeds.length:=by omega
 have hl:(w.deeds[d.toNat]?.getD []).length=w.many:=by
  have:w.deeds[d.toNat]?.getD []=w.deeds[d.toNat]:=by simp[h,ZBW]
  rw[this];exact hv.dl _ (ZBJ h)
 have h':s.toNat<(w.deeds[d.toNat]?.getD []).length:=by omega
 unfold ZbM;rw[ZAO,ZAx h'];simp[ZBW,h']
theorem ZoR(hv:Wk.V w){d:Int}(h0:0<=d)(h1:d<w.deeds.length)(h2:0<=s)(h3:s<w.many):Cr w.many (ZbM w d s):=by
 have h:d.toNat<w.deeds.length:=by omega
 have e:w.deeds[d.toNat]?.getD []=w.deeds[d.toNat]:=by simp[h,ZBW]
 have hl:=hv.dl _ (ZBJ h);unfold ZbM;rw[e];have h':s.toNat<(w.deeds[d.toNat]).length:=by omega
 have e2:(w.deeds[d.toNat])[s.toNat]?.getD []=(w.deeds[d.toNat])[s.toNat]:=by simp[h',ZBW]
 rw[e2];exact hv.dc _ (ZBJ h) _ (ZBJ h')
theorem Zrs(h0:0<=l)(h1:l<w.looks.length):atD (w.looks.map tupI) l=Z (tupI (w.looks[l.toNat]?.getD [])):=by
 refine Zkx h0 ?_;have h:l.toNat<w.looks.length:=by omega
 simp[h,ZBW]
theorem ZrN(hv:Wk.V w)(h0:0<=l)(h1:l<w.looks.length)(h2:0<=s)(h3:s<w.many):atD ((w.looks[l.toNat]?.getD []).map dI) s=Z (.int (Zkp w l s)):=by
 refine Zkx h2 ?_;have h:l.toNat<w.looks.length:=by omega
 have hl:(w.looks[l.toNat]?.getD []).length=w.many:=by
  have:w.looks[l.toNat]?.getD []=w.looks[l.toNat]:=by simp[h,ZBW]
  rw[this];exact hv.ll _ (ZBJ h)
 have h':s.toNat<(w.looks[l.toNat]?.getD []).length:=by omega
 unfold Zkp;rw[ZAO,ZAx h'];simp[ZBW,h']
theorem Zsi(hv:Wk.V w){ls:List Int}(hl:Cr w.looks.length ls)(h2:0<=s)(h3:s<w.many):ZeP [w.d,tupI ls,.int s]=Z (tupI (Zz w ls s)):=by
 have l2:=hv.l2;have hlen:=hl.len;have hb:ls.length<1000000:=by omega
 simp[ZeP,ZlE,hb];rw[ZaF dI (λl=>dI (Zkp w l s))]
 ·simp[Zz]
 ·intro l hl'
  have hb:=hl.2 l hl';simp[ZkW,Zrs hb.1 hb.2,ZrN hv hb.1 hb.2 h2 h3]
theorem Zmz(hv:Wk.V w)(hc:Cr w.many c){d:Int}(h0:0<=d)(h1:d<w.deeds.length):ZcC [w.d,tupI c,.int d]=Z (.bool (Za6 w c d)):=by
 have m2:=hv.m2;have hlen:=hc.len;have hb:c.length<1000000:=by omega
 simp[ZcC,Zh2,ZfQ,ZmJ h0 h1,hb];rw[ZaF dI (λs=>.bool (decide (0<(ZbM w d s).length)))]
 ·have e:=Zfc (c.map λs=>decide (0<(ZbM w d s).length))
  rw[ZAI]at e;have e':((λb=>ZBQ b)∘λs=>decide (0<(ZbM w d s).length))=λs=>ZBQ (decide (0<(ZbM w d s).length)):=rfl;rw[e']at e;simp[e,Za6]
 ·intro s hs
  have hb:=hc.2 s hs;simp[ZZ,Zqk hv h0 h1 hb.1 hb.2]
def doV(w:Wk)(c:List Int):List Int:=((ZAw w.deeds.length).filter λ(d:Nat)=>Za6 w c (d:Int)).map λ(k:Nat)=>(k:Int)
theorem ZnV(hv:Wk.V w)(hc:Cr w.many c):Zc2 [w.d,tupI c]=Z (.list ((doV w c).map dI)):=by
 have d2:=hv.d2;have hok:okR (w.deeds.length:Int)=ZFt:=ZcR (by omega);have hb:w.deeds.length<1000000:=by omega
 simp[Zc2,Zje,ZfQ,hok,Zaj,hb];rw[Zbz dN (λk:Nat=>Za6 w c k) dN]
 ·simp[doV]
 ·intro k hk
  have hk':=ZA5.mp hk;simp[Zmz hv hc (show(0:Int)<=(k:Int) by omega) (by omega)]
 ·intro k hk _
  simp
def ZcA(acc:List Int)(x:Int):List Int:=if acc.contains x then acc else acc++[x]
theorem Zgu:∀(l acc:List Int),dedup acc l=l.foldl ZcA acc
 | [],acc=>rfl
 | x::l,acc=>by
  unfold dedup;rw[ZBu];unfold ZcA;split
  ·rw[Zgu l acc]; rfl
  ·rw[Zgu l (acc++[x])]; rfl
def tru(acc:List Int):List (Ky × D):=acc.map λi=>(ZCf i,ZBQ ZFt)
theorem ZwS(acc:List Int)(x:Int):putD (tru acc) (ZCf x) (ZBQ ZFt)=tru (ZcA acc x):=by
 unfold putD ZcA tru
 by_cases h:x∈acc
 ·have e1:((acc.map λi=>((ZCf i:Ky),ZBQ ZFt)).any λp=>decide (p.1=ZCf x))=ZFt:=by
   simp; exact h
  have e2:acc.contains x=ZFt:=by simpa using h
  rw[if_pos e1,if_pos e2,ZAI];refine ZBL λi _=>?_;simp
 ·have e1:¬((acc.map λi=>((ZCf i:Ky),ZBQ ZFt)).any λp=>decide (p.1=ZCf x))=ZFt:=by
   simp; exact h
  have e2:¬acc.contains x=ZFt:=by simpa using h
  rw[if_neg e1,if_neg e2];simp
theorem Znu(acc:List Int)(x:Int):(ZcA acc x).length<=acc.length+1:=by unfold ZcA; split<;>simp
theorem Zp0:∀(l acc:List Int),(l.foldl ZcA acc).length<=acc.length+l.length
 | [],acc=>by simp
 | x::l,acc=>by rw[ZBu];have:=Zp0 l (ZcA acc x);have:=Znu acc x;simp; omega
theorem Ztm(e0 e1 e2 e3 e5:Option B):∀(l acc:List Int) (o:Option B),acc.length+l.length<1000000 ->
  ∃o',ZaO 6 ZeQ (l.map dI) [e0,e1,e2,e3,Z (.ok (tru acc)),e5,o]=Z (.nx [e0,e1,e2,e3,Z (.ok (tru (l.foldl ZcA acc))),e5,o'])
 | [],acc,o,_=>⟨o,rfl⟩
 | x::l,acc,o,h=>by
  rw[ZAB]at h;have hb:acc.length<1000000:=by omega
  have e:ZeQ [e0,e1,e2,e3,Z (.ok (tru acc)),e5,Z (.pl (dI x))]=Z (.nx [e0,e1,e2,e3,Z (.ok (tru (ZcA acc x))),e5,Z (.pl (dI x))]):=by
   have hl:(tru acc).length<1000000:=by unfold tru; simp; exact hb
   simp[ZeQ,hl,ZwS]
  have hd:=Znu acc x;obtain⟨o',e'⟩:=Ztm e0 e1 e2 e3 e5 l (ZcA acc x) (Z (.pl (dI x))) (by omega);refine⟨o',?_⟩;rw[ZAt,ZBu,<-e'];unfold ZaO;show(match ZeQ [e0,e1,e2,e3,Z (.ok (tru acc)),e5,Z (.pl (dI x))]with | some (.nx r')=>_ | some (.ct r')=>_ | some (.bk r')=>_ | some (.rt d)=>_ | none=>_)=_;rw[e];cases l<;>rfl
theorem Zte{w:Wk}(hv:Wk.V w){d:Int}(h0:0<=d)(h1:d<w.deeds.length)(e1 e2:Option B):∀(c acc:List Int) (o5 o6:Option B),(∀s∈c,0<=s/\s<(w.many:Int))->acc.length+c.length*10<100000 ->
  ∃o5' o6',ZaO 5 ZeR (c.map dI) [Z (.pl w.d),e1,e2,Z (.pl (ZZ (w.deeds[d.toNat]?.getD []))),Z (.ok (tru acc)),o5,o6]=Z (.nx [Z (.pl w.d),e1,e2,Z (.pl (ZZ (w.deeds[d.toNat]?.getD []))),Z (.ok (tru ((Zbf w c d).foldl ZcA acc))),o5',o6'])
 | [],acc,o5,o6,_,_=>⟨o5,o6,rfl⟩
 | s::c,acc,o5,o6,hs,hl=>by
  rw[ZAB]at hl;have hb:=hs s (ZAp ..);have hr:=(ZoR hv h0 h1 hb.1 hb.2).len;have m2:=hv.m2;have hrl:(ZbM w d s).length<1000000:=by omega
  obtain⟨o',e⟩:=Ztm (Z (.pl w.d)) e1 e2 (Z (.pl (ZZ (w.deeds[d.toNat]?.getD [])))) (Z (.pl (dI s))) (ZbM w d s) acc o6 (by omega);have e':ZeR [Z (.pl w.d),e1,e2,Z (.pl (ZZ (w.deeds[d.toNat]?.getD []))),Z (.ok (tru acc)),Z (.pl (dI s)),o6]=Z (.nx [Z (.pl w.d),e1,e2,Z (.pl (ZZ (w.deeds[d.toNat]?.getD []))),Z (.ok (tru ((ZbM w d s).foldl ZcA acc))),Z (.pl (dI s)),o']):=by unfold ZZ at e ⊢;simp[ZeR,Zqk hv h0 h1 hb.1 hb.2,hrl,e]
  have hf:=Zp0 (ZbM w d s) acc;obtain⟨p5,p6,ih⟩:=Zte hv h0 h1 e1 e2 c ((ZbM w d s).foldl ZcA acc) (Z (.pl (dI s))) o' (λx hx=>hs x (ZAq _ hx)) (by omega);refine⟨p5,p6,?_⟩;have ef:Zbf w (s::c) d=ZbM w d s++Zbf w c d:=rfl;rw[ef,ZDJ,<-ih,ZAt];show(match ZeR [Z (.pl w.d),e1,e2,Z (.pl (ZZ (w.deeds[d.toNat]?.getD []))),Z (.ok (tru acc)),Z (.pl (dI s)),o6]with | some (.nx r')=>_ | some (.ct r')=>_ | some (.bk r')=>_ | some (.rt d)=>_ | none=>_)=_;rw[e']
theorem Ztq(hv:Wk.V w)(hc:Cr w.many c){d:Int}(h0:0<=d)(h1:d<w.deeds.length):∀x∈Zbf w c d,0<=x/\x<(w.many:Int):=by intro x hx;obtain⟨s,hs,h⟩:=ZCQ.mp hx;exact(ZoR hv h0 h1 (hc.2 s hs).1 (hc.2 s hs).2).2 x h
theorem Zif(hv:Wk.V w)(hc:Cr w.many c){d:Int}(h0:0<=d)(h1:d<w.deeds.length):Cr w.many (Zat w c d):=by refine Zi2 (ZfR _ _ (by simp)) λx hx=>Ztq hv hc h0 h1 x ?_;rw[ZfZ]at hx;simpa using hx
theorem Zt1(hv:Wk.V w)(hc:Cr w.many c){d:Int}(h0:0<=d)(h1:d<w.deeds.length):ZeD [w.d,tupI c,.int d]=Z (tupI (Zat w c d)):=by
 have m2:=hv.m2;have hlen:=hc.len;have hb:c.length<1000000:=by omega
 obtain⟨o5,o6,e⟩:=Zte hv h0 h1 (Z (.pl (tupI c))) (Z (.pl (.int d))) c [] Z_ Z_ hc.2 (by simp; omega);have hl:(dedup [] (Zbf w c d)).length<64:=by have h:=(Zif hv hc h0 h1).len;have:=(sortI_perm (dedup [] (Zbf w c d))).length_eq;unfold Zat at h;omega
 have hs:=Zja _ hl;rw[Zgu]at hs;have ek:(tru ((Zbf w c d).foldl ZcA [])).map (λp=>ZaV p.1)=((Zbf w c d).foldl ZcA []).map dI:=by unfold tru;rw[ZAI];rfl
 simp[ZeD,Zm2,ZfQ,ZmJ h0 h1,hb];rw[show Z (B.ok [])=Z (B.ok (tru [])) from rfl,e];simp[ek,hs,Zat,Zgu]
end HG
namespace HG
open PySem HM
abbrev Gs:=List (List Int × List Int)
abbrev Z3(k:List Int):List Ky:=k.map ZCf
def ZaW(g:Gs):List (List Ky × List D):=g.map λp=>(Z3 p.1,p.2.map dI)
theorem Zex{a b:List Int}(h:Z3 a=Z3 b):a=b:=by
 induction a generalizing b with
 | nil=>cases b with
  | nil=>rfl
  | cons _ _=>simp at h
 | cons x a ih=>cases b with
  | nil=>simp at h
  | cons y b=>simp at h;rw[h.1,ih (by simpa using h.2)]
theorem Zmx(a b:List Int):(Z3 a=Z3 b)↔a=b:=⟨Zex,λh=>by rw[h]⟩
theorem Zsy(k:List Int):ZmM (k.map dI)=Z (Z3 k):=by
 induction k with
 | nil=>rfl
 | cons x k ih=>show(ZmM (k.map dI)).map (ZCf x::·)=_;rw[ih];rfl
theorem Zar(k:List Int):ZaT (tupI k)=Z (Z3 k):=Zsy k
theorem Zg4(g:Gs)(k:List Int):Zi (ZaW g) (Z3 k)=(Zi g k).map λp=>p.map dI:=by
 unfold Zi ZaW;rw[List.find?_map];have e:((λp:List Ky × List D=>decide (p.1=Z3 k))∘λp:List Int × List Int=>(Z3 p.1,p.2.map dI))=λp=>decide (p.1=k):=by
  funext p
  simp only[ZDO];exact decide_eq_decide.mpr (Zmx p.1 k)
 rw[e];cases g.find? λp=>decide (p.1=k)<;>rfl
theorem ZrB(g:Gs)(k:List Int):ZbN (ZaW g) (Z3 k)=ZaW (ZbN g k):=by
 unfold ZbN;rw[Zg4];cases Zi g k with
 | none=>simp[ZaW]
 | some p=>rfl
theorem Zkn(k:List Int)(s:Int):∀(g:Gs),ZdS (ZaW g) (Z3 k) (dI s)=ZaW (ZdS g k s)
 | []=>rfl
 | (x,p)::g=>by
  show ZdS ((Z3 x,p.map dI)::ZaW g) (Z3 k) (dI s)=ZaW (ZdS ((x,p)::g) k s);unfold ZdS
  by_cases h:x=k
  ·rw[if_pos (by rw[h]),if_pos h]
   simp[ZaW]
  ·rw[if_neg (λe=>h (Zex e)),if_neg h,Zkn k s g]
   rfl
def Zd7(g:Gs)(k:List Int)(s:Int):Gs:=ZdS (ZbN g k) k s
theorem Zfv(k:List Int):Zi ([]:Gs) k=Z_:=rfl
theorem ZbZ(x:List Int)(p:List Int)(g:Gs)(k:List Int):Zi ((x,p)::g) k=if x=k then Z p else Zi g k:=by
 unfold Zi;rw[ZBv]
 by_cases h:x=k<;>simp[h]
theorem ZoS(k:List Int)(s:Int)(k':List Int):∀(g:Gs),Zi (ZdS g k s) k'=if k=k' then(Zi g k).map (·++[s])else Zi g k'
 | []=>by simp[ZdS,Zfv]
 | (x,p)::g=>by
  unfold ZdS
  by_cases h:x=k
  ·subst h
   rw[if_pos rfl,ZbZ,ZbZ,ZbZ,if_pos rfl];split<;>rfl
  ·rw[if_neg h,ZbZ,ZoS k s k' g,ZbZ,ZbZ,if_neg h]
   by_cases h2:x=k'
   ·subst h2
    rw[if_pos rfl,if_pos rfl,if_neg (ZBy h)]
   ·rw[if_neg h2,if_neg h2]
theorem ZlT(x:List Int)(p:List Int)(k:List Int):∀(g:Gs),Zi (g++[(x,p)]) k=match Zi g k with | some q=>Z q | none=>if x=k then Z p else Z_
 | []=>by simp[Zfv,ZbZ]
 | (y,q)::g=>by rw[ZEI,ZbZ,ZbZ,ZlT x p k g];split<;>rfl
theorem ZiV(g:Gs)(k k':List Int):Zi (ZbN g k) k'=if k=k' then Z ((Zi g k).getD [])else Zi g k':=by
 unfold ZbN;cases h:Zi g k with
 | some p =>
  by_cases e:k=k'
  ·subst e; rw[if_pos rfl]; exact h
  ·rw[if_neg e]
 | none =>
  show Zi (g++[(k,[])]) k'=_;rw[ZlT]
  by_cases e:k=k'
  ·subst e; rw[if_pos rfl,if_pos rfl,h]; rfl
  ·rw[if_neg e,if_neg e]
   cases Zi g k'<;>rfl
theorem Zuy(g:Gs)(k k':List Int)(s:Int):Zi (Zd7 g k s) k'=if k=k' then Z ((Zi g k).getD []++[s])else Zi g k':=by
 unfold Zd7;rw[ZoS,ZiV,ZiV,if_pos rfl]
 by_cases e:k=k'
 ·rw[if_pos e,if_pos e]; rfl
 ·rw[if_neg e,if_neg e,if_neg e]
theorem Zqg(k:List Int)(s:Int):∀(g:Gs),(ZdS g k s).map (·.1)=g.map (·.1)
 | []=>rfl
 | (x,p)::g=>by
  unfold ZdS;split
  ·rfl
  ·rw[ZAt,Zqg k s g]; rfl
theorem Zle(g:Gs)(k:List Int):(Zi g k).isSome=ZFt↔k∈g.map (·.1):=by
 induction g with
 | nil=>simp[Zfv]
 | cons p g ih =>
  obtain⟨x,q⟩:=p;rw[ZbZ,ZAt,ZAy]
  by_cases h:x=k
  ·simp[h]
  ·rw[if_neg h,ih]
   constructor
   ·exact .inr
   ·rintro (e | e)
    ·exact absurd e.symm h
    ·exact e
theorem ZvE(g:Gs)(k:List Int):(ZbN g k).map (·.1)=if k∈g.map (·.1)then g.map (·.1)else g.map (·.1)++[k]:=by
 unfold ZbN;cases h:Zi g k with
 | some p=>rw[if_pos ((Zle g k).mp (by rw[h]; rfl))]
 | none=>rw[if_neg (λm=>by have:=(Zle g k).mpr m; rw[h]at this; cases this)];simp
theorem Zu7(g:Gs)(k:List Int)(s:Int):(Zd7 g k s).map (·.1)=if k∈g.map (·.1)then g.map (·.1)else g.map (·.1)++[k]:=by unfold Zd7;rw[Zqg,ZvE]
def Zdi(f:Int->List Int)(c:List Int):Gs:=c.foldl (λg s=>Zd7 g (f s) s) []
structure Grp(f:Int->List Int)(pre:List Int)(g:Gs):Prop where
 nd:(g.map (·.1)).Nodup
 look:∀k,Zi g k=if k∈pre.map f then Z (pre.filter λs=>f s==k)else Z_
theorem Grp.mem{f:Int->List Int}{pre:List Int}{g:Gs}(h:Grp f pre g)(k:List Int):k∈g.map (·.1)↔k∈pre.map f:=by
 rw[<-Zle,h.look];split
 ·rename_i m; exact⟨λ_=>m,λ_=>rfl⟩
 ·rename_i m; exact⟨(λe=>by cases e),λe=>absurd e m⟩
theorem Grp.step{f:Int->List Int}{pre:List Int}{g:Gs}(h:Grp f pre g)(s:Int):Grp f (pre++[s]) (Zd7 g (f s) s):=by
 refine⟨?_,λk=>?_⟩
 ·rw[Zu7]
  split
  ·exact h.nd
  ·rename_i m
   rw[ZB7];exact⟨h.nd,by simp,λa ha b hb=>by simp at hb; subst hb; exact λe=>m (e▸ha)⟩
 ·rw[Zuy,h.look,h.look,ZAN,ZDt]
  by_cases e:f s=k
  ·subst e
   have e0:f s∈pre.map f++[s].map f:=by simp
   rw[if_pos rfl,if_pos e0];have e2:[s].filter (λx=>f x==f s)=[s]:=by simp
   rw[e2];split
   ·rfl
   ·rename_i m
    have:pre.filter (λx=>f x==f s)=[]:=by rw[ZE7];intro a ha q;exact m (ZAv.mpr ⟨a,ha,by simpa using q⟩)
    rw[this]; rfl
  ·have e2:[s].filter (λx=>f x==k)=[]:=by simp[e]
   rw[if_neg e,e2,ZBa];have e3:(k∈pre.map f++[s].map f)↔k∈pre.map f:=by
    rw[ZAV]
    constructor
    ·rintro (q | q)
     ·exact q
     ·simp at q; exact absurd q.symm e
    ·exact .inl
   by_cases q:k∈pre.map f
   ·rw[if_pos q,if_pos (e3.mpr q)]
   ·rw[if_neg q,if_neg (λz=>q (e3.mp z))]
theorem ZrM(f:Int->List Int):∀(c pre:List Int) (g:Gs),Grp f pre g->Grp f (pre++c) (c.foldl (λg s=>Zd7 g (f s) s) g)
 | [],pre,g,h=>by rw[ZBa]; exact h
 | s::c,pre,g,h=>by have:=ZrM f c (pre++[s]) _ (h.step s);rw[ZBE]at this;exact this
theorem ZeH(f:Int->List Int)(c:List Int):Grp f c (Zdi f c):=by
 have:=ZrM f c [] [] ⟨ZBU,λk=>by simp[Zfv]⟩
 rwa [ZCB]at this
def ZC(w:Wk)(ls c:List Int):Gs:=(Zem ((Zdi (Zz w ls) c).map (·.1))).map λk=>(k,c.filter λs=>Zz w ls s==k)
def ZK(p:List Int × List Int):D:=.tuple [tupI p.1,tupI p.2]
theorem Zvj(ks:List (List Int)):Zko (ks.map tupI)=Z ks:=by
 induction ks with
 | nil=>rfl
 | cons k ks ih=>show(match Zax (k.map dI)with | some ns=>(Zko (ks.map tupI)).map (ns::·) | none=>Z_)=_;rw[Zby,ih];rfl
theorem Zst(ks:List (List Int))(h:ks.length<64)(hn:ks.length<2\/∀k∈ks,k≠[]):ZfT (ks.map tupI)=Z ((Zem ks).map tupI):=by
 unfold ZfT;rw[if_pos (by rw[ZAl]; exact h)];cases ks with
 | nil=>simp[Zax,sortI,Zem,ofInts]
 | cons k ks =>
  have e:Zax (ZDP tupI (k::ks))=Z_:=rfl;rw[e,Zvj];have e2:(decide ((ZDP tupI (k::ks)).length<2)||(k::ks).all λt=>!t.isEmpty)=ZFt:=by
   rw[ZCY,ZAl];rcases hn with q | q
   ·exact .inl (by simpa using q)
   ·refine .inr (ZAF.mpr λt ht=>?_)
    have:=q t ht;cases t with
    | nil=>exact absurd rfl this
    | cons _ _=>rfl
  dsimp only;rw[if_pos e2];unfold Zf5;simp only[Zgv]
theorem ZbV(ks:List (List Int)):(Zem ks).Perm ks:=ZDi ks _
theorem Zrl(w:Wk)(ls c:List Int)(hc:c.length<60):ZfT ((ZaW (Zdi (Zz w ls) c)).map λp=>ZAU (p.1.map ZaV))=Z ((Zem ((Zdi (Zz w ls) c).map (·.1))).map tupI):=by
 have hg:=ZeH (Zz w ls) c;have e:((ZaW (Zdi (Zz w ls) c)).map λp=>ZAU (p.1.map ZaV))=((Zdi (Zz w ls) c).map (·.1)).map tupI:=by unfold ZaW;rw[ZAI,ZAI];refine ZBL λp _=>?_;simp only[ZDO];unfold Z3 tupI;rw[ZAI];rfl
 rw[e];have hsub:∀k∈(Zdi (Zz w ls) c).map (·.1),k∈c.map (Zz w ls):=λk hk=>(hg.mem k).mp hk;refine Zst _ ?_ ?_
 ·have:(Zdi (Zz w ls) c).map (·.1) ⊆ c.map (Zz w ls):=hsub
  have:=(ZBZ hg.nd this);rw[ZAl,ZAl]at this;rw[ZAl];omega
 ·cases ls with
  | nil =>
   left
   have:(Zdi (Zz w []) c).map (·.1) ⊆ [[]]:=λk hk=>by obtain⟨s,_,e⟩:=ZAv.mp (hsub k hk);rw[<-e];simp[Zz]
   have:=(ZBZ hg.nd this);simp at this ⊢;omega
  | cons l ls =>
   right
   intro k hk e;obtain⟨s,_,e'⟩:=ZAv.mp (hsub k hk);rw[e]at e';simp[Zz]at e'
theorem Zl8(w:Wk)(ls c:List Int)(e:EF)(r:HM.Env)(h:∀k∈(Zdi (Zz w ls) c).map (·.1),e (Z (.pl (tupI k))::r)=Z (.tuple [tupI k,.tuple ((c.filter λs=>Zz w ls s==k).map dI)])) :
  Zak ZE e r ((Zem ((Zdi (Zz w ls) c).map (·.1))).map tupI)=Z ((ZC w ls c).map ZK):=by
 rw[ZaF tupI (λk=>.tuple [tupI k,.tuple ((c.filter λs=>Zz w ls s==k).map dI)])]
 ·unfold ZC
  rw[ZAI];rfl
 ·intro k hk
  exact h k ((ZbV _).mem_iff.mp hk)
theorem Zpx(w:Wk)(ls c:List Int)(k:List Int)(hk:k∈(Zdi (Zz w ls) c).map (·.1)):Zi (ZaW (Zdi (Zz w ls) c)) (Z3 k)=Z ((c.filter λs=>Zz w ls s==k).map dI):=by have hg:=ZeH (Zz w ls) c;rw[Zg4,hg.look,if_pos ((hg.mem k).mp hk)];rfl
theorem ZrE(f:Int->List Int)(pre:List Int)(g:Gs)(h:Grp f pre g)(k:List Int)(p:List Int)(e:Zi g k=Z p):p.length<=pre.length:=by
 rw[h.look]at e;split at e
 ·cases e; exact ZA1 _ _
 ·cases e
theorem Zl0(f:Int->List Int)(pre:List Int)(g:Gs)(h:Grp f pre g):g.length<=pre.length:=by have h2:g.map (·.1) ⊆ pre.map f:=λk hk=>(h.mem k).mp hk;have:=ZBZ h.nd h2;simpa using this
theorem Znh{w:Wk}(hv:Wk.V w){ls:List Int}(hl:Cr w.looks.length ls)(e2:Option B):∀(c pre:List Int) (g:Gs) (o:Option B),Grp (Zz w ls) pre g->(∀s∈c,0<=s/\s<(w.many:Int))->pre.length+c.length<1000 ->
  ∃o',ZaO 4 ZeS (c.map dI) [Z (.pl w.d),Z (.pl (tupI ls)),e2,Z (.otl (ZaW g)),o]=Z (.nx [Z (.pl w.d),Z (.pl (tupI ls)),e2,Z (.otl (ZaW (c.foldl (λg s=>Zd7 g (Zz w ls s) s) g))),o'])
 | [],pre,g,o,_,_,_=>⟨o,rfl⟩
 | s::c,pre,g,o,hg,hb,hn=>by
  rw[ZAB]at hn;have hs:=hb s (ZAp ..);have hlen:(ZaW g).length<1000000:=by have:=Zl0 _ _ _ hg;unfold ZaW;rw[ZAl]; omega
  have h1:Zi (ZbN (ZaW g) (Z3 (Zz w ls s))) (Z3 (Zz w ls s))=Z (((Zi g (Zz w ls s)).getD []).map dI):=by rw[ZrB,Zg4,ZiV,if_pos rfl]; rfl
  have h2:(((Zi g (Zz w ls s)).getD []).map dI).length<1000000:=by
   rw[ZAl];cases e:Zi g (Zz w ls s)with
   | none=>simp
   | some p=>have:=ZrE _ _ _ hg _ _ e;simp; omega
  have h2':((Zi g (Zz w ls s)).getD []).length<1000000:=by rwa [ZAl]at h2
  have e:ZeS [Z (.pl w.d),Z (.pl (tupI ls)),e2,Z (.otl (ZaW g)),Z (.pl (dI s))]=Z (.nx [Z (.pl w.d),Z (.pl (tupI ls)),e2,Z (.otl (ZaW (Zd7 g (Zz w ls s) s))),Z (.pl (dI s))]):=by have ek:=Zsi hv hl hs.1 hs.2;simp[ZeS,ek,Zar,hlen,h1,h2'];rw[ZrB,Zkn];rfl
  obtain⟨o',ih⟩:=Znh hv hl e2 c (pre++[s]) (Zd7 g (Zz w ls s) s) (Z (.pl (dI s))) (hg.step s) (λx hx=>hb x (ZAq _ hx)) (by simp; omega);refine⟨o',?_⟩;rw[ZAt,ZBu,<-ih];show(match ZeS [Z (.pl w.d),Z (.pl (tupI ls)),e2,Z (.otl (ZaW g)),Z (.pl (dI s))]with | some (.nx r')=>_ | some (.ct r')=>_ | some (.bk r')=>_ | some (.rt d)=>_ | none=>_)=_;rw[e]
theorem Znn{w:Wk}(hv:Wk.V w){ls:List Int}(hl:Cr w.looks.length ls){c:List Int}(hc:Cr w.many c):ZbE [w.d,tupI ls,tupI c]=Z (.list ((ZC w ls c).map ZK)):=by
 have m2:=hv.m2;have hlen:=hc.len;have hb:c.length<1000000:=by omega
 obtain⟨o',e⟩:=Znh hv hl (Z (.pl (tupI c))) c [] [] Z_ ⟨ZBU,λk=>by simp[Zfv]⟩ hc.2 (by simp; omega);have hk:=Zrl w ls c (by omega);have hg:c.foldl (λg s=>Zd7 g (Zz w ls s) s) []=Zdi (Zz w ls) c:=rfl;rw[hg]at e;have hn:(Zem ((Zdi (Zz w ls) c).map (·.1))).length<1000000:=by rw[(ZbV _).length_eq,ZAl];have:=Zl0 _ _ _ (ZeH (Zz w ls) c);omega
 simp[ZbE,Zm3,hb];rw[show Z (B.otl [])=Z (B.otl (ZaW [])) from rfl,e];simp[hk,hn];rw[Zl8]
 ·simp
 ·intro k hk'
  simp[Zar,Zpx w ls c k hk']
end HG
namespace HG
open PySem HM
variable{ds:List D}{m n:Nat}
def nbD:Nat->D->Bool
 | _,.none=>ZFt
 | _,.int _=>ZFt
 | _,.str x=>PyData.canLay0 (.str x)
 | 0,_=>ZFu
 | n+1,.list ds=>ds.all (nbD n)
 | n+1,.tuple ds=>ds.all (nbD n)
 | _,_=>ZFu
theorem ZcL(h:∀d∈ds,d.canLay0=ZFt):ZC1 ds=ZFt:=by
 induction ds with
 | nil=>rfl
 | cons d ds ih=>show(d.canLay0&&ZC1 ds)=ZFt;rw[h d (ZAp ..),ih λx hx=>h x (ZAq _ hx)];rfl
theorem ZkR(h:∀d∈ds,d.depth<=n):ZD4 ds<=n:=by
 induction ds with
 | nil=>exact ZCa _
 | cons d ds ih=>show max d.depth (ZD4 ds)<=n;have h1:=h d (ZAp ..);have h2:=ih λx hx=>h x (ZAq _ hx);omega
theorem Zkh:∀(n:Nat) (d:D),nbD n d=ZFt->d.canLay0=ZFt/\d.depth<=n
 | n,.none,_=>⟨rfl,by show 0<=n; omega⟩
 | n,.int _,_=>⟨rfl,by show 0<=n; omega⟩
 | n,.str x,h=>by refine⟨?_,by show 0<=n; omega⟩;cases n<;>exact h
 | 0,.bool _,h=>by cases h
 | 0,.list _,h=>by cases h
 | 0,.tuple _,h=>by cases h
 | 0,.dict _,h=>by cases h
 | n+1,.bool _,h=>by cases h
 | n+1,.dict _,h=>by cases h
 | n+1,.list ds,h=>by have h':ds.all (nbD n)=ZFt:=h;have hh:=ZAF.mp h';refine⟨ZcL λd hd=>(Zkh n d (hh d hd)).1,?_⟩;show ZD4 ds+1<=n+1;have:=ZkR λd hd=>(Zkh n d (hh d hd)).2;omega
 | n+1,.tuple ds,h=>by have h':ds.all (nbD n)=ZFt:=h;have hh:=ZAF.mp h';refine⟨ZcL λd hd=>(Zkh n d (hh d hd)).1,?_⟩;show ZD4 ds+1<=n+1;have:=ZkR λd hd=>(Zkh n d (hh d hd)).2;omega
theorem Zg0{d:D}(h:nbD n d=ZFt)(hn:n<=60):Z2 d=ZFt:=by obtain⟨h1,h2⟩:=Zkh n d h;unfold Z2;rw[h1,decide_eq_true (show d.depth<=60 by omega)];rfl
theorem ZlQ(ih:∀d∈ds,∀e,(∃m,nbD m e=ZFt)->(ZA6 d e=ZFt↔d=e)):∀(es:List D),(∀e∈es,∃m,nbD m e=ZFt)->(ZEm ds es=ZFt↔ds=es):=by
 induction ds with
 | nil =>
  intro es _;cases es with
  | nil=>exact⟨λ_=>rfl,λ_=>rfl⟩
  | cons e es=>exact⟨(λh=>by cases h),(λh=>by cases h)⟩
 | cons d ds ihl =>
  intro es he;cases es with
  | nil=>exact⟨(λh=>by cases h),(λh=>by cases h)⟩
  | cons e es=>show((ZA6 d e&&ZEm ds es)=ZFt)↔_;rw[ZAW,ih d (ZAp ..) e (he e (ZAp ..)),ihl (λx hx=>ih x (ZAq _ hx)) es (λx hx=>he x (ZAq _ hx)),List.cons.injEq]
theorem ZwB(h:nbD m (.list ds)=ZFt):∀d∈ds,∃m,nbD m d=ZFt:=by
 cases m with
 | zero=>cases h
 | succ m=>have h':ds.all (nbD m)=ZFt:=h;exact λd hd=>⟨m,ZAF.mp h' d hd⟩
theorem Zvu(h:nbD m (.tuple ds)=ZFt):∀d∈ds,∃m,nbD m d=ZFt:=by
 cases m with
 | zero=>cases h
 | succ m=>have h':ds.all (nbD m)=ZFt:=h;exact λd hd=>⟨m,ZAF.mp h' d hd⟩
theorem Zfr{b:Bool}(h:nbD m (.bool b)=ZFt):False:=by cases m<;>cases h
theorem ZfA{b:List (D × D)}(h:nbD m (.dict b)=ZFt):False:=by cases m<;>cases h
theorem Zkm:∀(n:Nat) (d e:D),nbD n d=ZFt->(∃m,nbD m e=ZFt)->(ZA6 d e=ZFt↔d=e):=by
 intro n
 induction n with
 | zero =>
  intro d e hd ⟨m,he⟩;cases d<;>first | cases hd | skip
  all_goals cases e<;>first
   | exact(Zfr he).elim
   | exact(ZfA he).elim
   | exact⟨λ_=>rfl,λ_=>rfl⟩
   | exact⟨(λh=>by cases h),(λh=>by cases h)⟩
   | (rename_i a b; show((a==b)=ZFt)↔_; simp)
 | succ n ih =>
  intro d e hd ⟨m,he⟩;cases d with
  | bool _=>exact(Zfr hd).elim
  | dict _=>exact(ZfA hd).elim
  | list ds =>
   cases e with
   | list es=>show(ZEm ds es=ZFt)↔_;rw[ZlQ (λd h e he=>ih d e (ZAF.mp (show ds.all (nbD n)=ZFt from hd) d h) he) es (ZwB he)];simp
   | bool _=>exact(Zfr he).elim
   | dict _=>exact(ZfA he).elim
   | _=>exact⟨(λh=>by cases h),(λh=>by cases h)⟩
  | tuple ds =>
   cases e with
   | tuple es=>show(ZEm ds es=ZFt)↔_;rw[ZlQ (λd h e he=>ih d e (ZAF.mp (show ds.all (nbD n)=ZFt from hd) d h) he) es (Zvu he)];simp
   | bool _=>exact(Zfr he).elim
   | dict _=>exact(ZfA he).elim
   | _=>exact⟨(λh=>by cases h),(λh=>by cases h)⟩
  | none=>cases e<;>first
   | exact(Zfr he).elim
   | exact(ZfA he).elim
   | exact⟨λ_=>rfl,λ_=>rfl⟩
   | exact⟨(λh=>by cases h),(λh=>by cases h)⟩
  | int i=>cases e<;>first
   | exact(Zfr he).elim
   | exact(ZfA he).elim
   | exact⟨(λh=>by cases h),(λh=>by cases h)⟩
   | (rename_i b; show((i==b)=ZFt)↔_; simp)
  | str i=>cases e<;>first
   | exact(Zfr he).elim
   | exact(ZfA he).elim
   | exact⟨(λh=>by cases h),(λh=>by cases h)⟩
   | (rename_i b; show((i==b)=ZFt)↔_; simp)
theorem ZwC{d e:D}(hd:nbD n d=ZFt)(he:nbD m e=ZFt)(hn:n<=60)(hm:m<=60)[Decidable (d=e)]:gEq d e=Z (.bool (decide (d=e))):=by
 unfold gEq;rw[Zg0 hd hn,Zg0 he hm,if_pos (by rfl)];congr 2;have h:=Zkm n d e hd ⟨m,he⟩;cases q:ZA6 d e with
 | true=>exact(decide_eq_true (h.mp q)).symm
 | false=>exact(decide_eq_false λz=>by rw[h.mpr z]at q; cases q).symm
theorem Zez{d:D}(hd:nbD n d=ZFt)(hn:n<=60):gEq d d=Z (.bool ZFt):=by unfold gEq;rw[Zg0 hd hn,(Zkm n d d hd ⟨n,hd⟩).mpr rfl];rfl
theorem Zf1{d e:D}(hd:nbD n d=ZFt)(he:nbD m e=ZFt)(hn:n<=60)(hm:m<=60)(h:d≠e):gEq d e=Z (.bool ZFu):=by have:Decidable (d=e):=isFalse h;rw[ZwC hd he hn hm,decide_eq_false h]
theorem ZuW{d:D}(hd:nbD n d=ZFt)(hn:n<=60):gNe d d=Z (.bool ZFu):=by unfold gNe;rw[Zg0 hd hn,(Zkm n d d hd ⟨n,hd⟩).mpr rfl];rfl
theorem ZeJ(n:Nat)(ns:List Int):nbD (n+1) (tupI ns)=ZFt:=by show(ns.map dI).all (nbD n)=ZFt;rw[ZAF];intro d hd;obtain⟨i,_,rfl⟩:=ZAv.mp hd;cases n<;>rfl
theorem Zls(n:Nat)(ns:List Int):nbD (n+1) (.list (ns.map dI))=ZFt:=ZeJ n ns
theorem ZAa(h:∀d∈ds,nbD n d=ZFt):nbD (n+1) (.tuple ds)=ZFt:=ZAF.mpr h
theorem ZtU(h:∀d∈ds,nbD n d=ZFt):nbD (n+1) (.list ds)=ZFt:=ZAF.mpr h
theorem Zcn(n:Nat)(i:Int):nbD n (.int i)=ZFt:=by cases n<;>rfl
theorem ZwU(n:Nat):nbD n .none=ZFt:=by cases n<;>rfl
end HG
namespace HG
open PySem HM
variable{c:List Int}{w:Wk}
def lkV(n:Nat)(c:Int):List Int:=((ZAw n).filter λ(k:Nat)=>decide (0<ZY (c+19*(k:Int)) 9857 4)).map λ(k:Nat)=>(k:Int)
theorem Zz9(n:Nat)(c:Int):Cr n (lkV n c):=Zi9 n _
def ZsG(w:Wk)(c:List Int)(d:Int):D:=if Za6 w c d then tupI (Zat w c d)else .none
theorem Zmb{w:Wk}(hv:Wk.V w){d:Int}(h0:0<=d)(h1:d<w.deeds.length)(e1:Option B):∀(c acc:List Int) (o:Option B),(∀s∈c,0<=s/\s<(w.many:Int))->acc.length+c.length*10<100000 ->
  (Za6 w c d=ZFt->∃o',ZaO 4 Zba (c.map dI) [Z (.pl w.d),e1,Z (.pl (.int d)),Z (.ol (acc.map dI)),o]=Z (.nx [Z (.pl w.d),e1,Z (.pl (.int d)),Z (.ol ((acc++Zbf w c d).map dI)),o'])) /\
  (Za6 w c d=ZFu->ZaO 4 Zba (c.map dI) [Z (.pl w.d),e1,Z (.pl (.int d)),Z (.ol (acc.map dI)),o]=Z (.rt .none))
 | [],acc,o,_,_=>⟨λ_=>⟨o,by simp[Zbf]; rfl⟩,λh=>by simp[Za6]at h⟩
 | s::c,acc,o,hs,hl=>by
  rw[ZAB]at hl;have hb:=hs s (ZAp ..);have hr:=(ZoR hv h0 h1 hb.1 hb.2).len;have m2:=hv.m2;have hd:=ZmJ h0 h1 (w:=w);have hrow:=Zqk hv h0 h1 hb.1 hb.2;have g1:atD [ZA2 w.many,.tuple (w.deeds.map ZZ),.tuple (w.looks.map tupI),tupI w.beg,tupI w.goal] 1=Z (.tuple (w.deeds.map ZZ)):=by simp
  have ec:Za6 w (s::c) d=(decide (0<(ZbM w d s).length)&&Za6 w c d):=rfl;have ef:Zbf w (s::c) d=ZbM w d s++Zbf w c d:=rfl;cases hz:ZbM w d s with
  | nil =>
   have e:Zba [Z (.pl w.d),e1,Z (.pl (.int d)),Z (.ol (acc.map dI)),Z (.pl (dI s))]=Z (.rt .none):=by rw[hz]at hrow;have e3:gEq (tupI []) (.tuple [])=Z (.bool ZFt):=Zez (ZeJ 0 []) (by decide);unfold Wk.d;simp[Zba,hd,ZZ,hrow,-gEq];rw[e3]
   have ec':Za6 w (s::c) d=ZFu:=by rw[ec,hz]; rfl
   refine⟨λh=>(by rw[ec']at h; cases h),λ_=>?_⟩;rw[ZAt];show(match Zba [Z (.pl w.d),e1,Z (.pl (.int d)),Z (.ol (acc.map dI)),Z (.pl (dI s))]with | some (.nx r')=>_ | some (.ct r')=>_ | some (.bk r')=>_ | some (.rt d)=>_ | none=>_)=_;rw[e]
  | cons x xs =>
   have hlen:acc.length+(ZbM w d s).length<1000000:=by omega
   have e:Zba [Z (.pl w.d),e1,Z (.pl (.int d)),Z (.ol (acc.map dI)),Z (.pl (dI s))]=Z (.nx [Z (.pl w.d),e1,Z (.pl (.int d)),Z (.ol ((acc++ZbM w d s).map dI)),Z (.pl (dI s))]):=by rw[hz]at hrow hlen;rw[ZAB]at hlen;have e3:gEq (tupI (x::xs)) (.tuple [])=Z (.bool ZFu):=Zf1 (ZeJ 0 (x::xs)) (ZeJ 0 []) (by decide) (by decide) (by simp);unfold Wk.d;simp[Zba,hd,ZZ,hrow,hz,-gEq];rw[e3];simp[hd,ZZ,hrow,hlen]
   have ec':Za6 w (s::c) d=Za6 w c d:=by rw[ec,hz]; rfl
   obtain⟨i1,i2⟩:=Zmb hv h0 h1 e1 c (acc++ZbM w d s) (Z (.pl (dI s))) (λx hx=>hs x (ZAq _ hx)) (by rw[ZAE]; omega);have e5:ZaO 4 Zba ((s::c).map dI) [Z (.pl w.d),e1,Z (.pl (.int d)),Z (.ol (acc.map dI)),o]=ZaO 4 Zba (c.map dI) [Z (.pl w.d),e1,Z (.pl (.int d)),Z (.ol ((acc++ZbM w d s).map dI)),Z (.pl (dI s))]:=by rw[ZAt];show(match Zba [Z (.pl w.d),e1,Z (.pl (.int d)),Z (.ol (acc.map dI)),Z (.pl (dI s))]with | some (.nx r')=>_ | some (.ct r')=>_ | some (.bk r')=>_ | some (.rt d)=>_ | none=>_)=_;rw[e]
   rw[e5,ec',ef,<-ZBE];exact⟨i1,i2⟩
theorem Zmg(hv:Wk.V w)(h7:w.many<=7)(hc:Cr w.many c){d:Int}(h0:0<=d)(h1:d<w.deeds.length):Zbm [w.d,tupI c,.int d]=Z (ZsG w c d):=by
 have m2:=hv.m2;have hlen:=hc.len;have hb:c.length<1000000:=by omega
 obtain⟨i1,i2⟩:=Zmb hv h0 h1 (Z (.pl (tupI c))) c [] Z_ hc.2 (by simp; omega);unfold ZsG;cases h:Za6 w c d with
 | false=>have e:=i2 h;rw[ZCl]at e;simp[Zbm,Zis,hb,e]
 | true =>
  obtain⟨o',e⟩:=i1 h;rw[ZCl,ZCB]at e;have hf:ZsE (Zbf w c d)=ZFt:=ZAF.mpr λx hx=>by have:=Ztq hv hc h0 h1 x hx;rw[ZAW,decide_eq_true_eq,decide_eq_true_eq];omega
  simp[Zbm,Zis,hb,e,Zby,hf,Zat,Zgv]
theorem Zj3{w:Wk}(hv:Wk.V w){ls:List Int}(hl:Cr w.looks.length ls)(e2:Option B):∀(c pre:List Int) (g:Gs) (o o':Option B),Grp (Zz w ls) pre g->(∀s∈c,0<=s/\s<(w.many:Int))->pre.length+c.length<1000 ->
  ∃p p',ZaO 4 Zcd (c.map dI) [Z (.pl w.d),Z (.pl (tupI ls)),e2,Z (.otl (ZaW g)),o,o']=Z (.nx [Z (.pl w.d),Z (.pl (tupI ls)),e2,Z (.otl (ZaW (c.foldl (λg s=>Zd7 g (Zz w ls s) s) g))),p,p'])
 | [],pre,g,o,o',_,_,_=>⟨o,o',rfl⟩
 | s::c,pre,g,o,o',hg,hb,hn=>by
  rw[ZAB]at hn;have hs:=hb s (ZAp ..);have hlen:(ZaW g).length<1000000:=by have:=Zl0 _ _ _ hg;unfold ZaW;rw[ZAl]; omega
  have l2:=hv.l2;have hll:=hl.len;have hlb:ls.length<1000000:=by omega
  have ec:Zak ZE (eIx (bOf (eIx (bOf (eIx (Ze 1) (eC (.int 2)))) (Zb 0))) (Zb 5)) [Z (.pl w.d),Z (.pl (tupI ls)),e2,Z (.otl (ZaW g)),Z (.pl (dI s)),o'] (ls.map dI)=Z ((Zz w ls s).map dI):=by
   rw[ZaF dI (λl=>dI (Zkp w l s))]
   ·simp[Zz]
   ·intro l hl'
    have hb:=hl.2 l hl';unfold Wk.d;simp[Zrs hb.1 hb.2,ZrN hv hb.1 hb.2 hs.1 hs.2]
  have e:Zcd [Z (.pl w.d),Z (.pl (tupI ls)),e2,Z (.otl (ZaW g)),Z (.pl (dI s)),o']=Z (.nx [Z (.pl w.d),Z (.pl (tupI ls)),e2,Z (.otl (ZaW (Zd7 g (Zz w ls s) s))),Z (.pl (dI s)),Z (.pl (tupI (Zz w ls s)))]):=by
   have ek:=Zg4 g (Zz w ls s);have et:=Zar (Zz w ls s);cases h:Zi g (Zz w ls s)with
   | none =>
    rw[h]at ek;have ea:ZbN g (Zz w ls s)=g++[(Zz w ls s,[])]:=by unfold ZbN; rw[h]
    have eb:ZaW g++[(Z3 (Zz w ls s),[])]=ZaW (ZbN g (Zz w ls s)):=by rw[ea]; simp[ZaW]
    have h1:Zi (ZaW (ZbN g (Zz w ls s))) (Z3 (Zz w ls s))=Z []:=by rw[Zg4,ZiV,if_pos rfl,h]; rfl
    simp[Zcd,hlb,ec,et,ek,hlen];rw[eb,h1];simp[Zkn];rfl
   | some p =>
    rw[h]at ek;have ea:ZbN g (Zz w ls s)=g:=by unfold ZbN; rw[h]
    have hp:p.length<1000000:=by have:=ZrE _ _ _ hg _ _ h; omega
    simp[Zcd,hlb,ec,et,ek,hlen,hp,Zkn];unfold Zd7;rw[ea]
  obtain⟨p,p',ih⟩:=Zj3 hv hl e2 c (pre++[s]) (Zd7 g (Zz w ls s) s) (Z (.pl (dI s))) (Z (.pl (tupI (Zz w ls s)))) (hg.step s) (λx hx=>hb x (ZAq _ hx)) (by simp; omega);refine⟨p,p',?_⟩;rw[ZAt,ZBu,<-ih];show(match Zcd [Z (.pl w.d),Z (.pl (tupI ls)),e2,Z (.otl (ZaW g)),Z (.pl (dI s)),o']with | some (.nx r')=>_ | some (.ct r')=>_ | some (.bk r')=>_ | some (.rt d)=>_ | none=>_)=_;rw[e]
theorem ZjM(hv:Wk.V w){ls:List Int}(hl:Cr w.looks.length ls)(hc:Cr w.many c):ZaM [w.d,tupI ls,tupI c]=Z (.list ((ZC w ls c).map ZK)):=by
 have m2:=hv.m2;have hlen:=hc.len;have hb:c.length<1000000:=by omega
 obtain⟨p,p',e⟩:=Zj3 hv hl (Z (.pl (tupI c))) c [] [] Z_ Z_ ⟨ZBU,λk=>by simp[Zfv]⟩ hc.2 (by simp; omega);have hk:=Zrl w ls c (by omega);have hg:c.foldl (λg s=>Zd7 g (Zz w ls s) s) []=Zdi (Zz w ls) c:=rfl;rw[hg]at e;have hn:(Zem ((Zdi (Zz w ls) c).map (·.1))).length<1000000:=by rw[(ZbV _).length_eq,ZAl];have:=Zl0 _ _ _ (ZeH (Zz w ls) c);omega
 simp[ZaM,Zjt,hb];rw[show Z (B.otl [])=Z (B.otl (ZaW [])) from rfl,e];simp[hk,hn];rw[Zl8]
 ·simp
 ·intro k hk'
  simp[Zar,Zpx w ls c k hk']
theorem Zcw{d:Int}(h:d∈doV w c):0<=d/\d<w.deeds.length/\Za6 w c d=ZFt:=by unfold doV at h;obtain⟨k,hk,rfl⟩:=ZAv.mp h;obtain⟨h1,h2⟩:=ZAY.mp hk;have:=ZA5.mp h1;exact⟨by omega,by omega,h2⟩
end HG
namespace HG4
open PySem HM HG
end HG4
namespace HM
open PySem
theorem ZdQ{α:Type}{c:TF}{e:EF}{r:Env}(a b:α->D)(p:α->Bool)(f:α->D):∀(xs:List α),(∀x∈xs,c (Z (.pl (a x))::Z (.pl (b x))::r)=Z (p x))->(∀x∈xs,p x=ZFt->e (Z (.pl (a x))::Z (.pl (b x))::r)=Z (f x)) ->
  Zdh c e r (xs.map λx=>.tuple [a x,b x])=Z ((xs.filter p).map f)
 | [],_,_=>rfl
 | x::xs,h1,h2=>by
  have ih:=ZdQ a b p f xs (λy hy=>h1 y (ZAq _ hy)) (λy hy=>h2 y (ZAq _ hy));have hc:=h1 x (ZAp ..);rw[ZAt];unfold Zdh;rw[hc];cases hp:p x with
  | true=>have he:=h2 x (ZAp ..) hp;dsimp only;rw[he];dsimp only;rw[ih,ZEN hp];rfl
  | false=>dsimp only;rw[ih,ZEO (by simp[hp])]
theorem ZH{P:Option Out->Prop}{a b:SF}{r r':Env}(h:a r=Z (.nx r'))(k:P (b r')):P (Zr a b r):=by show P (match a r with | some (.nx r')=>b r' | some (.rt d)=>Z (.rt d) | some (.bk r')=>Z (.bk r') | some (.ct r')=>Z (.ct r') | none=>Z_);rw[h];exact k
end HM
namespace HG4
open PySem HM HG
variable{x:Int}{c:List Int}{w:Wk}
def Zsx(w:Wk)(ls c:List Int)(s:Int):List Int:=c.filter λx=>Zz w ls x==Zz w ls s
theorem Zyy{n:Nat}(p:Int->Bool)(h:Cr n c):Cr n (c.filter p):=⟨h.1.filter p,λx hx=>h.2 x (ZAY.mp hx).1⟩
def alV(w:Wk):List Int:=(ZAw w.looks.length).map λ(k:Nat)=>(k:Int)
theorem ZjQ(w:Wk):Cr w.looks.length (alV w):=by
 have:=Zi9 w.looks.length λ_=>ZFt
 rwa [ZBD.mpr λ_ _=>rfl]at this
theorem Zpf{ls:List Int}{s:Int}:x∈Zsx w ls c s↔x∈c/\Zz w ls x=Zz w ls s:=by unfold Zsx;rw[ZAY,beq_iff_eq]
theorem Zwg{d:Int}:x∈Zat w c d↔∃s∈c,x∈ZbM w d s:=by
 unfold Zat;rw[(sortI_perm _).mem_iff,ZfZ];unfold Zbf;rw[ZCQ]
 constructor
 ·rintro (h | h)
  ·cases h
  ·exact h
 ·exact .inr
end HG4
namespace HM
open PySem
def ZM:Option Out->Option D
 | some (.nx _)=>Z .none
 | some (.rt d)=>Z d
 | _=>Z_
end HM
namespace HG4
open PySem HM HG
end HG4
namespace HG5
open PySem HM HG HG4
variable{c ls p:List Int}{w:Wk}
def Z4(w:Wk)(ls c:List Int):List (List Int):=(ZC w ls c).map (·.2)
theorem ZjL:p∈Z4 w ls c↔∃s∈c,p=Zsx w ls c s:=by
 unfold Z4 ZC;rw[ZAI,ZAv];have hg:=ZeH (Zz w ls) c
 constructor
 ·rintro ⟨k,hk,rfl⟩
  obtain⟨s,hs,e⟩:=ZAv.mp ((hg.mem k).mp ((ZbV _).mem_iff.mp hk));refine⟨s,hs,?_⟩;subst e;rfl
 ·rintro ⟨s,hs,rfl⟩
  exact⟨Zz w ls s,(ZbV _).mem_iff.mpr ((hg.mem _).mpr (ZAv.mpr ⟨s,hs,rfl⟩)),rfl⟩
theorem Zky(hc:Cr w.many c)(h:p∈Z4 w ls c):Cr w.many p/\p≠[]/\∀x∈p,x∈c:=by obtain⟨s,hs,rfl⟩:=ZjL.mp h;exact⟨Zyy _ hc,ZEi (Zpf.mpr ⟨hs,rfl⟩),λx hx=>(Zpf.mp hx).1⟩
theorem ZhV(w:Wk)(ls c:List Int):(Z4 w ls c).Nodup:=by unfold Z4 ZC;rw[ZAI];have hg:=ZeH (Zz w ls) c;have hn:(Zem ((Zdi (Zz w ls) c).map (·.1))).Nodup:=(ZbV _).nodup_iff.mpr hg.nd;rw[ZEn,ZDI];refine List.Pairwise.imp_of_mem (λ{a b} ha hb hne e=>?_) (ZEn.mp hn);obtain⟨s,hs,es⟩:=ZAv.mp ((hg.mem a).mp ((ZbV _).mem_iff.mp ha));have h1:s∈c.filter λs=>Zz w ls s==a:=ZAY.mpr ⟨hs,beq_iff_eq.mpr es⟩;have e':(c.filter λs=>Zz w ls s==a)=c.filter λs=>Zz w ls s==b:=e;rw[e']at h1;have:=beq_iff_eq.mp (ZAY.mp h1).2;exact hne (es.symm.trans this)
theorem Zlo(h:c≠[]):Z4 w ls c≠[]:=by
 cases c with
 | nil=>exact absurd rfl h
 | cons s c=>exact ZEi (ZjL.mpr ⟨s,ZAp ..,rfl⟩)
def ZjU:Nat->List (List Int)
 | 0=>[[]]
 | n+1=>ZjU n++(ZjU n).map (·++[(n:Int)])
theorem Zp1:∀n,(ZjU n).length=2 ^ n
 | 0=>rfl
 | n+1=>by show(ZjU n++(ZjU n).map (·++[(n:Int)])).length=_;rw[ZAE,ZAl,Zp1 n,Nat.pow_succ];omega
theorem Zlw:∀(n:Nat) (c:List Int),Cr n c->c∈ZjU n
 | 0,c,h=>by
  cases c with
  | nil=>exact ZAu.mpr rfl
  | cons x c=>have:=h.2 x (ZAp ..); omega
 | n+1,c,h=>by
  show c∈ZjU n++(ZjU n).map (·++[(n:Int)])
  by_cases hm:(n:Int)∈c
  ·-- the last is n
   have key:∀(c:List Int),c.Pairwise (· < ·)->(∀x∈c,0<=x/\x<((n+1:Nat):Int))->(n:Int)∈c->∃c',c=c'++[(n:Int)]/\c'.Pairwise (· < ·)/\∀x∈c',0<=x/\x<(n:Int):=by
    intro c
    induction c with
    | nil=>intro _ _ h; simp at h
    | cons x c ih =>
     intro hp hb hm;obtain⟨p1,p2⟩:=ZBj.mp hp
     by_cases hx:x=(n:Int)
     ·cases c with
      | nil=>exact⟨[],by rw[hx]; rfl,.nil,λy hy=>by simp at hy⟩
      | cons y c=>have h1:=p1 y (ZAp ..);have h2:=hb y (ZAq _ (ZAp ..));omega
     ·have hm':(n:Int)∈c:=by
       rcases ZAy.mp hm with e | e
       ·exact absurd e.symm hx
       ·exact e
      obtain⟨c',e,q1,q2⟩:=ih p2 (λy hy=>hb y (ZAq _ hy)) hm';refine⟨x::c',by rw[e]; rfl,ZBj.mpr ⟨λy hy=>p1 y (by rw[e]; exact ZA3 _ hy),q1⟩,λy hy=>?_⟩;rcases ZAy.mp hy with e' | hy
      ·have h1:=p1 (n:Int) hm'
       have h2:=hb x (ZAp ..);rw[e'];omega
      ·exact q2 y hy
   obtain⟨c',e,q1,q2⟩:=key c h.1 h.2 hm;exact ZAL _ (ZAv.mpr ⟨c',Zlw n c' ⟨q1,q2⟩,e.symm⟩)
  ·refine ZA3 _ (Zlw n c ⟨h.1,λx hx=>?_⟩)
   have h1:=h.2 x hx;have:x≠(n:Int):=λe=>hm (e▸hx);omega
theorem Zjd{n:Nat}{L:List (List Int)}(hn:L.Nodup)(h:∀c∈L,Cr n c):L.length<=2 ^ n:=by rw[<-Zp1 n];exact ZBZ hn λc hc=>Zlw n c (h c hc)
def Zaq(w:Wk)(c:List Int):Bool:=c.all λs=>w.goal.contains s
def Win(w:Wk)(ls:List Int):Nat->List Int->Bool
 | 0,c=>Zaq w c
 | n+1,c=>Zaq w c||(ZAw w.deeds.length).any λd=>Za6 w c d&&(Z4 w ls (Zat w c d)).all λp=>Win w ls n p
def ZAb(w:Wk)(ls:List Int)(L:List (List Int)):Prop:=∀c∈L,∀d:Nat,d<w.deeds.length->Za6 w c d=ZFt->∀p∈Z4 w ls (Zat w c d),p∈L
theorem Zgl{α:Type}{p q:α->Bool}:∀{L:List α},(∀x∈L,p x=ZFt->q x=ZFt)->(∃x∈L,q x=ZFt/\p x=ZFu)->(L.filter p).length<(L.filter q).length
 | [],_,⟨x,hx,_⟩=>by simp at hx
 | y::L,h,⟨x,hx,h1,h2⟩=>by
  have le:∀{L:List α},(∀x∈L,p x=ZFt->q x=ZFt)->(L.filter p).length<=(L.filter q).length:=by
   intro L
   induction L with
   | nil=>intro _; exact ZAz _
   | cons z L ih =>
    intro h;have:=ih λx hx=>h x (ZAq _ hx);have hz:=h z (ZAp ..);rw[ZBC,ZBC];cases hp:p z with
    | true=>rw[hz hp]; simpa using this
    | false =>
     cases q z
     ·simpa using this
     ·simp; omega
  have hL:=λx hx=>h x (ZAq y hx);have hy:=h y (ZAp ..);rw[ZBC,ZBC];rcases ZAy.mp hx with e | hx
  ·subst e
   rw[h2,h1];have:=le hL;simp; omega
  ·have:=Zgl hL ⟨x,hx,h1,h2⟩
   cases hp:p y with
   | true=>rw[hy hp]; simpa using this
   | false =>
    cases q y
    ·simpa using this
    ·simp; omega
end HG5
namespace HG5
open PySem HM HG
def Zoj:SF :=
 (ZD (ZfF (Zey (Zb 0) .int) (Zvm (Zey (Zb 0) .bool))))
def ZdD:List D->Option D:=fnOf 1 1 Zoj
def Zju:SF :=
 (ZD (op2 gEq (eOf (ZF (ZJ (bOf (Zb 1))) (tV (Zic (Zb 0) (bOf (eIx (Ze 1) (eC (.int 4)))))) (Zb 0))) (eOf (Zdl Zk))))
def Za1:List D->Option D:=fnOf 2 2 Zju
end HG5
namespace HG5
open PySem HM HG HG4
theorem Zvd{a b:List Int}(h:tupI a=tupI b):a=b:=by
 injection h with h
 have:=congrArg Zax h;rw[Zby,Zby]at this;exact ZA9 this
theorem Zng(p:List Int):Z2 (tupI p)=ZFt:=Zg0 (ZeJ 0 p) (by decide)
theorem Zwh(a b:List Int):ZA6 (tupI a) (tupI b)=(a==b):=by have h:=Zkm 1 (tupI a) (tupI b) (ZeJ 0 a) ⟨1,ZeJ 0 b⟩;apply ZEV.mpr;rw[h,beq_iff_eq];exact⟨Zvd,λe=>by rw[e]⟩
theorem ZuO(L:List (List Int))(p:List Int):ZoX (L.map tupI) (tupI p)=Z (L.contains p):=by
 unfold ZoX;have h1:(L.map tupI).all Z2=ZFt:=ZAF.mpr λd hd=>by obtain⟨c,_,rfl⟩:=ZAv.mp hd;exact Zng c
 rw[Zng,h1,if_pos (by rfl)];congr 1
 induction L with
 | nil=>rfl
 | cons c L ih=>rw[ZAt,ZCd,Zwh,List.contains_cons,ih (by rw[ZAt,ZBA,ZAW]at h1;exact h1.2)];rw[show(c==p)=(p==c) from ZEV.mpr ⟨λh=>beq_iff_eq.mpr (beq_iff_eq.mp h).symm,λh=>beq_iff_eq.mpr (beq_iff_eq.mp h).symm⟩]
theorem Zl3{w:Wk}{c:List Int}{d:Int}(h0:c≠[])(hc:Za6 w c d=ZFt):Zat w c d≠[]:=by
 cases c with
 | nil=>exact absurd rfl h0
 | cons s c =>
  unfold Za6 at hc;have h1:=ZAF.mp hc s (ZAp ..);have h2:0<(ZbM w d s).length:=by simpa using h1
  cases hr:ZbM w d s with
  | nil=>rw[hr]at h2; simp at h2
  | cons x xs=>exact ZEi (Zwg.mpr ⟨s,ZAp ..,by rw[hr]; exact ZAp ..⟩)
def ZAc(w:Wk)(ls c:List Int)(L:List (List Int))(d:Nat):List (List Int):=if Za6 w c d then L++(Z4 w ls (Zat w c d)).filter (λp=>!L.contains p)else L
end HG5
namespace HG5
open PySem HM HG HG4
theorem ZpL{α:Type}(ns:List Int):gEq (.list (ns.map dI)) (.list [])=Z (.bool ns.isEmpty):=by
 cases ns with
 | nil=>exact Zez (Zls 0 []) (by decide)
 | cons n ns=>exact Zf1 (Zls 0 (n::ns)) (Zls 0 []) (by decide) (by decide) (by simp)
theorem Zvb(L:List (List Int)):gEq (.list (L.map tupI)) (.list [])=Z (.bool L.isEmpty):=by
 have h:∀L:List (List Int),nbD 2 (.list (L.map tupI))=ZFt:=λL=>ZtU λd hd=>by obtain⟨c,_,rfl⟩:=ZAv.mp hd;exact ZeJ 0 c
 cases L with
 | nil=>exact Zez (h []) (by decide)
 | cons c L=>exact Zf1 (h (c::L)) (h []) (by decide) (by decide) (by simp)
theorem filter_empty{α:Type}(p:α->Bool)(L:List α):(L.filter λx=>!p x).isEmpty=L.all p:=by
 induction L with
 | nil=>rfl
 | cons x L ih =>
  rw[ZBC,ZBA];cases p x with
  | true=>simpa using ih
  | false=>rfl
theorem ZjO{w:Wk}(hv:Wk.V w){c:List Int}(hc:c.length<1000):Za1 [w.d,tupI c]=Z (.bool (Zaq w c)):=by
 have hb:c.length<1000000:=by omega
 have i0:ZcM (.pl w.d)=Z [ZA2 w.many,.tuple (w.deeds.map ZZ),.tuple (w.looks.map tupI),tupI w.beg,tupI w.goal]:=rfl;have e:∀r:HM.Env,r[0]?=Z (Z (.pl w.d))->Zak (tV (Zic (Zb 0) (bOf (eIx (Ze 1) (eC (.int 4)))))) (Zb 0) r (c.map dI)=Z ((c.filter λs=>!w.goal.contains s).map dI):=λr r0=>by
  rw[Zbz dI (λs=>!w.goal.contains s) dI]
  ·intro s _
   simp[r0,i0,ZpH,Zby,-ZcM,-ZB4];simp[ZpH,Zby,-ZB4]
  ·intro s _ _
   simp
 have g:=ZpL (α:=Int) (c.filter λs=>!w.goal.contains s);rw[filter_empty (λs=>w.goal.contains s) c]at g;simp[Za1,Zju,hb,e,g,Zaq,-gEq,-ZB4]
abbrev Tb:=List (List Int × Int)
def encM(M:Tb):List (List Ky × D):=M.map λp=>(Z3 p.1,dI p.2)
theorem ZbY(M:Tb)(k:List Int):Zi (encM M) (Z3 k)=(Zi M k).map dI:=by
 unfold Zi encM;rw[List.find?_map];have e:((λp:List Ky × D=>decide (p.1=Z3 k))∘λp:List Int × Int=>(Z3 p.1,dI p.2))=λp=>decide (p.1=k):=by
  funext p
  simp only[ZDO];exact decide_eq_decide.mpr (Zmx p.1 k)
 rw[e];cases M.find? λp=>decide (p.1=k)<;>rfl
theorem Zi7(M:Tb)(k:List Int)(v:Int):putD (encM M) (Z3 k) (dI v)=encM (putD M k v):=by
 unfold putD;have e1:((encM M).any λp=>decide (p.1=Z3 k))=M.any λp=>decide (p.1=k):=by
  unfold encM;rw[List.any_map];congr 1
  funext p
  simp only[ZDO];exact decide_eq_decide.mpr (Zmx p.1 k)
 rw[e1];split
 ·unfold encM
  rw[ZAI,ZAI];refine ZBL λp _=>?_;simp only[ZDO]
  by_cases h:p.1=k
  ·rw[if_pos h,if_pos (by rw[h])]
  ·rw[if_neg h,if_neg (λe=>h (Zex e))]
 ·unfold encM
  rw[ZAN];rfl
theorem Znk(k:List Int):Zi ([]:Tb) k=Z_:=rfl
theorem Zbr(x:List Int)(v:Int)(M:Tb)(k:List Int):Zi ((x,v)::M) k=if x=k then Z v else Zi M k:=by
 unfold Zi;rw[ZBv]
 by_cases h:x=k<;>simp[h]
theorem Zf0(x k:List Int)(v:Int)(M:Tb):Zi (putD M x v) k=if x=k then Z v else Zi M k:=by
 have rep:∀M:Tb,Zi (M.map λp=>if p.1=x then(p.1,v)else p) k=if x=k then(Zi M k).map (λ_=>v)else Zi M k:=by
  intro M
  induction M with
  | nil=>rw[ZCl,Znk]; split<;>rfl
  | cons p M ih =>
   obtain⟨a,b⟩:=p;rw[ZAt]
   by_cases ha:a=x
   ·rw[if_pos (show(a,b).1=x from ha),Zbr,Zbr,ih]
    show(if a=k then Z v else _)=_
    by_cases hk:x=k
    ·rw[if_pos (by rw[ha,hk]),if_pos hk,if_pos (by rw[ha,hk])]; rfl
    ·rw[if_neg (by rw[ha]; exact hk),if_neg hk,if_neg hk,if_neg (by rw[ha]; exact hk)]
   ·rw[if_neg (show ¬(a,b).1=x from ha),Zbr,Zbr,ih]
    by_cases hk:a=k
    ·rw[if_pos hk,if_pos hk]
     have:x≠k:=λe=>ha (hk.trans e.symm);rw[if_neg this]
    ·rw[if_neg hk,if_neg hk]
 have app:∀M:Tb,Zi (M++[(x,v)]) k=match Zi M k with | some u=>Z u | none=>if x=k then Z v else Z_:=by
  intro M
  induction M with
  | nil=>rw[ZCB,Zbr,Znk]
  | cons p M ih =>
   obtain⟨a,b⟩:=p;rw[ZEI,Zbr,Zbr,ih]
   by_cases hk:a=k
   ·rw[if_pos hk,if_pos hk]
   ·rw[if_neg hk,if_neg hk]
 have has:∀M:Tb,(M.any λp=>decide (p.1=x))=(Zi M x).isSome:=by
  intro M
  induction M with
  | nil=>rfl
  | cons p M ih =>
   obtain⟨a,b⟩:=p;rw[ZCd,Zbr,ih]
   by_cases ha:a=x<;>simp[ha]
 unfold putD;split
 ·rename_i h
  rw[rep]
  by_cases hk:x=k
  ·subst hk
   rw[has]at h;rw[if_pos rfl,if_pos rfl];obtain⟨u,hu⟩:=ZAX.mp h;rw[hu]; rfl
  ·rw[if_neg hk,if_neg hk]
 ·rename_i h
  rw[app]
  by_cases hk:x=k
  ·subst hk
   rw[has]at h;rw[if_pos rfl,if_pos rfl];cases hq:Zi M x with
   | none=>rfl
   | some u=>rw[hq]at h; exact absurd rfl h
  ·rw[if_neg hk,if_neg hk]
   cases Zi M k<;>rfl
theorem ZkA(x:List Int)(v:Int)(M:Tb):(putD M x v).length<=M.length+1:=by
 unfold putD;split
 ·rw[ZAl]; omega
 ·rw[ZAE]; exact ZAz _
def Zw(M:Tb)(p:List Int):Bool:=(Zi M p).isSome
def ZzL(w:Wk)(ls c:List Int)(M:Tb):Bool:=(ZAw w.deeds.length).any λd=>Za6 w c d&&(Z4 w ls (Zat w c d)).all λp=>Zw M p
end HG5
namespace HG5
open PySem HM HG HG4
def ZyO(w:Wk)(ls:List Int)(t:Nat)(c:List Int):Option Int:=((ZAw (t+1)).find? λn=>Win w ls n c).map λ(n:Nat)=>(n:Int)
structure ZzE(w:Wk)(ls:List Int)(L:List (List Int))(t:Nat)(M:Tb):Prop where
 look:∀c,Zi M c=if c∈L then ZyO w ls t c else Z_
theorem Zf3(v:Int)(k:List Int):∀(ms:List (List Int)) (M:Tb),Zi (ms.foldl (λM c=>putD M c v) M) k=if k∈ms then Z v else Zi M k
 | [],M=>by simp
 | c::ms,M=>by
  rw[ZBu,Zf3 v k ms,Zf0]
  by_cases h1:k∈ms
  ·rw[if_pos h1,if_pos (ZAq _ h1)]
  ·rw[if_neg h1]
   by_cases h2:c=k
   ·rw[if_pos h2,if_pos (by rw[h2]; exact ZAp ..)]
   ·rw[if_neg h2,if_neg]
    intro h;rcases ZAy.mp h with e | e
    ·exact h2 e.symm
    ·exact h1 e
theorem ZjX(v:Int):∀(ms:List (List Int)) (M:Tb),(ms.foldl (λM c=>putD M c v) M).length<=M.length+ms.length
 | [],M=>ZAz _
 | c::ms,M=>by rw[ZBu,ZAB];have:=ZjX v ms (putD M c v);have:=ZkA c v M;omega
def ZyK(w:Wk)(ls:List Int)(L:List (List Int))(M:Tb):List (List Int):=L.filter λc=>!Zw M c&&ZzL w ls c M
def M0(w:Wk)(L:List (List Int)):Tb:=(L.filter λc=>Zaq w c).foldl (λM c=>putD M c 0) []
end HG5
namespace HG5
open PySem HM HG HG4
def Zuw(w:Wk)(ls:List Int)(n:Nat):Prop:=∀p∈Z4 w ls w.beg,Win w ls n p=ZFt
def Few(w:Wk)(ls:List Int)(d:D):Prop:=(∃n:Nat,d=.int n/\Zuw w ls n/\∀m,m<n->¬Zuw w ls m)\/(d=.none/\∀n,¬Zuw w ls n)
end HG5
namespace HG5
open PySem HM HG
def Zqw:SF :=
 (ZD (eIx (Ze 0) (eC (.int 3))))
def Zcu:List D->Option D:=fnOf 1 1 Zqw
def ZrR:SF :=
 (ZD (eIx (Ze 0) (eC (.int 4))))
def ZeT:List D->Option D:=fnOf 1 1 ZrR
def ZkP:SF :=
 (ZD (ZiX (ZF (ZJ (bOf (Zb 1))) ZE (Zo5 (Zb 0) (bOf (Zn ZeT (Za (Zb 1) Zk)))))))
def ZbX:List D->Option D:=fnOf 2 2 ZkP
def Zjv:SF :=
 (ZD (eOf (ZF (ZJ (bOf (Zb 0))) ZE (eIx (Ze 0) (eC (.int 1))))))
def Zao:List D->Option D:=fnOf 1 1 Zjv
def Zb3(ap:AP):SF :=
 (Zkw 3 (Zj5 Zao (Za (eIx (Ze 5) (eC (.int 1))) Zk)))
def Zbw(ap:AP):SF :=
 (Zr (ZuJ 4 3)
  (sIf (tV (ZbP (Zb 4) (Ze 2))) (Zr (Zgh 2 (Zb 4) (Zc8 ap 1 (Za (Zb 4) Zk)))
  (ZaS 5 (ZJ (bOf (Z5 (Ze 2) (Zb 4)))) (Zb3 ap))) Zab))
def Zdm(ap:AP):SF :=
 (Zr (ZU 2 fDt)
  (Zr (ZU 3 (Zh8 (Ze 0)))
  (Zr (Zh9 100000 (tV (op2 gGt (Z6 (Ze 3)) (eC (.int 0)))) (Zbw ap))
  (Zd5 2 (ZD (Zb 2))))))
def Zck(ap:AP):List D->Option D:=fnOf 2 6 (Zdm ap)
def Zf7(ap:AP):SF :=
 (Zr (ZU 3 (ZF (ZJ (bOf (Zb 0))) ZE (Zc8 ap 3 (Za (Zb 0) (Za (Zb 2) Zk)))))
  (Zd5 3 (ZD (Zgw (ZF (ZJ (bOf (Zb 3))) (tV (op2 Zhp (Zb 0) (eC .none))) (Zb 0))))))
def Zbd(ap:AP):List D->Option D:=fnOf 3 4 (Zf7 ap)
def Zae(ap:AP):SF :=
 (sIf (tV (ZbP (Zb 4) (Ze 1))) (Zr (Z0 5 (Zn (Zbd ap) (Za (Z5 (Ze 0) (Zb 4)) (Za (Zb 1) (Za (Zb 2) Zk)))))
  (sIf (tV (op2 Zhp (Zb 5) (eC .none))) (Zgh 3 (Zb 4) (Zb 5)) Zab)) Zab)
def Zbu(ap:AP):List D->Option (List (List Ky × D)):=newOf 3 6
 (Zlm (ZU 3 fDt)
 (Zlm (Zfj 0 (ZaS 4 (Za0 0) (Zae ap)))
 (Zpw 3)))
def ZdE(ap:AP):SF :=
 (Zgh 3 (Zb 6) (Zb 4))
def ZdF(ap:AP):SF :=
 (Zr (Zd5 5 (ZaS 6 (ZJ (bOf (Zb 5))) (ZdE ap)))
  (Zr (ZU 7 (Zj6 (Zbu ap) (Za (Zb 1) (Za (ZiO (Ze 3)) (Za (Zb 2) Zk)))))
  (Zr (Zd5 7 (Zfj 7 (Z0 4 (Zgw (ZF (Za0 7) ZE (Z5 (Ze 8) (Zb 0)))))))
  (Zd5 7 (Zfj 7 (ZU 5 (ZF (Za0 7) (tV (op2 gEq (Z5 (Ze 8) (Zb 0)) (Zb 5))) (Zb 0))))))))
def ZfG(ap:AP):SF :=
 (Zr (ZU 3 fDt)
  (Zr (Z0 4 (eC (.int 0)))
  (Zr (Zfj 1 (ZU 5 (ZF (Za0 1) (tV (Zn ZbX (Za (Zb 1) (Za (Zb 0) Zk)))) (Zb 0))))
  (Zr (Zh9 100000 (tV (op2 gGt (Z6 (Ze 5)) (eC (.int 0)))) (ZdF ap))
  (Zd5 3 (ZD (Zb 3)))))))
def ZfH(ap:AP):List D->Option D:=fnOf 3 8 (ZfG ap)
def Zeq:SF :=
 (Zr (ZU 2 (ZF (ZJ (bOf (Zn Zao (Za (Zb 0) Zk)))) (tV (Zps (Zb 0) (Ze 2))) (Z5 (Ze 2) (Zb 0))))
  (ZD (eIf (tV (op2 gEq (Z6 (Ze 2)) (Z6 (Ze 0)))) (Zd0 (Ze 2)) (eC .none))))
def Zbx:List D->Option D:=fnOf 2 3 Zeq
def Zjw:SF :=
 (ZD (eOf (ZF (ZJ (bOf (Zn Zc2 (Za (Zb 0) (Za (Zb 2) Zk))))) ZE (Zaf (Za (Zb 0) (Za (Zn ZbE (Za (Zb 1) (Za (Zb 2) (Za (Zn ZeD (Za (Zb 1) (Za (Zb 3) (Za (Zb 0) Zk)))) Zk)))) Zk))))))
def Zb4:List D->Option D:=fnOf 3 3 Zjw
end HG5
namespace HG5
open PySem HM HG HG4
variable{c:List Int}{w:Wk}
theorem ZAj(w:Wk):ZcM (.pl w.d)=Z [ZA2 w.many,.tuple (w.deeds.map ZZ),.tuple (w.looks.map tupI),tupI w.beg,tupI w.goal]:=rfl
theorem ZkY(w:Wk):Zcu [w.d]=Z (tupI w.beg):=rfl
theorem ZsM(w:Wk):ZeT [w.d]=Z (tupI w.goal):=rfl
theorem Zux{α:Type}(xs:List α)(p:α->Bool):Zfh (xs.map λx=>ZBQ (p x))=Z (xs.map p):=by
 have:=Zfc (xs.map p)
 rwa [ZAI]at this
theorem Zrc(hc:c.length<1000):ZbX [w.d,tupI c]=Z (.bool (Zaq w c)):=by
 have hb:c.length<1000000:=by omega
 have e:∀r:HM.Env,r[0]?=Z (Z (.pl w.d))->Zak ZE (Zo5 (Zb 0) (bOf (Zn ZeT (Za (Zb 1) Zk)))) r (c.map dI)=Z (c.map λs=>ZBQ (w.goal.contains s)):=λr r0=>by
  rw[ZaF dI (λs=>ZBQ (w.goal.contains s))]
  ·intro s _
   simp[r0,ZsM,ZpH,Zby,-ZB4]
 simp[ZbX,ZkP,hb,e,Zux,Zaq,-ZB4]
theorem ZjN(g:Gs)(h:g.length<1000000):Zao [.list (g.map ZK)]=Z (.list ((g.map (·.2)).map tupI)):=by
 have e:∀r:HM.Env,Zak ZE (eIx (Ze 0) (eC (.int 1))) r (g.map ZK)=Z ((g.map (·.2)).map tupI):=λr=>by
  rw[ZaF ZK (λp=>tupI p.2),ZAI]
  ·rfl
  ·intro p _
   rfl
 simp[Zao,Zjv,h,e]
def Zlf(w:Wk)(ls c:List Int)(d:Int):D:=.tuple [dI d,.list ((ZC w ls (Zat w c d)).map ZK)]
def ZvW(w:Wk)(ls c:List Int):D:=.list ((doV w c).map (Zlf w ls c))
theorem split_len{ls:List Int}:(ZC w ls c).length<=c.length:=by unfold ZC;rw[ZAl,(ZbV _).length_eq,ZAl];exact Zl0 _ _ _ (ZeH (Zz w ls) c)
theorem Zia(w:Wk)(c:List Int):(doV w c).length<=w.deeds.length:=by
 unfold doV;rw[ZAl];have:=ZA1 (λ(d:Nat)=>Za6 w c (d:Int)) (ZAw w.deeds.length)
 rwa [ZBg]at this
theorem Zz5{d:Nat}(hd:d<w.deeds.length)(hc:Za6 w c d=ZFt):(d:Int)∈doV w c:=by unfold doV;exact ZAv.mpr ⟨d,ZAY.mpr ⟨ZA5.mpr hd,hc⟩,rfl⟩
section
variable{w:Wk}(hv:Wk.V w){ls:List Int}(hl:Cr w.looks.length ls)
include hv hl
theorem Zpb(hc:Cr w.many c):Zb4 [w.d,tupI ls,tupI c]=Z (ZvW w ls c):=by
 have hdo:=ZnV hv hc;have hb:(doV w c).length<1000000:=by have:=Zia w c; have:=hv.d2; omega
 have e:∀r:HM.Env,r[0]?=Z (Z (.pl w.d))->r[1]?=Z (Z (.pl (tupI ls)))->r[2]?=Z (Z (.pl (tupI c))) ->
   Zak ZE (Zaf (Za (Zb 0) (Za (Zn ZbE (Za (Zb 1) (Za (Zb 2) (Za (Zn ZeD (Za (Zb 1) (Za (Zb 3) (Za (Zb 0) Zk)))) Zk)))) Zk))) r ((doV w c).map dI)=Z ((doV w c).map (Zlf w ls c)):=λr r0 r1 r2=>by
  rw[ZaF dI (Zlf w ls c)];intro d hd;obtain⟨d0,d1,_⟩:=Zcw hd;have h1:=Zt1 hv hc d0 d1;have h2:=Znn hv hl (Zif hv hc d0 d1);simp[r0,r1,r2,h1,h2,Zlf]
 simp[Zb4,Zjw,hdo,hb,e,ZvW]
end
end HG5
namespace HG5
open PySem HM HG HG4
variable{C:List (List Int)}{ds:List D}{p:List Int}{n:Nat}{wf:Wf}
abbrev Wy:=D × Gs
def wyD(y:Wy):D:=.tuple [y.1,.list (y.2.map ZK)]
def wyP(y:Wy):List (List Int):=y.2.map (·.2)
abbrev Wf:=List Int->List Wy
inductive Zqa(wf:Wf)(B:List (List Int)):List Int->Prop where
 | beg {p:List Int} (h:p∈B):Zqa wf B p
 | step {c p:List Int} {y:Wy} (r:Zqa wf B c) (hy:y∈wf c) (h:p∈wyP y):Zqa wf B p
structure Zhb(wf:Wf)(Ok:List Int->Prop)(B C W:List (List Int)):Prop where
 nd:C.Nodup
 cr:∀c∈C,Ok c
 wr:∀c∈W,Ok c
 rc:∀c∈C,Zqa wf B c
 rw:∀c∈W,Zqa wf B c
 cl:∀c∈C,∀y∈wf c,∀p∈wyP y,p∈C\/p∈W
 bg:∀p∈B,p∈C\/p∈W
def Zq(wf:Wf)(C:List (List Int)):List (List Ky × D):=C.map λc=>(Z3 c,.list ((wf c).map wyD))
theorem Zhm(wf:Wf)(C:List (List Int))(k:List Int):Zi (Zq wf C) (Z3 k)=if k∈C then Z (.list ((wf k).map wyD))else Z_:=by
 unfold Zi Zq
 induction C with
 | nil=>rfl
 | cons c C ih =>
  rw[ZAt,ZBv]
  by_cases h:c=k
  ·subst h
   rw[if_pos (ZAp ..)];simp
  ·have h':decide ((Z3 c,(ZE8 ((wf c).map wyD))).1=Z3 k)=ZFu:=decide_eq_false λe=>h (Zex e)
   rw[h'];dsimp only;rw[ih]
   by_cases q:k∈C
   ·rw[if_pos q,if_pos (ZAq _ q)]
   ·rw[if_neg q,if_neg λz=>by
     rcases ZAy.mp z with e | e
     ·exact h e.symm
     ·exact q e]
theorem Zuz{k:List Int}(h:k ∉ C):putD (Zq wf C) (Z3 k) (.list ((wf k).map wyD))=Zq wf (C++[k]):=by
 unfold putD;rw[if_neg]
 ·unfold Zq
  rw[ZAN];rfl
 ·intro z
  obtain⟨p,hp,e⟩:=ZDS.mp z;unfold Zq at hp;obtain⟨c,hc,rfl⟩:=ZAv.mp hp;have e:=Zex (of_decide_eq_true e);subst e;exact h hc
theorem Zm6(wf:Wf)(L:List (List Int)):((Zq wf L).map λp=>ZAU (p.1.map ZaV))=L.map tupI:=by unfold Zq;rw[ZAI];refine ZBL λc _=>?_;show ZAU ((c.map ZCf).map ZaV)=ZAU (c.map dI);rw[ZAI];rfl
def Zmu(wf:Wf)(c:List Int):List (List Int):=(wf c).flatMap wyP
theorem Zhb.old{Ok:List Int->Prop}{B V:List (List Int)}(I:Zhb wf Ok B C (V++[p]))(hp:p∈C):Zhb wf Ok B C V:=by
 have key:∀q,q∈C\/q∈V++[p]->q∈C\/q∈V:=λq h=>by
  rcases h with h | h
  ·exact .inl h
  ·rcases ZAV.mp h with h | h
   ·exact .inr h
   ·rw[ZAu.mp h]; exact .inl hp
 exact⟨I.nd,I.cr,λc h=>I.wr c (ZA3 _ h),I.rc,λc h=>I.rw c (ZA3 _ h),λc hc y hy q hq=>key q (I.cl c hc y hy q hq),λq hq=>key q (I.bg q hq)⟩
structure Zsg(wf:Wf)(Ok:List Int->Prop):Prop where
 ok:∀c,Ok c->∀y∈wf c,∀p∈wyP y,Ok p
 ys:∀c,Ok c->(wf c).length<=10
 ps:∀c,Ok c->∀y∈wf c,y.2.length<=8
 cs:∀C:List (List Int),C.Nodup->(∀c∈C,Ok c)->C.length<=128
theorem Zhb.new{Ok:List Int->Prop}(O:Zsg wf Ok){B V:List (List Int)}(I:Zhb wf Ok B C (V++[p]))(hp:p ∉ C):Zhb wf Ok B (C++[p]) (V++Zmu wf p):=by
 have hpc:=I.wr p (ZAL _ (ZAu.mpr rfl));have hpr:=I.rw p (ZAL _ (ZAu.mpr rfl));have key:∀q,q∈C\/q∈V++[p]->q∈C++[p]\/q∈V++Zmu wf p:=λq h=>by
  rcases h with h | h
  ·exact .inl (ZA3 _ h)
  ·rcases ZAV.mp h with h | h
   ·exact .inr (ZA3 _ h)
   ·exact .inl (ZAL _ h)
 refine⟨?_,λc h=>?_,λc h=>?_,λc h=>?_,λc h=>?_,λc h y hy q hq=>?_,λq hq=>key q (I.bg q hq)⟩
 ·rw[ZB7]
  refine⟨I.nd,by simp,λx hx y hy e=>?_⟩;rw[ZAu.mp hy]at e;exact hp (e▸hx)
 ·rcases ZAV.mp h with h | h
  ·exact I.cr c h
  ·rw[ZAu.mp h]; exact hpc
 ·rcases ZAV.mp h with h | h
  ·exact I.wr c (ZA3 _ h)
  ·obtain⟨y,hy,hq⟩:=ZCQ.mp h
   exact O.ok p hpc y hy c hq
 ·rcases ZAV.mp h with h | h
  ·exact I.rc c h
  ·rw[ZAu.mp h]; exact hpr
 ·rcases ZAV.mp h with h | h
  ·exact I.rw c (ZA3 _ h)
  ·obtain⟨y,hy,hq⟩:=ZCQ.mp h
   exact .step hpr hy hq
 ·rcases ZAV.mp h with h | h
  ·exact key q (I.cl c h y hy q hq)
  ·rw[ZAu.mp h]at hy
   exact .inr (ZAL _ (ZCQ.mpr ⟨y,hy,hq⟩))
theorem ZvC{Ok:List Int->Prop}(O:Zsg wf Ok){c:List Int}(hc:Ok c):(Zmu wf c).length<=80:=by
 have key:∀ys:List Wy,(∀y∈ys,y∈wf c)->(ys.flatMap wyP).length<=8*ys.length:=by
  intro ys
  induction ys with
  | nil=>intro _; exact ZAz 0
  | cons y ys ih =>
   intro h;rw[List.flatMap_cons,ZAE,ZAB];have h1:=ih λx hx=>h x (ZAq _ hx);have h2:=O.ps c hc y (h y (ZAp ..));have h3:(wyP y).length=y.2.length:=by unfold wyP; rw[ZAl]
   omega
 have h1:=key (wf c) λ_ h=>h;have h2:=O.ys c hc;unfold Zmu;omega
theorem Zts(ap:AP)(e0 e1 e2 e4:Option B):∀(ys:List Wy) (W:List (List Int)) (o:Option B),(∀y∈ys,y.2.length<=8)->W.length+8*ys.length<900000 ->
  ∃o',ZaO 5 (Zb3 ap) (ys.map wyD) [e0,e1,e2,Z (.ol (W.map tupI)),e4,o]=Z (.nx [e0,e1,e2,Z (.ol ((W++ys.flatMap wyP).map tupI)),e4,o'])
 | [],W,o,_,_=>⟨o,by rw[List.flatMap_nil,ZBa]; rfl⟩
 | y::ys,W,o,hds,hlen=>by
  rw[ZAB]at hlen;have hb:=hds y (ZAp ..);have hci:=ZjN y.2 (by omega);have hpl:(wyP y).length<=8:=by unfold wyP; rw[ZAl]; exact hb
  have body:Zb3 ap [e0,e1,e2,Z (.ol (W.map tupI)),e4,Z (.pl (wyD y))]=Z (.nx [e0,e1,e2,Z (.ol ((W++wyP y).map tupI)),e4,Z (.pl (wyD y))]):=by
   have h1:Zj5 Zao (Za (eIx (Ze 5) (eC (.int 1))) Zk) [e0,e1,e2,Z (.ol (W.map tupI)),e4,Z (.pl (wyD y))]=Z (.ol ((wyP y).map tupI)):=by unfold Zj5;show(match Zao [.list (y.2.map ZK)]with | some (.list ys)=>Z (B.ol ys) | _=>Z_)=_;rw[hci];rfl
   unfold Zb3 Zkw;rw[h1];show(if _ then _ else _)=_;rw[if_pos (by rw[ZAl,ZAl]; show _<1000000; omega),ZAN];rfl
  obtain⟨o',ih⟩:=Zts ap e0 e1 e2 e4 ys (W++wyP y) (Z (.pl (wyD y))) (λx hx=>hds x (ZAq _ hx)) (by rw[ZAE]; omega);refine⟨o',?_⟩;rw[List.flatMap_cons,<-ZBE,<-ih,ZAt];show(match Zb3 ap [e0,e1,e2,Z (.ol (W.map tupI)),e4,Z (.pl (wyD y))]with | some (.nx r')=>_ | some (.ct r')=>_ | some (.bk r')=>_ | some (.rt d)=>_ | none=>_)=_;rw[body]
theorem ZkU(wf:Wf)(C:List (List Int))(p:List Int)(r:HM.Env)(i j:Nat)(h1:r[i]?=Z (Z (.pl (tupI p))))(h2:r[j]?=Z (Z (.ot (Zq wf C)))):tV (ZbP (Zb i) (Ze j)) r=Z (!decide (p∈C)):=by
 have hk:ZaT (tupI p)=Z (Z3 p):=Zar p;have hlk:=Zhm wf C p
 by_cases hp:p∈C
 ·rw[if_pos hp]at hlk
  simp[h1,h2,hk,hlk,hp]
 ·rw[if_neg hp]at hlk
  simp[h1,h2,hk,hlk,hp]
theorem Zkq(t:Nat)(cs:List D):ZiY (fnD t cs)=Z (t,cs):=rfl
section
variable{ap:AP}{wf:Wf}{Ok:List Int->Prop}(O:Zsg wf Ok){t:Nat}{cs:List D}(ha:∀c,Ok c->ap t cs [tupI c]=Z (.list ((wf c).map wyD)))
include O ha
omit ha O in
theorem Zvg{V:List (List Int)}(e0 e1 o4 o5:Option B)(hp:p∈C) :
  Zbw ap [e0,e1,Z (.ot (Zq wf C)),Z (.ol ((V++[p]).map tupI)),o4,o5]=Z (.nx [e0,e1,Z (.ot (Zq wf C)),Z (.ol (V.map tupI)),Z (.pl (tupI p)),o5]):=by
 unfold Zbw;refine ZH (P:=λq=>q=_) (r':=[e0,e1,Z (.ot (Zq wf C)),Z (.ol (V.map tupI)),Z (.pl (tupI p)),o5]) ?_ ?_
 ·rw[ZAN]
  simp
 ·have ht:=ZkU wf C p [e0,e1,Z (.ot (Zq wf C)),Z (.ol (V.map tupI)),Z (.pl (tupI p)),o5] 4 2 rfl rfl
  rw[decide_eq_true hp]at ht;unfold sIf;rw[ht];rfl
theorem Zvv{V:List (List Int)}(e0 o4 o5:Option B)(hp:p ∉ C)(hc:Ok p)(hC:C.length<1000)(hV:V.length<100000) :
  ∃o5',Zbw ap [e0,Z (.pl (fnD t cs)),Z (.ot (Zq wf C)),Z (.ol ((V++[p]).map tupI)),o4,o5]=Z (.nx [e0,Z (.pl (fnD t cs)),Z (.ot (Zq wf (C++[p]))),Z (.ol ((V++Zmu wf p).map tupI)),Z (.pl (tupI p)),o5']):=by
 have hdl:=O.ys p hc;obtain⟨o5',go⟩:=Zts ap e0 (Z (.pl (fnD t cs))) (Z (.ot (Zq wf (C++[p])))) (Z (.pl (tupI p))) (wf p) V o5 (λy hy=>O.ps p hc y hy) (by omega);refine⟨o5',?_⟩;unfold Zbw;refine ZH (P:=λq=>q=_) (r':=[e0,Z (.pl (fnD t cs)),Z (.ot (Zq wf C)),Z (.ol (V.map tupI)),Z (.pl (tupI p)),o5]) ?_ ?_
 ·rw[ZAN]
  simp
 ·have ht:=ZkU wf C p [e0,Z (.pl (fnD t cs)),Z (.ot (Zq wf C)),Z (.ol (V.map tupI)),Z (.pl (tupI p)),o5] 4 2 rfl rfl
  rw[decide_eq_false hp]at ht;unfold sIf;rw[ht];show Zr _ _ _=_;have hk:ZaT (tupI p)=Z (Z3 p):=Zar p;have hww:=ha p hc;have hcl:(Zq wf C).length<1000000:=by unfold Zq; rw[ZAl]; omega
  refine ZH (P:=λq=>q=_) (r':=[e0,Z (.pl (fnD t cs)),Z (.ot (Zq wf (C++[p]))),Z (.ol (V.map tupI)),Z (.pl (tupI p)),o5]) ?_ ?_
  ·rw[<-Zuz hp]
   have hv:Zc8 ap 1 (Za (Zb 4) Zk) [e0,Z (.pl (fnD t cs)),Z (.ot (Zq wf C)),Z (.ol (V.map tupI)),Z (.pl (tupI p)),o5]=Z (.list ((wf p).map wyD)):=by unfold Zc8;show(match ZiY (fnD t cs)with | some (t,cs)=>_ | none=>Z_)=_;rw[Zkq];exact hww
   unfold Zgh;rw[hv];show(match ZaT (tupI p)with | some y=>_ | none=>Z_)=_;rw[hk];dsimp only;rw[if_pos (show _<big from hcl)];rfl
  ·have hlk:=Zhm wf (C++[p]) p
   rw[if_pos (ZAL _ (ZAu.mpr rfl))]at hlk;have hi:ZJ (bOf (Z5 (Ze 2) (Zb 4))) [e0,Z (.pl (fnD t cs)),Z (.ot (Zq wf (C++[p]))),Z (.ol (V.map tupI)),Z (.pl (tupI p)),o5]=Z ((wf p).map wyD):=by simp[hk,hlk]
   unfold ZaS;rw[hi];dsimp only;rw[if_pos (by rw[ZAl]; show _<1000000; omega)];exact go
theorem Zfs(B:List (List Int))(e0:Option HM.B):∀(fuel:Nat) (C W:List (List Int)) (o4 o5:Option HM.B),Zhb wf Ok B C W->(128-C.length)*81+W.length<fuel->(128-C.length)*81+W.length<60000 ->
  ∃C' o4' o5',ZaY (tV (op2 gGt (Z6 (Ze 3)) (eC (.int 0)))) (Zbw ap) fuel [e0,Z (.pl (fnD t cs)),Z (.ot (Zq wf C)),Z (.ol (W.map tupI)),o4,o5]=Z (.nx [e0,Z (.pl (fnD t cs)),Z (.ot (Zq wf C')),Z (.ol []),o4',o5'])/\Zhb wf Ok B C' []
 | 0,C,W,o4,o5,I,h,_=>by omega
 | fuel+1,C,W,o4,o5,I,h,hW=>by
  have hlen:=O.cs C I.nd I.cr
  by_cases hw:W=[]
  ·subst hw
   refine⟨C,o4,o5,?_,I⟩;unfold ZaY;have ht:(tV (op2 gGt (Z6 (Ze 3)) (eC (.int 0)))) [e0,Z (.pl (fnD t cs)),Z (.ot (Zq wf C)),Z (.ol (([]:List (List Int)).map tupI)),o4,o5]=Z ZFu:=by simp
   rw[ht];rfl
  ·obtain⟨V,p,rfl⟩:∃V p,W=V++[p]:=⟨W.dropLast,W.getLast hw,(List.dropLast_concat_getLast hw).symm⟩
   rw[ZAE,ZB0]at h hW;have ht:(tV (op2 gGt (Z6 (Ze 3)) (eC (.int 0)))) [e0,Z (.pl (fnD t cs)),Z (.ot (Zq wf C)),Z (.ol ((V++[p]).map tupI)),o4,o5]=Z ZFt:=by simp
   by_cases hp:p∈C
   ·obtain⟨C',o4',o5',g,J⟩:=Zfs B e0 fuel C V (Z (.pl (tupI p))) o5 (I.old hp) (by omega) (by omega)
    refine⟨C',o4',o5',?_,J⟩;unfold ZaY;rw[ht];dsimp only;rw[Zvg e0 _ o4 o5 hp];exact g
   ·have hpc:=I.wr p (ZAL _ (ZAu.mpr rfl))
    have J0:=I.new O hp;have hl2:=O.cs _ J0.nd J0.cr;rw[ZAE,ZB0]at hl2;have hbl:=ZvC O hpc;obtain⟨q5,e⟩:=Zvv O ha (V:=V) e0 o4 o5 hp hpc (by omega) (by omega);obtain⟨C',o4',o5',g,J⟩:=Zfs B e0 fuel (C++[p]) (V++Zmu wf p) (Z (.pl (tupI p))) q5 J0 (by rw[ZAE,ZAE,ZB0]; omega) (by rw[ZAE,ZAE,ZB0]; omega);refine⟨C',o4',o5',?_,J⟩;unfold ZaY;rw[ht];dsimp only;rw[e];exact g
theorem Zsb{B:List (List Int)}(hB:∀c∈B,Ok c)(hl:B.length<=100):∃L,Zck ap [.list (B.map tupI),fnD t cs]=Z (.dict (Zh (Zq wf L)))/\Zhb wf Ok B L []:=by
 have I0:Zhb wf Ok B [] B:=⟨.nil,λc h=>(by simp at h),hB,λc h=>(by simp at h),λc h=>.beg h,λc h=>(by simp at h),λp h=>.inr h⟩;obtain⟨L,o4,o5,g,J⟩:=Zfs O ha B (Z (.pl (.list (B.map tupI)))) 100000 [] B Z_ Z_ I0 (by simp; omega) (by simp; omega);refine⟨L,?_,J⟩;show ZM (Zdm ap [Z (.pl (.list (B.map tupI))),Z (.pl (fnD t cs)),Z_,Z_,Z_,Z_])=_;have e:Zdm ap [Z (.pl (.list (B.map tupI))),Z (.pl (fnD t cs)),Z_,Z_,Z_,Z_]=Z (.rt (.dict (Zh (Zq wf L)))):=by unfold Zdm;refine ZH (P:=λq=>q=_) (r':=[Z (.pl (.list (B.map tupI))),Z (.pl (fnD t cs)),Z (.ot (Zq wf [])),Z_,Z_,Z_]) rfl ?_;refine ZH (P:=λq=>q=_) (r':=[Z (.pl (.list (B.map tupI))),Z (.pl (fnD t cs)),Z (.ot (Zq wf [])),Z (.ol (B.map tupI)),Z_,Z_]) rfl ?_;refine ZH (P:=λq=>q=_) g ?_;simp
 rw[e];rfl
end
theorem ZdZ(n:Nat)(p:List Int):noF (n+1) (tupI p)=ZFt:=by show(p.map dI).all (noF n)=ZFt;rw[List.all_map];exact ZAF.mpr λx _=>by cases n<;>rfl
theorem Zz6(n:Nat)(i:Int):noF n (.int i)=ZFt:=by cases n<;>rfl
theorem ZdO(h:∀d∈ds,noF n d=ZFt):noF (n+1) (.tuple ds)=ZFt:=ZAF.mpr h
theorem Zpj(h:∀d∈ds,noF n d=ZFt):noF (n+1) (.list ds)=ZFt:=ZAF.mpr h
theorem ZuM(n:Nat)(p:List Int × List Int):noF (n+2) (ZK p)=ZFt:=ZdO λd hd=>by
 rcases ZAy.mp hd with e | hd
 ·subst e; exact ZdZ n _
 ·rw[ZAu.mp hd]; exact ZdZ n _
theorem Zxw{y:Wy}(h:noF (n+3) y.1=ZFt):noF (n+4) (wyD y)=ZFt:=ZdO λd hd=>by
 rcases ZAy.mp hd with e | hd
 ·subst e; exact h
 ·rw[ZAu.mp hd]
  exact Zpj λd hd=>by obtain⟨p,_,rfl⟩:=ZAv.mp hd;exact ZuM n p
theorem ZyZ{L:List (List Int)}(h:∀c∈L,∀y∈wf c,noF (n+3) y.1=ZFt):noF (n+6) (.dict (Zh (Zq wf L)))=ZFt:=by show(Zh (Zq wf L)).all _=ZFt;refine ZAF.mpr λp hp=>?_;unfold Zh Zq at hp;rw[ZAI]at hp;obtain⟨c,hc,rfl⟩:=ZAv.mp hp;show noF (n+5) (.list ((wf c).map wyD))=ZFt;exact Zpj λd hd=>by obtain⟨y,hy,rfl⟩:=ZAv.mp hd;exact Zxw (h c hc y hy)
theorem Zy6(w:Wk):noF 20 w.d=ZFt:=by
 refine ZdO λd hd=>?_;have h:∀x:List (List Int),∀d∈x.map tupI,noF 17 d=ZFt:=λx d hd=>by obtain⟨p,_,rfl⟩:=ZAv.mp hd;exact ZdZ 16 p
 have hd:=ZAy.mp hd;rcases hd with e | hd
 ·subst e; rfl
 rcases ZAy.mp hd with e | hd
 ·subst e
  exact ZdO λd hd=>by obtain⟨x,_,rfl⟩:=ZAv.mp hd;exact ZdO (h x)
 rcases ZAy.mp hd with e | hd
 ·subst e
  exact ZdO λd hd=>by obtain⟨x,_,rfl⟩:=ZAv.mp hd;exact ZdZ 17 x
 rcases ZAy.mp hd with e | hd
 ·subst e; exact ZdZ 18 _
 ·rw[ZAu.mp hd]; exact ZdZ 18 _
end HG5
namespace HG5
open PySem HM HG HG4
variable{cb:Cb}{c:List Int}{M:Tb}
def oI:Option Int->D
 | some k=>.int k
 | none=>.none
abbrev Cb:=Wy->Tb->Option Int
def Za7(cb:Cb)(ys:List Wy)(M:Tb):Option Int:=(ys.filterMap λy=>cb y M).min?
def ZaG(wf:Wf)(cb:Cb)(L:List (List Int))(M:Tb):Tb:=L.filterMap λc=>if Zw M c then Z_ else(Za7 cb (wf c) M).map λk=>(c,k)
def ZbR(T:Tb):Option Int:=(T.map (·.2)).min?
def Zgf(T:Tb):List (List Int):=(T.filter λp=>Z p.2==ZbR T).map (·.1)
def Z9(found:List (List Int))(k:Int)(M:Tb):Tb:=found.foldl (λM c=>putD M c k) M
inductive Zj1(wf:Wf)(cb:Cb)(L:List (List Int)):Tb->Option Int->List (List Int)->Tb->Prop where
 | done {M:Tb} {k:Option Int}:Zj1 wf cb L M k [] M
 | step {M R:Tb} {k:Int} {found:List (List Int)} (hf:found≠[]) (h:Zj1 wf cb L (Z9 found k M) (ZbR (ZaG wf cb L (Z9 found k M))) (Zgf (ZaG wf cb L (Z9 found k M))) R):Zj1 wf cb L M (Z k) found R
theorem Zpp:∀os:List (Option Int),Zax ((os.filter ZDe).map oI)=Z (os.filterMap id)
 | []=>rfl
 | none::os=>Zpp os
 | some k::os=>by show(Zax ((os.filter ZDe).map oI)).map (k::·)=_;rw[Zpp os];rfl
theorem Zji{ap:AP}{t:Nat}{cs:List D}{ys:List Wy}(hy:ys.length<1000)(ha:∀y∈ys,ap t cs [wyD y,.dict (Zh (encM M))]=Z (oI (cb y M))) :
  Zbd ap [.list (ys.map wyD),.dict (Zh (encM M)),fnD t cs]=Z (oI (Za7 cb ys M)):=by
 show ZM (Zf7 ap [Z (.pl (.list (ys.map wyD))),Z (.pl (.dict (Zh (encM M)))),Z (.pl (fnD t cs)),Z_])=_;have hb:ys.length<big:=by show _<1000000; omega
 have e1:Zak ZE (Zc8 ap 3 (Za (Zb 0) (Za (Zb 2) Zk))) [Z (.pl (.list (ys.map wyD))),Z (.pl (.dict (Zh (encM M)))),Z (.pl (fnD t cs)),Z_] (ys.map wyD)=Z ((ys.map λy=>cb y M).map oI):=by
  rw[ZaF wyD (λy=>oI (cb y M)),ZAI]
  ·rfl
  ·intro y h
   show(match ZiY (fnD t cs)with | some (t,cs)=>_ | none=>Z_)=_;rw[Zkq];exact ha y h
 have e2:Zak (tV (op2 Zhp (Zb 0) (eC .none))) (Zb 0) [Z (.pl (.list (ys.map wyD))),Z (.pl (.dict (Zh (encM M)))),Z (.pl (fnD t cs)),Z (.pl (.list ((ys.map λy=>cb y M).map oI)))] ((ys.map λy=>cb y M).map oI)=Z (((ys.map λy=>cb y M).filter ZDe).map oI):=by
  rw[Zbz oI ZDe oI]
  ·intro o _
   cases o<;>rfl
  ·intro o _ _
   rfl
 unfold Zf7;refine ZH (P:=λq=>ZM q=_) (r':=[Z (.pl (.list (ys.map wyD))),Z (.pl (.dict (Zh (encM M)))),Z (.pl (fnD t cs)),Z (.ol ((ys.map λy=>cb y M).map oI))]) ?_ ?_
 ·unfold ZU ZF
  show ZCo _ (if(ys.map wyD).length<big then _ else _)=_;rw[if_pos (by rw[ZAl]; exact hb),e1];rfl
 ·show ZM (ZCo Out.rt (Zgw _ [Z (.pl (.list (ys.map wyD))),Z (.pl (.dict (Zh (encM M)))),Z (.pl (fnD t cs)),Z (.pl (.list ((ys.map λy=>cb y M).map oI)))]))=_
  have e3:ZF (ZJ (bOf (Zb 3))) (tV (op2 Zhp (Zb 0) (eC .none))) (Zb 0) [Z (.pl (.list (ys.map wyD))),Z (.pl (.dict (Zh (encM M)))),Z (.pl (fnD t cs)),Z (.pl (.list ((ys.map λy=>cb y M).map oI)))]=Z (.ol (((ys.map λy=>cb y M).filter ZDe).map oI)):=by unfold ZF;show(if((ys.map λy=>cb y M).map oI).length<big then _ else Z_)=_;rw[if_pos (by rw[ZAl,ZAl]; exact hb),e2];rfl
  unfold Zgw;rw[e3];show ZM (ZCo Out.rt (match Zax (((ys.map λy=>cb y M).filter ZDe).map oI)with | some ns=>Z (match ns.min? with | some i=>ZA2 i | none=>.none) | none=>Z_))=_;rw[Zpp];show Z (match((ys.map λy=>cb y M).filterMap id).min? with | some i=>ZA2 i | none=>.none)=_;unfold Za7;rw[List.filterMap_map];show Z (match(ys.filterMap λy=>cb y M).min? with | some i=>ZA2 i | none=>.none)=_;cases(ys.filterMap λy=>cb y M).min?<;>rfl
theorem ZvM{k:Int}(h:Zw M c=ZFu):putD M c k=M++[(c,k)]:=by unfold putD;rw[if_neg];intro z;obtain⟨p,hp,e⟩:=ZDS.mp z;have e:=of_decide_eq_true e;unfold Zw Zi at h;rw[ZB6]at h;have:(M.find? λp=>decide (p.1=c)).isSome=ZFt:=List.find?_isSome.mpr ⟨p,hp,decide_eq_true e⟩;rw[h]at this;cases this
theorem ZsO(M N:Tb)(c:List Int):Zw (M++N) c=(Zw M c||Zw N c):=by unfold Zw Zi;rw[List.find?_append,ZB6,ZB6,ZB6,Option.isSome_or]
theorem ZwZ:Zw M c=ZFt↔∃k,(c,k)∈M:=by
 unfold Zw Zi;rw[ZB6,List.find?_isSome]
 constructor
 ·rintro ⟨⟨c',k⟩,h,e⟩
  have e:=of_decide_eq_true e;exact⟨k,by rw[<-e]; exact h⟩
 ·rintro ⟨k,h⟩
  exact⟨_,h,decide_eq_true rfl⟩
theorem Zib{wf:Wf}{L:List (List Int)}{k:Int}:(c,k)∈ZaG wf cb L M↔c∈L/\Zw M c=ZFu/\Za7 cb (wf c) M=Z k:=by
 unfold ZaG;rw[ZBs]
 constructor
 ·rintro ⟨c',h1,h2⟩
  split at h2
  ·cases h2
  ·rename_i hn
   obtain⟨k',h3,h4⟩:=ZAn.mp h2;cases h4;exact⟨h1,by simpa using hn,h3⟩
 ·rintro ⟨h1,h2,h3⟩
  exact⟨c,h1,by rw[h2,h3]; rfl⟩
section
variable{ap:AP}{wf:Wf}{L:List (List Int)}{t:Nat}{cs:List D}{cb:Cb}(hnd:L.Nodup)(hlen:L.length<=128)(hys:∀c∈L,(wf c).length<1000)(ha:∀c∈L,∀y∈wf c,∀M,ap t cs [wyD y,.dict (Zh (encM M))]=Z (oI (cb y M)))
include hys ha
theorem ZrO{M:Tb}:∀(K:List (List Int)) (acc:Tb) (o4 o5:Option B),(∀c∈K,c∈L)->K.Nodup->(∀c∈K,Zw acc c=ZFu)->Zbc o4=ZFu->Zbc o5=ZFu->acc.length+K.length<100000 ->
  ∃p4 p5,Zbc p4=ZFu/\Zbc p5=ZFu/\ZaO 4 (Zae ap) (K.map tupI) [Z (.hd (Zh (Zq wf L))),Z (.pl (.dict (Zh (encM M)))),Z (.pl (fnD t cs)),Z (.ot (encM acc)),o4,o5] =
   Z (.nx [Z (.hd (Zh (Zq wf L))),Z (.pl (.dict (Zh (encM M)))),Z (.pl (fnD t cs)),Z (.ot (encM (acc++ZaG wf cb K M))),p4,p5])
 | [],acc,o4,o5,_,_,_,h4,h5,_=>⟨o4,o5,h4,h5,by show Z (Out.nx _)=_; rw[show ZaG wf cb [] M=[] from rfl,ZBa]⟩
 | c::K,acc,o4,o5,hK,hn,hacc,h4,h5,hl=>by
  rw[ZAB]at hl;have hc:=hK c (ZAp ..);have hk:ZaT (tupI c)=Z (Z3 c):=Zar c;have hlk:=ZbY M c;have hlr:=Zhm wf L c;rw[if_pos hc]at hlr;have hlc:=Zji (ap:=ap) (t:=t) (cs:=cs) (cb:=cb) (ys:=wf c) (M:=M) (hys c hc) λy hy=>ha c hc y hy M;have hcons:ZaG wf cb (c::K) M=(if Zw M c then[]else match Za7 cb (wf c) M with | some k=>[(c,k)] | none=>[])++ZaG wf cb K M:=by
   unfold ZaG;rw[ZBK];cases Zw M c with
   | true=>rfl
   | false=>cases Za7 cb (wf c) M<;>rfl
  have step:∀(acc':Tb) (p5:Option B),Zbc p5=ZFu->(∀x∈K,Zw acc' x=ZFu)->acc'.length+K.length<100000->Zae ap [Z (.hd (Zh (Zq wf L))),Z (.pl (.dict (Zh (encM M)))),Z (.pl (fnD t cs)),Z (.ot (encM acc)),Z (.pl (tupI c)),o5] =
     Z (.nx [Z (.hd (Zh (Zq wf L))),Z (.pl (.dict (Zh (encM M)))),Z (.pl (fnD t cs)),Z (.ot (encM acc')),Z (.pl (tupI c)),p5])->acc'++ZaG wf cb K M=acc++ZaG wf cb (c::K) M ->
    ∃p4 p5,Zbc p4=ZFu/\Zbc p5=ZFu/\ZaO 4 (Zae ap) ((c::K).map tupI) [Z (.hd (Zh (Zq wf L))),Z (.pl (.dict (Zh (encM M)))),Z (.pl (fnD t cs)),Z (.ot (encM acc)),o4,o5] =
     Z (.nx [Z (.hd (Zh (Zq wf L))),Z (.pl (.dict (Zh (encM M)))),Z (.pl (fnD t cs)),Z (.ot (encM (acc++ZaG wf cb (c::K) M))),p4,p5]):=λacc' p5 hp5 hx hl' e eq=>by
   obtain⟨q4,q5,g4,g5,ih⟩:=ZrO (M:=M) K acc' (Z (.pl (tupI c))) p5 (λx hx=>hK x (ZAq _ hx)) (ZBf.mp hn).2 hx rfl hp5 hl';refine⟨q4,q5,g4,g5,?_⟩;rw[<-eq,<-ih,ZAt];show(match Zae ap [Z (.hd (Zh (Zq wf L))),Z (.pl (.dict (Zh (encM M)))),Z (.pl (fnD t cs)),Z (.ot (encM acc)),Z (.pl (tupI c)),o5]with | some (.nx r')=>_ | some (.ct r')=>_ | some (.bk r')=>_ | some (.rt d)=>_ | none=>_)=_;rw[e]
  have hKa:∀x∈K,Zw acc x=ZFu:=λx hx=>hacc x (ZAq _ hx);cases hq:Zi M c with
  | some k =>
   have hh:Zw M c=ZFt:=by unfold Zw; rw[hq]; rfl
   rw[hq]at hlk;refine step acc o5 h5 hKa (by omega) ?_ (by rw[hcons,hh]; rfl);have ht:tV (ZbP (Zb 4) (Ze 1)) [Z (.hd (Zh (Zq wf L))),Z (.pl (.dict (Zh (encM M)))),Z (.pl (fnD t cs)),Z (.ot (encM acc)),Z (.pl (tupI c)),o5]=Z ZFu:=by simp[dec_enc,hk,hlk]
   unfold Zae sIf;rw[ht];rfl
  | none =>
   have hh:Zw M c=ZFu:=by unfold Zw; rw[hq]; rfl
   rw[hq]at hlk;have ht:tV (ZbP (Zb 4) (Ze 1)) [Z (.hd (Zh (Zq wf L))),Z (.pl (.dict (Zh (encM M)))),Z (.pl (fnD t cs)),Z (.ot (encM acc)),Z (.pl (tupI c)),o5]=Z ZFt:=by simp[dec_enc,hk,hlk]
   have hca:Zn (Zbd ap) (Za (Z5 (Ze 0) (Zb 4)) (Za (Zb 1) (Za (Zb 2) Zk))) [Z (.hd (Zh (Zq wf L))),Z (.pl (.dict (Zh (encM M)))),Z (.pl (fnD t cs)),Z (.ot (encM acc)),Z (.pl (tupI c)),o5]=Z (oI (Za7 cb (wf c) M)):=by
    have hg:Z5 (Ze 0) (Zb 4) [Z (.hd (Zh (Zq wf L))),Z (.pl (.dict (Zh (encM M)))),Z (.pl (fnD t cs)),Z (.ot (encM acc)),Z (.pl (tupI c)),o5]=Z (.list ((wf c).map wyD)):=by simp[dec_enc,hk,hlr]
    unfold Zn Za;rw[hg];exact hlc
   have hs5:Z0 5 (Zn (Zbd ap) (Za (Z5 (Ze 0) (Zb 4)) (Za (Zb 1) (Za (Zb 2) Zk)))) [Z (.hd (Zh (Zq wf L))),Z (.pl (.dict (Zh (encM M)))),Z (.pl (fnD t cs)),Z (.ot (encM acc)),Z (.pl (tupI c)),o5]=Z (.nx [Z (.hd (Zh (Zq wf L))),Z (.pl (.dict (Zh (encM M)))),Z (.pl (fnD t cs)),Z (.ot (encM acc)),Z (.pl (tupI c)),Z (.pl (oI (Za7 cb (wf c) M)))]):=by unfold Z0;rw[hca];rfl
   cases hle:Za7 cb (wf c) M with
   | none=>rw[hle]at hs5;refine step acc (Z (.pl .none)) rfl hKa (by omega) ?_ (by rw[hcons,hh,hle]; rfl);unfold Zae sIf;rw[ht];dsimp only;refine ZH (P:=λq=>q=_) hs5 ?_;rfl
   | some k =>
    rw[hle]at hs5;have hput:=ZvM (k:=k) (hacc c (ZAp ..));have hpe:=Zi7 acc c k;have hal:(encM acc).length<1000000:=by unfold encM; rw[ZAl]; omega
    refine step (acc++[(c,k)]) (Z (.pl (.int k))) rfl (λx hx=>?_) (by rw[ZAE,ZB0]; omega) ?_ (by rw[hcons,hh,hle,ZBE]; rfl)
    ·rw[ZsO,hKa x hx,Bool.false_or]
     cases hb:Zw [(c,k)] x with
     | false=>rfl
     | true=>obtain⟨k',hm⟩:=ZwZ.mp hb;cases ZAu.mp hm;exact absurd hx (ZBf.mp hn).1
    ·unfold Zae sIf
     rw[ht];dsimp only;refine ZH (P:=λq=>q=_) hs5 ?_;have h2:tV (op2 Zhp (Zb 5) (eC .none)) [Z (.hd (Zh (Zq wf L))),Z (.pl (.dict (Zh (encM M)))),Z (.pl (fnD t cs)),Z (.ot (encM acc)),Z (.pl (tupI c)),Z (.pl (oI (Z k)))]=Z ZFt:=rfl;rw[h2,<-hput,<-hpe];show(match ZaT (tupI c)with | some y=>_ | none=>Z_)=_;rw[hk];show(if(encM acc).length<big then _ else Z_)=_;rw[if_pos (show _<big from hal)];rfl
include hnd hlen
theorem ZnZ(M:Tb):Zbu ap [.dict (Zh (Zq wf L)),.dict (Zh (encM M)),fnD t cs]=Z (encM (ZaG wf cb L M)):=by
 obtain⟨p4,p5,g4,g5,go⟩:=ZrO hys ha (M:=M) L [] Z_ Z_ (λ_ h=>h) hnd (λ_ _=>rfl) rfl rfl (by simp; omega);have hw:Za0 0 [Z (.hd (Zh (Zq wf L))),Z (.pl (.dict (Zh (encM M)))),Z (.pl (fnD t cs)),Z (.ot (encM [])),Z_,Z_]=Z (L.map tupI):=by show(ZfD (Zh (Zq wf L))).map _=_;rw[dec_enc,<-Zm6 wf L];rfl
 have hf:ZaS 4 (Za0 0) (Zae ap) [Z (.hd (Zh (Zq wf L))),Z (.pl (.dict (Zh (encM M)))),Z (.pl (fnD t cs)),Z (.ot (encM [])),Z_,Z_]=Z (.nx [Z (.hd (Zh (Zq wf L))),Z (.pl (.dict (Zh (encM M)))),Z (.pl (fnD t cs)),Z (.ot (encM (ZaG wf cb L M))),p4,p5]):=by unfold ZaS;rw[hw];dsimp only;rw[if_pos (by rw[ZAl]; show _<1000000; omega),go];rfl
 have hh:Zfj 0 (ZaS 4 (Za0 0) (Zae ap)) [Z (.pl (.dict (Zh (Zq wf L)))),Z (.pl (.dict (Zh (encM M)))),Z (.pl (fnD t cs)),Z (.ot (encM [])),Z_,Z_]=Z (.nx [Z (.pl (.dict (Zh (Zq wf L)))),Z (.pl (.dict (Zh (encM M)))),Z (.pl (fnD t cs)),Z (.ot (encM (ZaG wf cb L M))),p4,p5]):=by
  show(match ZaS 4 (Za0 0) (Zae ap) [Z (.hd (Zh (Zq wf L))),Z (.pl (.dict (Zh (encM M)))),Z (.pl (fnD t cs)),Z (.ot (encM [])),Z_,Z_]with | some (.nx r')=>_ | some (.rt d)=>_ | _=>Z_)=_;rw[hf];have a2:([Z_,Z (B.pl (.dict (Zh (encM M)))),Z (.pl (fnD t cs)),Z (.ot (encM (ZaG wf cb L M))),p4,p5]:HM.Env).all (λq=>!Zbc q)=ZFt:=by simp only[ZBA,ZEJ,g4,g5];rfl
  show(if([Z_,Z (B.pl (.dict (Zh (encM M)))),Z (.pl (fnD t cs)),Z (.ot (encM (ZaG wf cb L M))),p4,p5]:HM.Env).all (λq=>!Zbc q)=ZFt then _ else _)=_;rw[if_pos a2];rfl
 unfold Zbu newOf;rw[if_pos (show([PyData.dict (Zh (Zq wf L)),PyData.dict (Zh (encM M)),fnD t cs]:List D).length=3 from rfl)];show(match ZU 3 fDt [Z (.pl (.dict (Zh (Zq wf L)))),Z (.pl (.dict (Zh (encM M)))),Z (.pl (fnD t cs)),Z_,Z_,Z_]with | some (.nx r')=>Zlm (Zfj 0 (ZaS 4 (Za0 0) (Zae ap))) (Zpw 3) r' | _=>Z_)=_;show Zlm (Zfj 0 (ZaS 4 (Za0 0) (Zae ap))) (Zpw 3) [Z (.pl (.dict (Zh (Zq wf L)))),Z (.pl (.dict (Zh (encM M)))),Z (.pl (fnD t cs)),Z (.ot (encM [])),Z_,Z_]=_;unfold Zlm;rw[hh];rfl
end
end HG5
namespace HG5
open PySem HM HG HG4
variable{cb:Cb}{M T:Tb}{wf:Wf}
theorem Zru(ap:AP)(e0 e1 e2 e5 e7:Option B)(v:Int):∀(ms:List (List Int)) (M:Tb) (o:Option B),M.length+ms.length<100000->Zbc o=ZFu ->
  ∃p,Zbc p=ZFu/\ZaO 6 (ZdE ap) (ms.map tupI) [e0,e1,e2,Z (.ot (encM M)),Z (.pl (dI v)),e5,o,e7]=Z (.nx [e0,e1,e2,Z (.ot (encM (Z9 ms v M))),Z (.pl (dI v)),e5,p,e7])
 | [],M,o,_,h=>⟨o,h,rfl⟩
 | c::ms,M,o,hlen,_=>by
  rw[ZAB]at hlen;have hml:(encM M).length<1000000:=by unfold encM; rw[ZAl]; omega
  have hk:ZaT (tupI c)=Z (Z3 c):=Zar c;have hput:=Zi7 M c v;have hpl:=ZkA c v M;have e:ZdE ap [e0,e1,e2,Z (.ot (encM M)),Z (.pl (dI v)),e5,Z (.pl (tupI c)),e7]=Z (.nx [e0,e1,e2,Z (.ot (encM (putD M c v))),Z (.pl (dI v)),e5,Z (.pl (tupI c)),e7]):=by rw[<-hput];simp[ZdE,hk,hml]
  obtain⟨p,hp,ih⟩:=Zru ap e0 e1 e2 e5 e7 v ms (putD M c v) (Z (.pl (tupI c))) (by omega) rfl;refine⟨p,hp,?_⟩;show _=Z (Out.nx [e0,e1,e2,Z (.ot (encM (Z9 ms v (putD M c v)))),Z (.pl (dI v)),e5,p,e7]);rw[ZAt,<-ih];show(match ZdE ap [e0,e1,e2,Z (.ot (encM M)),Z (.pl (dI v)),e5,Z (.pl (tupI c)),e7]with | some (.nx r')=>_ | some (.ct r')=>_ | some (.bk r')=>_ | some (.rt d)=>_ | none=>_)=_;rw[e]
theorem ZjR(T:Tb):((encM T).map λp=>ZAU (p.1.map ZaV))=(T.map (·.1)).map tupI:=by unfold encM;rw[ZAI,ZAI];refine ZBL λp _=>?_;show ZAU ((p.1.map ZCf).map ZaV)=ZAU (p.1.map dI);rw[ZAI];rfl
def NdT(T:Tb):Prop:=(T.map (·.1)).Nodup
theorem Zro(h:NdT T){p:List Int × Int}(hp:p∈T):Zi T p.1=Z p.2:=by
 induction T with
 | nil=>simp at hp
 | cons q T ih =>
  obtain⟨c,k⟩:=q;rw[Zbr];unfold NdT at h;rw[ZAt,ZBf]at h;rcases ZAy.mp hp with e | e
  ·subst e; rw[if_pos rfl]
  ·rw[if_neg λz=>h.1 (by rw[z]; exact ZAv.mpr ⟨p,e,rfl⟩)]
   exact ih h.2 e
theorem Zxi:∀{L:List (List Int)},L.Nodup->NdT (ZaG wf cb L M):=by
 intro L h;unfold NdT;have:((ZaG wf cb L M).map (·.1)).Sublist L:=by
  unfold ZaG;rw[List.map_filterMap]
  clear h
  induction L with
  | nil=>exact .slnil
  | cons c L ih =>
   rw[ZBK];cases Zw M c with
   | true=>exact ih.cons c
   | false=>cases Za7 cb (wf c) M with
    | none=>exact ih.cons c
    | some k=>exact ih.cons₂ c
 exact h.sublist this
theorem ZrI{L:List (List Int)}:(ZaG wf cb L M).length<=L.length:=ZEK ..
section
variable{T:Tb}(hT:NdT T)(hl:T.length<100000)
include hT hl
theorem ZtP(r:HM.Env)(h7:r[7]?=Z (Z (.hd (Zh (encM T))))):ZF (Za0 7) ZE (Z5 (Ze 8) (Zb 0)) r=Z (.ol ((T.map (·.2)).map dI)):=by
 have hw:Za0 7 r=Z ((T.map (·.1)).map tupI):=by unfold Za0;rw[h7];show(ZfD (Zh (encM T))).map _=_;rw[dec_enc,<-ZjR T];rfl
 have hg:Zak ZE (Z5 (Ze 8) (Zb 0)) r ((T.map (·.1)).map tupI)=Z ((T.map (·.2)).map dI):=by rw[ZAI,ZAI];have:=ZaF (e:=Z5 (Ze 8) (Zb 0)) (r:=r) (λp:List Int × Int=>tupI p.1) (λp=>dI p.2) T (λp hp=>by have hk:ZaT (tupI p.1)=Z (Z3 p.1):=Zar p.1;have hlk:=ZbY T p.1;rw[Zro hT hp]at hlk;simp[h7,dec_enc,hk,hlk]);exact this
 unfold ZF;rw[hw];dsimp only;rw[if_pos (by rw[ZAl,ZAl]; show _<1000000; omega),hg];rfl
theorem ZtQ{k:Option Int}(r:HM.Env)(h7:r[7]?=Z (Z (.hd (Zh (encM T)))))(h4:r[4]?=Z (Z (.pl (oI k)))):ZF (Za0 7) (tV (op2 gEq (Z5 (Ze 8) (Zb 0)) (Zb 5))) (Zb 0) r=Z (.ol (((T.filter λp=>Z p.2==k).map (·.1)).map tupI)):=by
 have hw:Za0 7 r=Z ((T.map (·.1)).map tupI):=by unfold Za0;rw[h7];show(ZfD (Zh (encM T))).map _=_;rw[dec_enc,<-ZjR T];rfl
 have hg:Zak (tV (op2 gEq (Z5 (Ze 8) (Zb 0)) (Zb 5))) (Zb 0) r ((T.map (·.1)).map tupI)=Z (((T.filter λp=>Z p.2==k).map (·.1)).map tupI):=by
  rw[ZAI,ZAI];have:=Zbz (c:=tV (op2 gEq (Z5 (Ze 8) (Zb 0)) (Zb 5))) (e:=Zb 0) (r:=r) (λp:List Int × Int=>tupI p.1) (λp=>Z p.2==k) (λp=>tupI p.1) T (λp hp=>by
   have hk:ZaT (tupI p.1)=Z (Z3 p.1):=Zar p.1;have hlk:=ZbY T p.1;rw[Zro hT hp]at hlk;have h1:Z5 (Ze 8) (Zb 0) (Z (.pl (tupI p.1))::r)=Z (.int p.2):=by simp[h7,dec_enc,hk,hlk]
   have h2:Zb 5 (Z (B.pl (tupI p.1))::r)=Z (oI k):=by simp[h4]
   unfold tV op2;rw[h1,h2];cases k with
   | none=>show(match gEq (.int p.2) .none with | some (.bool b)=>Z b | _=>Z_)=_;rw[Zf1 (Zcn 1 _) (ZwU 1) (by decide) (by decide) (by simp)];rfl
   | some k =>
    show(match gEq (.int p.2) (.int k)with | some (.bool b)=>Z b | _=>Z_)=_
    by_cases e:p.2=k
    ·rw[e,Zez (Zcn 1 _) (by decide)]
     simp
    ·rw[Zf1 (Zcn 1 _) (Zcn 1 _) (by decide) (by decide) (by simpa using e)]
     simp[e]) (λp _ _=>by simp)
  exact this
 unfold ZF;rw[hw];dsimp only;rw[if_pos (by rw[ZAl,ZAl]; show _<1000000; omega),hg];rfl
end
section
variable{w:Wk}(hv:Wk.V w){ap:AP}{wf:Wf}{L:List (List Int)}{t:Nat}{cs:List D}{cb:Cb}(hnd:L.Nodup)(hlen:L.length<=128)(hcr:∀c∈L,Cr w.many c)(hys:∀c∈L,(wf c).length<1000)(ha:∀c∈L,∀y∈wf c,∀M,ap t cs [wyD y,.dict (Zh (encM M))]=Z (oI (cb y M)))
include hnd hlen hys ha
theorem ZsC{k:Int}{found:List (List Int)}{o6 o7:Option B}(h6:Zbc o6=ZFu)(h7:Zbc o7=ZFu)(hf:found.length<=128)(hM:M.length<50000) :
  ∃p6 p7,Zbc p6=ZFu/\Zbc p7=ZFu/\ZdF ap [Z (.pl w.d),Z (.pl (.dict (Zh (Zq wf L)))),Z (.pl (fnD t cs)),Z (.ot (encM M)),Z (.pl (dI k)),Z (.ol (found.map tupI)),o6,o7] =
   Z (.nx [Z (.pl w.d),Z (.pl (.dict (Zh (Zq wf L)))),Z (.pl (fnD t cs)),Z (.ot (encM (Z9 found k M))),Z (.pl (oI (ZbR (ZaG wf cb L (Z9 found k M))))),Z (.ol ((Zgf (ZaG wf cb L (Z9 found k M))).map tupI)),p6,p7]):=by
 obtain⟨p6,hp6,e1⟩:=Zru ap (Z (.pl w.d)) (Z (.pl (.dict (Zh (Zq wf L))))) (Z (.pl (fnD t cs))) (Z (.pl (.list (found.map tupI)))) o7 k found M o6 (by omega) h6;generalize hM':Z9 found k M=M' at *;have hnx:=ZnZ hnd hlen hys ha M';have hT:NdT (ZaG wf cb L M'):=Zxi hnd;have hTl:(ZaG wf cb L M').length<100000:=by have:=ZrI (wf:=wf) (cb:=cb) (L:=L) (M:=M'); omega
 generalize hO:ZaG wf cb L M'=T at *;refine⟨p6,Z (.pl (.dict (Zh (encM T)))),hp6,rfl,?_⟩;unfold ZdF;refine ZH (P:=λq=>q=_) (r':=[Z (.pl w.d),Z (.pl (.dict (Zh (Zq wf L)))),Z (.pl (fnD t cs)),Z (.ot (encM M')),Z (.pl (dI k)),Z (.pl (.list (found.map tupI))),p6,o7]) ?_ ?_
 ·unfold Zd5 Zmd ZaS
  have hfb:found.length<1000000:=by omega
  simp[hfb];exact e1
 ·refine ZH (P:=λq=>q=_) (r':=[Z (.pl w.d),Z (.pl (.dict (Zh (Zq wf L)))),Z (.pl (fnD t cs)),Z (.ot (encM M')),Z (.pl (dI k)),Z (.pl (.list (found.map tupI))),p6,Z (.ot (encM T))]) ?_ ?_
  ·have hcl:Zj6 (Zbu ap) (Za (Zb 1) (Za (ZiO (Ze 3)) (Za (Zb 2) Zk))) [Z (.pl w.d),Z (.pl (.dict (Zh (Zq wf L)))),Z (.pl (fnD t cs)),Z (.ot (encM M')),Z (.pl (dI k)),Z (.pl (.list (found.map tupI))),p6,o7]=Z (.ot (encM T)):=by
    unfold Zj6;show(match Zbu ap [.dict (Zh (Zq wf L)),.dict (Zh (encM M')),fnD t cs]with | some kvs=>if kvs.all (λp=>ZlW p.2)then Z (B.ot kvs)else Z_ | none=>Z_)=_;rw[hnx];have hfl:(encM T).all (λp=>ZlW p.2)=ZFt:=by unfold encM;rw[List.all_map];exact ZAF.mpr λp _=>rfl
    dsimp only;rw[if_pos hfl]
   unfold ZU;rw[hcl];rfl
  ·have a1:∀x4 x5:D,([Z (B.pl w.d),Z (.pl (.dict (Zh (Zq wf L)))),Z (.pl (fnD t cs)),Z (.ot (encM M')),Z (.pl x4),Z (.pl x5),p6,Z (.pl (.dict (Zh (encM T))))]:HM.Env).all (λq=>!Zbc q)=ZFt:=λx4 x5=>by
    simp only[ZBA,ZEJ,hp6];rfl
   have a2:∀x4:D,∀x5:B,Zbc (Z x5)=ZFu->([Z (B.pl w.d),Z (.pl (.dict (Zh (Zq wf L)))),Z (.pl (fnD t cs)),Z (.ot (encM M')),Z (.pl x4),Z x5,p6,Z_]:HM.Env).all (λq=>!Zbc q)=ZFt:=λx4 x5 hx=>by simp only[ZBA,ZEJ,hp6,hx];rfl
   have hv1:=ZtP hT hTl [Z (.pl w.d),Z (.pl (.dict (Zh (Zq wf L)))),Z (.pl (fnD t cs)),Z (.ot (encM M')),Z (.pl (dI k)),Z (.pl (.list (found.map tupI))),p6,Z (.hd (Zh (encM T)))] rfl;have hm1:Z0 4 (Zgw (ZF (Za0 7) ZE (Z5 (Ze 8) (Zb 0)))) [Z (.pl w.d),Z (.pl (.dict (Zh (Zq wf L)))),Z (.pl (fnD t cs)),Z (.ot (encM M')),Z (.pl (dI k)),Z (.pl (.list (found.map tupI))),p6,Z (.hd (Zh (encM T)))]=Z (.nx [Z (.pl w.d),Z (.pl (.dict (Zh (Zq wf L)))),Z (.pl (fnD t cs)),Z (.ot (encM M')),Z (.pl (oI (ZbR T))),Z (.pl (.list (found.map tupI))),p6,Z (.hd (Zh (encM T)))]):=by
    have:Zgw (ZF (Za0 7) ZE (Z5 (Ze 8) (Zb 0))) [Z (.pl w.d),Z (.pl (.dict (Zh (Zq wf L)))),Z (.pl (fnD t cs)),Z (.ot (encM M')),Z (.pl (dI k)),Z (.pl (.list (found.map tupI))),p6,Z (.hd (Zh (encM T)))]=Z (oI (ZbR T)):=by unfold Zgw;rw[hv1];show(match Zax ((T.map (·.2)).map dI)with | some ns=>Z (match ns.min? with | some i=>ZA2 i | none=>.none) | none=>Z_)=_;rw[Zby];show Z (match(T.map (·.2)).min? with | some i=>ZA2 i | none=>.none)=_;unfold ZbR;cases(T.map (·.2)).min?<;>rfl
    unfold Z0;rw[this];rfl
   refine ZH (P:=λq=>q=_) (r':=[Z (.pl w.d),Z (.pl (.dict (Zh (Zq wf L)))),Z (.pl (fnD t cs)),Z (.ot (encM M')),Z (.pl (oI (ZbR T))),Z (.pl (.list (found.map tupI))),p6,Z (.pl (.dict (Zh (encM T))))]) ?_ ?_
   ·show(if([Z (B.pl w.d),Z (.pl (.dict (Zh (Zq wf L)))),Z (.pl (fnD t cs)),Z (.ot (encM M')),Z (.pl (dI k)),Z (.pl (.list (found.map tupI))),p6,Z (.pl (.dict (Zh (encM T))))]:HM.Env).all (λq=>!Zbc q)=ZFt then _ else _)=_
    rw[if_pos (a1 _ _)];show(match Z0 4 _ [Z (.pl w.d),Z (.pl (.dict (Zh (Zq wf L)))),Z (.pl (fnD t cs)),Z (.ot (encM M')),Z (.pl (dI k)),Z (.pl (.list (found.map tupI))),p6,Z (.hd (Zh (encM T)))]with | some (.nx r')=>_ | some (.rt d)=>_ | _=>Z_)=_;rw[hm1];show(if([Z (B.pl w.d),Z (.pl (.dict (Zh (Zq wf L)))),Z (.pl (fnD t cs)),Z (.ot (encM M')),Z (.pl (oI (ZbR T))),Z (.pl (.list (found.map tupI))),p6,Z_]:HM.Env).all (λq=>!Zbc q)=ZFt then _ else _)=_;rw[if_pos (a2 _ _ rfl)];rfl
   ·have hk1:=ZtQ hT hTl (k:=ZbR T) [Z (.pl w.d),Z (.pl (.dict (Zh (Zq wf L)))),Z (.pl (fnD t cs)),Z (.ot (encM M')),Z (.pl (oI (ZbR T))),Z (.pl (.list (found.map tupI))),p6,Z (.hd (Zh (encM T)))] rfl rfl
    have hm2:ZU 5 (ZF (Za0 7) (tV (op2 gEq (Z5 (Ze 8) (Zb 0)) (Zb 5))) (Zb 0)) [Z (.pl w.d),Z (.pl (.dict (Zh (Zq wf L)))),Z (.pl (fnD t cs)),Z (.ot (encM M')),Z (.pl (oI (ZbR T))),Z (.pl (.list (found.map tupI))),p6,Z (.hd (Zh (encM T)))]=Z (.nx [Z (.pl w.d),Z (.pl (.dict (Zh (Zq wf L)))),Z (.pl (fnD t cs)),Z (.ot (encM M')),Z (.pl (oI (ZbR T))),Z (.ol ((Zgf T).map tupI)),p6,Z (.hd (Zh (encM T)))]):=by unfold ZU;rw[hk1];rfl
    show(if([Z (B.pl w.d),Z (.pl (.dict (Zh (Zq wf L)))),Z (.pl (fnD t cs)),Z (.ot (encM M')),Z (.pl (oI (ZbR T))),Z (.pl (.list (found.map tupI))),p6,Z (.pl (.dict (Zh (encM T))))]:HM.Env).all (λq=>!Zbc q)=ZFt then _ else _)=_;rw[if_pos (a1 _ _)];show(match ZU 5 _ [Z (.pl w.d),Z (.pl (.dict (Zh (Zq wf L)))),Z (.pl (fnD t cs)),Z (.ot (encM M')),Z (.pl (oI (ZbR T))),Z (.pl (.list (found.map tupI))),p6,Z (.hd (Zh (encM T)))]with | some (.nx r')=>_ | some (.rt d)=>_ | _=>Z_)=_;rw[hm2];show(if([Z (B.pl w.d),Z (.pl (.dict (Zh (Zq wf L)))),Z (.pl (fnD t cs)),Z (.ot (encM M')),Z (.pl (oI (ZbR T))),Z (.ol ((Zgf T).map tupI)),p6,Z_]:HM.Env).all (λq=>!Zbc q)=ZFt then _ else _)=_;rw[if_pos (a2 _ _ rfl)];rfl
omit hnd hlen hys ha in
theorem Zqr{c:List Int}(h:c∈Zgf (ZaG wf cb L M)):c∈L/\Zw M c=ZFu:=by obtain⟨⟨c',k⟩,h1,rfl⟩:=ZAv.mp h;have:=Zib.mp (ZAY.mp h1).1;exact⟨this.1,this.2.1⟩
omit hnd hlen hys ha in
theorem Zth(h:Zgf T≠[]):∃k,ZbR T=Z k:=by
 cases hq:ZbR T with
 | some k=>exact⟨k,rfl⟩
 | none=>refine absurd ?_ h;unfold ZbR at hq;rw[ZCE]at hq;have:=ZD7.mp hq;subst this;rfl
theorem ZjP:∀(fuel n:Nat) (M:Tb) (k:Option Int) (found:List (List Int)) (o6 o7:Option B),Zbc o6=ZFu->Zbc o7=ZFu->(∀c∈found,c∈L/\Zw M c=ZFu)->found.length<=128->M.length<=128*n->n<=(L.filter λc=>Zw M c).length->130<=n+fuel->(found≠[]->∃i,k=Z i) ->
  ∃R p4 p5 p6 p7,ZaY (tV (op2 gGt (Z6 (Ze 5)) (eC (.int 0)))) (ZdF ap) fuel [Z (.pl w.d),Z (.pl (.dict (Zh (Zq wf L)))),Z (.pl (fnD t cs)),Z (.ot (encM M)),Z (.pl (oI k)),Z (.ol (found.map tupI)),o6,o7]=Z (.nx [Z (.pl w.d),Z (.pl (.dict (Zh (Zq wf L)))),Z (.pl (fnD t cs)),Z (.ot (encM R)),p4,p5,p6,p7])/\Zj1 wf cb L M k found R
 | 0,n,M,k,found,o6,o7,_,_,_,_,_,ht,hfu,_=>by have:=ZA1 (λc=>Zw M c) L;omega
 | fuel+1,n,M,k,found,o6,o7,h6,h7,hfo,hfl,hM,ht,hfu,hks=>by
  have htl:=ZA1 (λc=>Zw M c) L
  by_cases hf:found=[]
  ·subst hf
   refine⟨M,Z (.pl (oI k)),Z (.ol []),o6,o7,?_,.done⟩;unfold ZaY;have e:(tV (op2 gGt (Z6 (Ze 5)) (eC (.int 0)))) [Z (.pl w.d),Z (.pl (.dict (Zh (Zq wf L)))),Z (.pl (fnD t cs)),Z (.ot (encM M)),Z (.pl (oI k)),Z (.ol (([]:List (List Int)).map tupI)),o6,o7]=Z ZFu:=by simp
   rw[e];rfl
  ·obtain⟨i,rfl⟩:=hks hf
   have e:(tV (op2 gGt (Z6 (Ze 5)) (eC (.int 0)))) [Z (.pl w.d),Z (.pl (.dict (Zh (Zq wf L)))),Z (.pl (fnD t cs)),Z (.ot (encM M)),Z (.pl (oI (Z i))),Z (.ol (found.map tupI)),o6,o7]=Z ZFt:=by have:0<found.length:=ZD6.mpr hf;simp;omega
   obtain⟨p6,p7,g6,g7,ht1⟩:=ZsC hnd hlen hys ha (w:=w) (M:=M) (k:=i) (found:=found) h6 h7 hfl (by omega);have hml:(Z9 found i M).length<=M.length+found.length:=ZjX i found M;have hlk:∀k,Zi (Z9 found i M) k=if k∈found then Z i else Zi M k:=λk=>Zf3 i k found M
   have hcnt:(L.filter λc=>Zw M c).length<(L.filter λc=>Zw (Z9 found i M) c).length:=by
    refine Zgl (λx _ hx=>?_) ?_
    ·unfold Zw at hx ⊢
     rw[hlk];split
     ·rfl
     ·exact hx
    ·obtain⟨c,cs,rfl⟩:=List.exists_cons_of_ne_nil hf
     refine⟨c,(hfo c (ZAp ..)).1,?_,(hfo c (ZAp ..)).2⟩;unfold Zw;rw[hlk,if_pos (ZAp ..)];rfl
   have hol:(Zgf (ZaG wf cb L (Z9 found i M))).length<=128:=by
    have h1:(Zgf (ZaG wf cb L (Z9 found i M))).length<=(ZaG wf cb L (Z9 found i M)).length:=by unfold Zgf;rw[ZAl];exact ZA1 ..
    have h2:=ZrI (wf:=wf) (cb:=cb) (L:=L) (M:=Z9 found i M);omega
   obtain⟨R,q4,q5,q6,q7,g,J⟩:=ZjP fuel (n+1) (Z9 found i M) (ZbR (ZaG wf cb L (Z9 found i M))) (Zgf (ZaG wf cb L (Z9 found i M))) p6 p7 g6 g7 (λc hc=>Zqr hc) hol (by omega) (by omega) (by omega) Zth;refine⟨R,q4,q5,q6,q7,?_,.step hf J⟩;unfold ZaY;rw[e];dsimp only;show(match ZdF ap [Z (.pl w.d),Z (.pl (.dict (Zh (Zq wf L)))),Z (.pl (fnD t cs)),Z (.ot (encM M)),Z (.pl (dI i)),Z (.ol (found.map tupI)),o6,o7]with | some (.nx r')=>_ | some (.ct r')=>_ | some (.bk r')=>_ | some (.rt d)=>_ | none=>_)=_;rw[ht1];exact g
include hv hcr
theorem Zq7:∃R,ZfH ap [w.d,.dict (Zh (Zq wf L)),fnD t cs]=Z (.dict (Zh (encM R)))/\Zj1 wf cb L [] (Z 0) (L.filter λc=>Zaq w c) R:=by
 have hlb:L.length<1000000:=by omega
 have hfl:(L.filter λc=>Zaq w c).length<=128:=ZBm (ZA1 _ _) hlen;obtain⟨R,p4,p5,p6,p7,g,J⟩:=ZjP hnd hlen hys ha (w:=w) 100000 0 [] (Z 0) (L.filter λc=>Zaq w c) Z_ Z_ rfl rfl (λc hc=>⟨(ZAY.mp hc).1,rfl⟩) hfl (by simp) (ZCa _) (by omega) λ_=>⟨0,rfl⟩;refine⟨R,?_,J⟩;have hw:Za0 1 [Z (.pl w.d),Z (.hd (Zh (Zq wf L))),Z (.pl (fnD t cs)),Z (.ot (encM [])),Z (.pl (dI 0)),Z_,Z_,Z_]=Z (L.map tupI):=by show(ZfD (Zh (Zq wf L))).map _=_;rw[dec_enc,<-Zm6 wf L];rfl
 have hgo:∀r:HM.Env,r[0]?=Z (Z (.pl w.d))->Zak (tV (Zn ZbX (Za (Zb 1) (Za (Zb 0) Zk)))) (Zb 0) r (L.map tupI)=Z ((L.filter λc=>Zaq w c).map tupI):=λr r0=>by
  rw[Zbz tupI (λc=>Zaq w c) tupI]
  ·intro c hc
   have:=Zrc (w:=w) (c:=c) (by have:=(hcr c hc).len; have:=hv.m2; omega);simp[r0,this]
  ·intro c _ _
   simp
 have hc:ZF (Za0 1) (tV (Zn ZbX (Za (Zb 1) (Za (Zb 0) Zk)))) (Zb 0) [Z (.pl w.d),Z (.hd (Zh (Zq wf L))),Z (.pl (fnD t cs)),Z (.ot (encM [])),Z (.pl (dI 0)),Z_,Z_,Z_]=Z (.ol ((L.filter λc=>Zaq w c).map tupI)):=by unfold ZF;rw[hw];dsimp only;rw[if_pos (by rw[ZAl]; exact hlb),hgo _ rfl];rfl
 have hh:Zfj 1 (ZU 5 (ZF (Za0 1) (tV (Zn ZbX (Za (Zb 1) (Za (Zb 0) Zk)))) (Zb 0))) [Z (.pl w.d),Z (.pl (.dict (Zh (Zq wf L)))),Z (.pl (fnD t cs)),Z (.ot (encM [])),Z (.pl (dI 0)),Z_,Z_,Z_]=Z (.nx [Z (.pl w.d),Z (.pl (.dict (Zh (Zq wf L)))),Z (.pl (fnD t cs)),Z (.ot (encM [])),Z (.pl (dI 0)),Z (.ol ((L.filter λc=>Zaq w c).map tupI)),Z_,Z_]):=by show(match ZU 5 _ [Z (.pl w.d),Z (.hd (Zh (Zq wf L))),Z (.pl (fnD t cs)),Z (.ot (encM [])),Z (.pl (dI 0)),Z_,Z_,Z_]with | some (.nx r')=>_ | some (.rt d)=>_ | _=>Z_)=_;unfold ZU;rw[hc];rfl
 show ZM (ZfG ap [Z (.pl w.d),Z (.pl (.dict (Zh (Zq wf L)))),Z (.pl (fnD t cs)),Z_,Z_,Z_,Z_,Z_])=_;have e:ZfG ap [Z (.pl w.d),Z (.pl (.dict (Zh (Zq wf L)))),Z (.pl (fnD t cs)),Z_,Z_,Z_,Z_,Z_]=Z (.rt (.dict (Zh (encM R)))):=by unfold ZfG;refine ZH (P:=λq=>q=_) (r':=[Z (.pl w.d),Z (.pl (.dict (Zh (Zq wf L)))),Z (.pl (fnD t cs)),Z (.ot (encM [])),Z_,Z_,Z_,Z_]) rfl ?_;refine ZH (P:=λq=>q=_) (r':=[Z (.pl w.d),Z (.pl (.dict (Zh (Zq wf L)))),Z (.pl (fnD t cs)),Z (.ot (encM [])),Z (.pl (dI 0)),Z_,Z_,Z_]) rfl ?_;refine ZH (P:=λq=>q=_) hh ?_;refine ZH (P:=λq=>q=_) g ?_;simp
 rw[e];rfl
end
end HG5
namespace HG5
open PySem HM HG
end HG5
namespace HG5
open PySem HM HG HG4
def Zyj(w:Wk)(ls c:List Int)(d:Int):Wy:=(dI d,ZC w ls (Zat w c d))
def wfV(w:Wk)(ls:List Int):Wf:=λc=>(doV w c).map (Zyj w ls c)
abbrev ZAk(w:Wk)(ls:List Int)(L:List (List Int)):List (List Ky × D):=Zq (wfV w ls) L
theorem Zz8(w:Wk)(ls c:List Int)(d:Int):wyP (Zyj w ls c d)=Z4 w ls (Zat w c d):=rfl
abbrev OkC(w:Wk)(c:List Int):Prop:=Cr w.many c/\c≠[]
def ZbS(ps:List (List Int))(M:Tb):Option Int:=if ps.all (Zw M)then(ps.filterMap λp=>Zi M p).max? else Z_
def cbD:Cb:=λy M=>(ZbS (wyP y) M).map (·+1)
theorem Zjh{α β:Type}{f:α->Option β}:∀{xs:List α},((xs.filterMap f).length=xs.length↔xs.all (λx=>(f x).isSome)=ZFt)
 | []=>by simp
 | x::xs=>by
  have ih:=Zjh (f:=f) (xs:=xs);have hl:(xs.filterMap f).length<=xs.length:=ZEK f xs;rw[ZBK,ZBA];cases h:f x with
  | none=>simp; omega
  | some y=>simpa using ih
theorem Zly{g:Gs}(hg:g.length<1000)(h0:g≠[]){M:Tb}:Zbx [.list (g.map ZK),.dict (Zh (encM M))]=Z (oI (ZbS (g.map (·.2)) M)):=by
 have hci:=ZjN g (by omega);have hlen:((g.map (·.2)).map tupI).length<big:=by rw[ZAl,ZAl]; show _<1000000; omega
 have h1:ZJ (bOf (Zn Zao (Za (Zb 0) Zk))) [Z (.pl (.list (g.map ZK))),Z (.pl (.dict (Zh (encM M)))),Z_]=Z ((g.map (·.2)).map tupI):=by unfold ZJ bOf;show(match ZCo B.pl (Zao [.list (g.map ZK)])with | some x=>ZcM x | none=>Z_)=_;rw[hci];rfl
 have h2:Zak (tV (Zps (Zb 0) (Ze 2))) (Z5 (Ze 2) (Zb 0)) [Z (.pl (.list (g.map ZK))),Z (.pl (.dict (Zh (encM M)))),Z_] ((g.map (·.2)).map tupI)=Z (((g.map (·.2)).filterMap λp=>Zi M p).map dI):=by
  rw[Zbz tupI (Zw M) (λp=>dI ((Zi M p).getD 0))]
  ·congr 1
   generalize g.map (·.2)=ps
   induction ps with
   | nil=>rfl
   | cons p ps ih =>
    rw[ZBC,ZBK];unfold Zw at ih ⊢;cases hq:Zi M p with
    | none=>rw[if_neg (by simp)]; exact ih
    | some k=>rw[if_pos (by rfl),ZAt,ZAt,ih,hq]; rfl
  ·intro p _
   have hk:ZaT (tupI p)=Z (Z3 p):=Zar p;simp[dec_enc,hk,ZbY,Zw]
  ·intro p _ hp
   have hk:ZaT (tupI p)=Z (Z3 p):=Zar p;unfold Zw at hp;obtain⟨k,hk'⟩:=ZAX.mp hp;have hlk:=ZbY M p;rw[hk']at hlk;simp[dec_enc,hk,hlk,hk']
 have hfl:=Zjh (f:=λp=>Zi M p) (xs:=g.map (·.2));rw[ZAl]at hfl;have hall:(g.map (·.2)).all (λx=>(Zi M x).isSome)=(g.map (·.2)).all (Zw M):=rfl;rw[hall]at hfl;generalize hN:(g.map (·.2)).filterMap (λp=>Zi M p)=ns at *;show ZM (Zeq [Z (.pl (.list (g.map ZK))),Z (.pl (.dict (Zh (encM M)))),Z_])=_;unfold Zeq;refine ZH (P:=λq=>ZM q=_) (r':=[Z (.pl (.list (g.map ZK))),Z (.pl (.dict (Zh (encM M)))),Z (.ol (ns.map dI))]) ?_ ?_
 ·unfold ZU ZF
  rw[h1];dsimp only;rw[if_pos hlen,h2];rfl
 ·have h3:op2 gEq (Z6 (Ze 2)) (Z6 (Ze 0)) [Z (.pl (.list (g.map ZK))),Z (.pl (.dict (Zh (encM M)))),Z (.ol (ns.map dI))]=Z (.bool (decide (ns.length=g.length))):=by
   show gEq (.int ((ns.map dI).length:Int)) (.int ((g.map ZK).length:Int))=_;rw[ZAl,ZAl]
   by_cases e:ns.length=g.length
   ·rw[e,Zez (Zcn 1 _) (by decide)]
    simp
   ·rw[Zf1 (Zcn 1 _) (Zcn 1 _) (by decide) (by decide) (λz=>e (by injection z with z; omega))]
    simp[e]
  have h4:Zd0 (Ze 2) [Z (.pl (.list (g.map ZK))),Z (.pl (.dict (Zh (encM M)))),Z (.ol (ns.map dI))]=ns.max?.map λi=>ZA2 i:=by show(match Zax (ns.map dI)with | some ns=>ns.max?.map λi=>ZA2 i | none=>Z_)=_;rw[Zby]
  unfold ZD eIf tV;rw[h3];unfold ZbS;rw[hN]
  by_cases e:ns.length=g.length
  ·rw[if_pos (hfl.mp e),decide_eq_true e]
   show ZM (ZCo Out.rt (Zd0 (Ze 2) _))=_;rw[h4];have hne:ns≠[]:=λz=>by rw[z]at e;exact h0 (ZCs e.symm)
   cases hq:ns.max? with
   | none=>rw[ZDU]at hq; exact absurd hq hne
   | some m=>rfl
  ·rw[if_neg λz=>e (hfl.mpr z),decide_eq_false e]
   rfl
def ZAi(w:Wk)(ls:List Int)(L:List (List Int))(M:Tb):Prop:=∃t,ZzE w ls L t M/\ZyK w ls L M=[]
end HG5
namespace HG5
open PySem HM HG HG4
def ZAh(w:Wk)(ls:List Int)(P:List (List Int))(d:D):Prop:=(∃n:Nat,d=.int n/\(∀p∈P,Win w ls n p=ZFt)/\∀m,m<n->¬∀p∈P,Win w ls m p=ZFt)\/(d=.none/\∀n,¬∀p∈P,Win w ls n p=ZFt)
end HG5
namespace HG6
open PySem HM
open HG
open HG5
def Zhw(ap:AP):SF :=
 (Zr (Z0 3 (Zn (Zbd ap) (Za (Zb 0) (Za (Zb 1) (Za (Zb 2) Zk)))))
  (ZD (eIx (ZF (ZJ (bOf (Zb 0))) (tV (op2 gEq (Zc8 ap 3 (Za (Zb 0) (Za (Zb 2) Zk))) (Zb 4))) (Zb 0)) (eC (.int 0)))))
def ZbB(ap:AP):List D->Option D:=fnOf 3 4 (Zhw ap)
def ZbF(ap:AP):SF :=
 (sIf (tV (op2 gEq (Z5 (Ze 1) (Zb 5)) (eC (.int 0)))) (Zgh 4 (Zb 5) (eC (.tuple [.str (ZAQ "done")]))) (Zgh 4 (Zb 5) (ZgA ap 3 (Za (Zn (ZbB ap) (Za (Z5 (Ze 0) (Zb 5)) (Za (eHd 1) (Za (Zb 2) Zk)))) (Za (ZiO (Ze 4)) Zk)))))
def ZfI(ap:AP):SF :=
 (Zr (ZU 4 fDt)
  (Zr (Zfj 1 (ZaS 5 (Za0 1) (ZbF ap)))
  (Zd5 4 (ZD (Zb 4)))))
def ZfJ(ap:AP):List D->Option D:=fnOf 4 6 (ZfI ap)
def ZrS:SF :=
 (ZD (Z1 (Za2 (ZJ (bOf (Zb 0))) ZE (Zaf (Za (Zb 0) (Za (Z5 (Ze 3) (Zb 1)) Zk))))))
def ZdW:List D->Option D:=fnOf 2 2 ZrS
end HG6
namespace HG6
open PySem HM HG4
open HG
open HG5
theorem ZfE(M:Tb)(c:List Int):Zw M c=ZFt↔c∈M.map (·.1):=by
 unfold Zw
 induction M with
 | nil=>exact⟨λh=>(by cases h),λh=>(by simp at h)⟩
 | cons p M ih =>
  obtain⟨a,b⟩:=p;rw[Zbr,ZAt,ZAy]
  by_cases h:a=c
  ·rw[if_pos h]
   exact⟨λ_=>.inl h.symm,λ_=>rfl⟩
  ·rw[if_neg h,ih]
   exact⟨.inr,λz=>z.elim (λe=>absurd e.symm h) id⟩
theorem Zw4{M:Tb}{c:List Int}{v:Int}(h:c ∉ M.map (·.1)):putD M c v=M++[(c,v)]:=by unfold putD;rw[if_neg];intro z;obtain⟨p,hp,e⟩:=ZDS.mp z;exact h (ZAv.mpr ⟨p,hp,of_decide_eq_true e⟩)
theorem Zo2(t:Int):∀(ms:List (List Int)) (M:Tb),ms.Nodup->(∀c∈ms,c ∉ M.map (·.1))->ms.foldl (λM c=>putD M c t) M=M++ms.map λc=>(c,t)
 | [],M,_,_=>by simp
 | c::ms,M,hn,h=>by
  obtain⟨n1,n2⟩:=ZBf.mp hn;rw[ZBu,Zw4 (h c (ZAp ..)),Zo2 t ms _ n2 λx hx z=>?_]
  ·simp
  ·rw[ZAN]at z
   rcases ZAV.mp z with z | z
   ·exact h x (ZAq _ hx) z
   ·have e:x=c:=by simpa using z
    exact n1 (e▸hx)
end HG6
namespace HG6
open PySem HM HG4
open HG
open HG5
def Z7(f:List Int->D)(C:List (List Int)):List (List Ky × D):=C.map λc=>(Z3 c,f c)
theorem Znc(f:List Int->D)(C:List (List Int))(k:List Int):Zi (Z7 f C) (Z3 k)=if k∈C then Z (f k)else Z_:=by
 unfold Zi Z7
 induction C with
 | nil=>rfl
 | cons c C ih =>
  rw[ZAt,ZBv]
  by_cases h:c=k
  ·subst h
   rw[if_pos (ZAp ..)];simp
  ·have h':decide ((Z3 c,f c).1=Z3 k)=ZFu:=decide_eq_false λe=>h (Zex e)
   rw[h'];dsimp only;rw[ih]
   by_cases q:k∈C
   ·rw[if_pos q,if_pos (ZAq _ q)]
   ·rw[if_neg q,if_neg λz=>by
     rcases ZAy.mp z with e | e
     ·exact h e.symm
     ·exact q e]
theorem Zvp{f:List Int->D}{C:List (List Int)}{k:List Int}(h:k ∉ C):putD (Z7 f C) (Z3 k) (f k)=Z7 f (C++[k]):=by
 unfold putD;rw[if_neg]
 ·unfold Z7
  rw[ZAN];rfl
 ·intro z
  obtain⟨p,hp,e⟩:=ZDS.mp z;unfold Z7 at hp;obtain⟨c,hc,rfl⟩:=ZAv.mp hp;have e:=Zex (of_decide_eq_true e);subst e;exact h hc
abbrev ZbC:D:=.tuple [.str (ZAQ "done")]
abbrev doS:D:=.str (ZAQ "do")
def Zdu(S:List Int->D)(g:Gs):D:=.tuple (g.map λp=>.tuple [tupI p.1,S p.2])
section
variable(M:Tb)(w:Wk)(ls:List Int)
def Zob(c:List Int):Nat:=((Zi M c).getD 0).toNat
end
theorem ZlR:∀(n m:Nat) (d:D),n<=m->ZfS n d=ZFt->ZfS m d=ZFt:=by
 intro n
 induction n with
 | zero=>intro m d h q;cases d<;>first | (cases q; done) | (cases m<;>rfl)
 | succ n ih =>
  intro m d h q;obtain⟨m,rfl⟩:∃k,m=k+1:=⟨m-1,by omega⟩;cases d with
  | tuple ds=>exact ZAF.mpr λx hx=>ih m x (by omega) (ZAF.mp (show ds.all (ZfS n)=ZFt from q) x hx)
  | none=>rfl
  | bool _=>rfl
  | int _=>rfl
  | str _=>rfl
  | _=>cases q
end HG6
namespace HG6
open PySem HM HG4
open HG
open HG5
variable{c:List Int}{M:Tb}
theorem Zw3{k:Int}(h:Zi M c=Z k):(c,k)∈M:=by
 unfold Zi at h;obtain⟨x,hx,e⟩:=ZAn.mp h;have h1:=ZEA hx;have h2:x.1=c:=by simpa using List.find?_some hx
 have:x=(c,k):=by rw[<-h2,<-e]
 rw[<-this];exact h1
theorem Zwt(nd:(M.map (·.1)).Nodup){k:Int}(h:(c,k)∈M):Zi M c=Z k:=by
 induction M with
 | nil=>simp at h
 | cons p M ih =>
  obtain⟨a,b⟩:=p;rw[ZAt]at nd;obtain⟨n1,n2⟩:=ZBf.mp nd;rw[Zbr];rcases ZAy.mp h with e | h
  ·injection e with e1 e2
   rw[if_pos e1.symm,e2]
  ·rw[if_neg λe=>n1 (by rw[show(a,b).1=c from e]; exact ZAv.mpr ⟨_,h,rfl⟩)]
   exact ih n2 h
theorem ZmF(nd:(M.map (·.1)).Nodup)(up:(M.map (·.2)).Pairwise (·<=·)){pre post:List (List Int)}{p:List Int}{k j:Int}(e:M.map (·.1)=pre++c::post)(hk:Zi M c=Z k)(hj:Zi M p=Z j)(hjk:j<k):p∈pre:=by
 obtain⟨A,B,rfl,eA,eB⟩:=List.map_eq_append_iff.mp e;obtain⟨x,B',rfl,ex,eB'⟩:=List.map_eq_cons_iff.mp eB;have hx:Zi (A++x::B') c=Z x.2:=Zwt nd (by rw[<-ex]; exact ZAL _ (ZAp ..));rw[hk]at hx;cases hx;rcases ZAV.mp (Zw3 hj)with h | h
 ·rw[<-eA]
  exact ZAv.mpr ⟨_,h,rfl⟩
 ·rcases ZAy.mp h with h | h
  ·rw[<-h]at hjk
   exact absurd hjk (Int.lt_irrefl _)
  ·rw[ZAN,ZD2]at up
   have h2:=(ZBj.mp (show(x.2::B'.map (·.2)).Pairwise (·<=·) from up.2.1)).1 j (ZAv.mpr ⟨_,h,rfl⟩);omega
theorem ZsJ{S:List Int->D}{P:List (List Int)}{g:Gs}(hg:g.length<1000000)(h:∀p∈g.map (·.2),p∈P):ZdW [.list (g.map ZK),.dict (Zh (Z7 S P))]=Z (Zdu S g):=by
 have e:=ZdQ (c:=ZE) (e:=Zaf (Za (Zb 0) (Za (Z5 (Ze 3) (Zb 1)) Zk))) (r:=[Z (.pl (.list (g.map ZK))),Z (.pl (.dict (Zh (Z7 S P))))]) (λp:List Int × List Int=>tupI p.1) (λp=>tupI p.2) (λ_=>ZFt) (λp=>ZAU [tupI p.1,S p.2]) g (λ_ _=>rfl) (λp hp _=>by have hk:ZaT (tupI p.2)=Z (Z3 p.2):=Zar p.2;have hlk:=Znc S P p.2;rw[if_pos (h p.2 (ZAv.mpr ⟨p,hp,rfl⟩))]at hlk;simp[dec_enc,hk,hlk]);rw[ZBD.mpr λ_ _=>rfl]at e;have hi:ZJ (bOf (Zb 0)) [Z (.pl (.list (g.map ZK))),Z (.pl (.dict (Zh (Z7 S P))))]=Z (g.map ZK):=rfl;show ZM (ZD (Z1 (Za2 (ZJ (bOf (Zb 0))) ZE (Zaf (Za (Zb 0) (Za (Z5 (Ze 3) (Zb 1)) Zk))))) [Z (.pl (.list (g.map ZK))),Z (.pl (.dict (Zh (Z7 S P))))])=_;have hf:Za2 (ZJ (bOf (Zb 0))) ZE (Zaf (Za (Zb 0) (Za (Z5 (Ze 3) (Zb 1)) Zk))) [Z (.pl (.list (g.map ZK))),Z (.pl (.dict (Zh (Z7 S P))))]=Z (.ol (g.map λp=>ZAU [tupI p.1,S p.2])):=by unfold Za2;rw[hi];dsimp only;rw[if_pos (show(g.map ZK).length<big by rw[ZAl]; exact hg)];refine(congrArg (ZCo _) e).trans ?_;rfl
 unfold ZD Z1;rw[hf];rfl
theorem Zq6{ap:AP}{t:Nat}{cs:List D}{cb:Cb}{ys:List Wy}(hy:ys.length<1000)(ha:∀y∈ys,ap t cs [wyD y,.dict (Zh (encM M))]=Z (oI (cb y M))){k:Int}(hk:Za7 cb ys M=Z k){y:Wy}(hf:ys.find? (λy=>cb y M==Z k)=Z y) :
  ZbB ap [.list (ys.map wyD),.dict (Zh (encM M)),fnD t cs]=Z (wyD y):=by
 have h1:=Zji (t:=t) (cs:=cs) hy ha;rw[hk]at h1;have hb:ys.length<big:=by show _<1000000; omega
 show ZM (Zhw ap [Z (.pl (.list (ys.map wyD))),Z (.pl (.dict (Zh (encM M)))),Z (.pl (fnD t cs)),Z_])=_;unfold Zhw;refine ZH (P:=λq=>ZM q=_) (r':=[Z (.pl (.list (ys.map wyD))),Z (.pl (.dict (Zh (encM M)))),Z (.pl (fnD t cs)),Z (.pl (.int k))]) ?_ ?_
 ·have:Zn (Zbd ap) (Za (Zb 0) (Za (Zb 1) (Za (Zb 2) Zk))) [Z (.pl (.list (ys.map wyD))),Z (.pl (.dict (Zh (encM M)))),Z (.pl (fnD t cs)),Z_]=Z (.int k):=h1
  unfold Z0;rw[this];rfl
 ·have e1:Zak (tV (op2 gEq (Zc8 ap 3 (Za (Zb 0) (Za (Zb 2) Zk))) (Zb 4))) (Zb 0) [Z (.pl (.list (ys.map wyD))),Z (.pl (.dict (Zh (encM M)))),Z (.pl (fnD t cs)),Z (.pl (.int k))] (ys.map wyD)=Z ((ys.filter λy=>cb y M==Z k).map wyD):=by
   rw[Zbz wyD (λy=>cb y M==Z k) wyD]
   ·intro y h
    have hc:Zc8 ap 3 (Za (Zb 0) (Za (Zb 2) Zk)) (Z (.pl (wyD y))::[Z (.pl (.list (ys.map wyD))),Z (.pl (.dict (Zh (encM M)))),Z (.pl (fnD t cs)),Z (.pl (.int k))])=Z (oI (cb y M)):=by show(match ZiY (fnD t cs)with | some (t,cs)=>_ | none=>Z_)=_;rw[Zkq];exact ha y h
    unfold tV op2;rw[hc];show(match gEq (oI (cb y M)) (.int k)with | some (.bool b)=>Z b | _=>Z_)=_;cases hq:cb y M with
    | none=>rfl
    | some m =>
     show(match gEq (.int m) (.int k)with | some (.bool b)=>Z b | _=>Z_)=_
     by_cases e:m=k
     ·subst e
      rw[Zez (Zcn 1 _) (by decide)];simp
     ·rw[Zf1 (Zcn 1 _) (Zcn 1 _) (by decide) (by decide) (λz=>e (by injection z))]
      simp[e]
   ·intro y _ _
    rfl
  have e2:ZF (ZJ (bOf (Zb 0))) (tV (op2 gEq (Zc8 ap 3 (Za (Zb 0) (Za (Zb 2) Zk))) (Zb 4))) (Zb 0) [Z (.pl (.list (ys.map wyD))),Z (.pl (.dict (Zh (encM M)))),Z (.pl (fnD t cs)),Z (.pl (.int k))]=Z (.ol ((ys.filter λy=>cb y M==Z k).map wyD)):=by unfold ZF;show(if(ys.map wyD).length<big then _ else Z_)=_;rw[if_pos (by rw[ZAl]; exact hb),e1];rfl
  rw[List.find?_eq_some_iff_append]at hf;obtain⟨hyk,as,bs,rfl,hno⟩:=hf;have hfl:((as++y::bs).filter λy=>cb y M==Z k)=y::bs.filter λy=>cb y M==Z k:=by rw[ZDt,ZE7.mpr (λx hx=>by have:=hno x hx; simpa using this),ZCB,ZBC,if_pos hyk]
  rw[hfl]at e2;have e3:eIx (ZF (ZJ (bOf (Zb 0))) (tV (op2 gEq (Zc8 ap 3 (Za (Zb 0) (Za (Zb 2) Zk))) (Zb 4))) (Zb 0)) (eC (.int 0)) [Z (.pl (.list ((as++y::bs).map wyD))),Z (.pl (.dict (Zh (encM M)))),Z (.pl (fnD t cs)),Z (.pl (.int k))]=Z (wyD y):=by unfold eIx;rw[e2];exact Zcg (ds:=wyD y::(bs.filter λy=>cb y M==Z k).map wyD) (j:=0) rfl
  unfold ZD;rw[e3];rfl
end HG6
namespace HG23
open PySem HM
open HG
open HG4
open HG5
def Zhg:SF :=
 (ZD (ZfF (Zn ZaA (Za (Zb 0) (Za (Zb 1) (Za (Zb 1) Zk)))) (ZiX (ZF (ZJ (bOf (Zb 0))) ZE (Zn ZaJ (Za (Zb 0) (Za (eC (.int 1)) (Za (eC (.int 20)) Zk))))))))
def ZbO:List D->Option D:=fnOf 2 2 Zhg
def Zd1:SF :=
 (Zr (sIf (ZcW (tV (Zn ZaA (Za (Zb 1) (Za (eC (.int 2)) (Za (eC (.int 2)) Zk)))))) Zii Zab)
  (Zr (sIf (tOr (ZcW (tV (Zn ZbO (Za (eIx (Ze 1) (eC (.int 0))) (Za (Z6 (bOf (Zn Za9 (Za (Zb 0) Zk)))) Zk))))) (ZcW (tV (Zn ZbO (Za (eIx (Ze 1) (eC (.int 1))) (Za (Z6 (bOf (Zn Zct (Za (Zb 0) Zk)))) Zk)))))) Zii Zab)
  (ZD (Zb 1))))
def Zcz:List D->Option D:=fnOf 2 2 Zd1
def ZeU:SF :=
 (ZD (eOf (Za2 (ZJ (bOf (Zn Zb4 (Za (Zb 0) (Za (Zaf Zk) (Za (Zb 2) Zk)))))) ZE (Zaf (Za (Zaf (Za (eC (.str (ZAQ "do"))) (Za (Zb 0) (Za (eIx (bOf (eIx (Ze 3) (eC (.int 0)))) (Zb 0)) Zk)))) (Za (Zb 1) Zk))))))
def Zdn:List D->Option D:=fnOf 3 3 ZeU
def ZeV:SF :=
 (Zr (ZU 3 (Za2 (Zn7 (eIx (Ze 1) (eC (.int 1)))) ZE (Zaf (Za (Zaf (Za (eC (.str (ZAQ "look"))) (Za (Zb 0) (Za (Zb 1) Zk)))) (Za (Zn ZbE (Za (Zb 2) (Za (Zaf (Za (Zb 0) Zk)) (Za (Zb 4) Zk)))) Zk)))))
  (Zd5 3 (ZD (eOf (ZF (ZJ (bOf (Zb 3))) (tV (op2 gGt (Z6 (bOf (eIx (Ze 0) (eC (.int 1))))) (eC (.int 1)))) (Zb 0))))))
def Zdo:List D->Option D:=fnOf 3 4 ZeV
def Zh3:SF :=
 (ZD (eOf (ZsT (bOf (Zn Zdn (Za (Zb 0) (Za (Zb 1) (Za (Zb 2) Zk))))) (bOf (Zn Zdo (Za (Zb 0) (Za (Zb 1) (Za (Zb 2) Zk))))))))
def ZaR:List D->Option D:=fnOf 3 3 Zh3
def Zhx:SF :=
 (Zr (Z0 2 (Zn Zbx (Za (eIx (Ze 0) (eC (.int 1))) (Za (Zb 1) Zk))))
  (ZD (eIf (tV (op2 ZiL (Zb 2) (eC .none))) (eC .none) (op2 Zaz (Zb 2) (eIx (bOf (eIx (Ze 0) (eC (.int 0)))) (eC (.int 2)))))))
def Zed:List D->Option D:=fnOf 2 3 Zhx
def ZdG(ap:AP):SF :=
 (ZD (Zi6 (Zck ap) 6 [0,1] (eOf (Zdl (Za (Zn Zcu (Za (Zb 0) Zk)) Zk)))))
def ZbG(ap:AP):List D->Option D:=fnOf 2 2 (ZdG ap)
def Zf8:SF :=
 (Zr (Z0 2 (Z1 (ZF (ZaU (Z6 (bOf (eIx (Ze 0) (eC (.int 1)))))) ZE (op2 Zaz (eC (.int 1)) (Zn ZN (Za (op2 Zaz (Zb 2) (op2 Zcx (eC (.int 37)) (Zb 0))) (Za (eC (.int 9817)) (Za (eC (.int 9)) Zk))))))))
  (Zr (Z0 3 (Z1 (ZF (ZaU (Z6 (bOf (eIx (Ze 0) (eC (.int 2)))))) ZE (op2 Zaz (eC (.int 1)) (Zn ZN (Za (op2 Zaz (op2 Zaz (Zb 2) (op2 Zcx (eC (.int 41)) (Zb 0))) (eC (.int 7))) (Za (eC (.int 9811)) (Za (eC (.int 9)) Zk))))))))
  (ZD (Zaf (Za (Zb 2) (Za (Zb 3) Zk))))))
def Zeg:List D->Option D:=fnOf 2 4 Zf8
def ZeW:SF :=
 (Zr (ZU 7 (Za2 (ZJ (bOf (Zn ZaM (Za (Zb 0) (Za (Zaf (Za (Zb 6) Zk)) (Za (Zb 2) Zk)))))) ZE (Zb 1)))
  (sIf (tV (op2 gGt (Z6 (Ze 7)) (eC (.int 1)))) (Zd5 7 (Zdf 3 (Zaf (Za (eIx (bOf (eIx (Ze 1) (eC (.int 1)))) (Zb 6)) (Za (Zb 7) Zk))))) Zab))
def ZeX:SF :=
 (Zr (Z0 5 (Zn Zbm (Za (Zb 0) (Za (Zb 2) (Za (Zb 4) Zk)))))
  (sIf (tV (op2 Zhp (Zb 5) (eC .none))) (Zdf 3 (Zaf (Za (eIx (bOf (eIx (Ze 1) (eC (.int 0)))) (Zb 4)) (Za (eOf (Zdl (Za (Zb 5) Zk))) Zk)))) Zab))
def Zhy:SF :=
 (Zr (ZU 3 (Zdl Zk))
  (Zr (ZaS 4 (ZaU (Z6 (bOf (eIx (Ze 0) (eC (.int 1)))))) ZeX)
  (Zr (ZaS 6 (ZaU (Z6 (bOf (eIx (Ze 0) (eC (.int 2)))))) ZeW)
  (Zd5 3 (ZD (Zb 3))))))
def Zcv:List D->Option D:=fnOf 3 8 Zhy
def Zeh:SF :=
 (sIf (tV (op2 gEq (eOf (ZF (ZJ (bOf (Zb 5))) (tV (ZbP (Zb 0) (Ze 7))) (Zb 0))) (eOf (Zdl Zk)))) (Zr (Z0 9 (op2 Zaz (Zb 4) (Zd0 (ZF (ZJ (bOf (Zb 5))) ZE (Z5 (Ze 7) (Zb 0))))))
  (sIf (tOr (tV (op2 ZiL (Zb 8) (eC .none))) (tV (op2 gLt (Zb 9) (eIx (Ze 8) (eC (.int 0)))))) (Z0 8 (Zaf (Za (Zb 9) (Za (Zb 7) Zk)))) Zab)) Zab)
def Zc4:SF :=
 (sIf (tV (ZbP (Zb 7) (Ze 6))) (ZiQ 4 5 (ZJ (bOf (Zn Zcv (Za (Zb 0) (Za (Zb 1) (Za (Zb 7) Zk)))))) Zeh) Zab)
def Zbt:SF :=
 (Zr (Z0 8 (eC .none))
  (Zr (Zd5 2 (ZaS 7 (ZJ (bOf (Zb 2))) Zc4))
  (Zr (sIf (tV (op2 ZiL (Zb 8) (eC .none))) (Zd5 6 (ZD (Zb 6))) Zab)
  (Zgh 6 (eIx (Ze 8) (eC (.int 1))) (eIx (Ze 8) (eC (.int 0)))))))
def Zbe:SF :=
 (sIf (tV (Zn Za1 (Za (Zb 0) (Za (Zb 7) Zk)))) (Zgh 6 (Zb 7) (eC (.int 0))) Zab)
def Zf9:SF :=
 (ZU 2 (ZmH (Ze 2) (ZF (ZJ (bOf (Zb 5))) (tV (Zil (Zb 0) (Ze 3))) (Zb 0))))
def Zei:SF :=
 (Zr (ZiQ 4 5 (ZJ (bOf (Zn Zcv (Za (Zb 0) (Za (Zb 1) (Za (eIx (Ze 2) (Zb 3)) Zk)))))) Zf9)
  (Z0 3 (op2 Zaz (Zb 3) (eC (.int 1)))))
def ZgG:SF :=
 (Zr (ZU 2 (Zdl (Za (eIx (Ze 0) (eC (.int 3))) Zk)))
  (Zr (Z0 3 (eC (.int 0)))
  (Zr (Zh9 100000 (tV (op2 gLt (Zb 3) (Z6 (Ze 2)))) Zei)
  (Zr (ZU 6 fDt)
  (Zr (Zd5 2 (ZaS 7 (ZJ (bOf (Zb 2))) Zbe))
  (Zh9 100000 (tV (eC (.bool ZFt))) Zbt))))))
def ZdH:List D->Option D:=fnOf 2 10 ZgG
end HG23
namespace HG23
open PySem HM
open HG
open HG4
open HG5
variable{cb:Cb}{L ps:List (List Int)}{c:List Int}{ys:List Wy}{m n:Nat}{M R:Tb}{wf:Wf}{w:Wk}{y:Wy}
def prY(y:Wy):Int:=match y.1 with
 | .tuple [_,_,.int k]=>k
 | _=>1
def cbP:Cb:=λy M=>(ZbS (wyP y) M).map (·+prY y)
inductive Buy(w:Wk)(wf:Wf):Nat->List Int->Prop where
 | there {n:Nat} {c:List Int} (h:Zaq w c=ZFt):Buy w wf n c
 | way {n k:Nat} {c:List Int} {y:Wy} (hy:y∈wf c) (hk:prY y=(k:Int)) (h1:1<=k) (hp:∀p∈wyP y,Buy w wf n p):Buy w wf (n+k) c
theorem Buy.le(h:Buy w wf n c):∀{m:Nat},n<=m->Buy w wf m c:=by
 induction h with
 | there h=>intro m _; exact .there h
 | @way n k c y hy hk h1 _ ih =>
  intro m hm;have:=Buy.way (n:=m-k) hy hk h1 λp hp=>ih p hp (m:=m-k) (by omega)
  rwa [show m-k+k=m by omega]at this
def Zfe(w:Wk)(wf:Wf)(c:List Int)(n:Nat):Prop:=Buy w wf n c/\∀m,m<n->¬Buy w wf m c
theorem Zfe.unique(h1:Zfe w wf c n)(h2:Zfe w wf c m):n=m:=by
 rcases Nat.lt_trichotomy n m with h | h | h
 ·exact absurd h1.1 (h2.2 n h)
 ·exact h
 ·exact absurd h2.1 (h1.2 m h)
theorem Zfe.min(h1:Zfe w wf c n)(h:Buy w wf m c):n<=m:=by apply ZCO;intro q;exact h1.2 m q h
def Zkz(wf:Wf)(L:List (List Int)):Prop:=∀c∈L,∀y∈wf c,∀p∈wyP y,p∈L
structure Gd(wf:Wf)(L:List (List Int)):Prop where
 cl:Zkz wf L
 ne:∀c∈L,∀y∈wf c,wyP y≠[]
 pr:∀c∈L,∀y∈wf c,∃k:Nat,prY y=(k:Int)/\1<=k
structure ZjT(w:Wk)(wf:Wf)(L:List (List Int))(M:Tb):Prop where
 ok:∀c k,Zi M c=Z k->c∈L/\∃n:Nat,k=(n:Int)/\Zfe w wf c n
 th:∀c∈L,Zaq w c=ZFt->Zw M c=ZFt
theorem Zlu{n:Int}(h0:ps≠[])(h:∀p∈ps,∃k,Zi M p=Z k/\k<=n):∃k,ZbS ps M=Z k/\k<=n:=by
 unfold ZbS;have hall:ps.all (Zw M)=ZFt:=ZAF.mpr λp hp=>by obtain⟨k,hk,_⟩:=h p hp;unfold Zw;rw[hk];rfl
 rw[if_pos hall];cases hm:(ps.filterMap λp=>Zi M p).max? with
 | none=>rw[ZDU]at hm;obtain⟨p,hp⟩:=ZDk _ h0;obtain⟨k,hk,_⟩:=h p hp;have:k∈ps.filterMap λp=>Zi M p:=ZBs.mpr ⟨p,hp,hk⟩;rw[hm]at this;simp at this
 | some k=>refine⟨k,rfl,?_⟩;have hk:=List.max?_mem hm;obtain⟨p,hp,e⟩:=ZBs.mp hk;obtain⟨k',hk',hle⟩:=h p hp;rw[e]at hk';cases hk';exact hle
theorem Zi4{k:Int}(h:ZbS ps M=Z k):(∃p∈ps,Zi M p=Z k)/\∀p∈ps,∃v,Zi M p=Z v/\v<=k:=by
 unfold ZbS at h;split at h
 ·rename_i hall
  have hk:=List.max?_mem h;obtain⟨p,hp,e⟩:=ZBs.mp hk;refine⟨⟨p,hp,e⟩,λq hq=>?_⟩;have:=ZAF.mp hall q hq;unfold Zw at this;obtain⟨v,hv⟩:=ZAX.mp this;refine⟨v,hv,?_⟩;have:=(ZFe.mp h).2;exact this v (ZBs.mpr ⟨q,hq,hv⟩)
 ·cases h
section
variable{w:Wk}{wf:Wf}{L:List (List Int)}(G:Gd wf L){M:Tb}(T:ZjT w wf L M)
include T
theorem ZpI{k:Int}(hc:c∈L)(hy:y∈wf c)(G:Gd wf L)(h:cbP y M=Z k):∃n:Nat,k=(n:Int)/\Buy w wf n c:=by unfold cbP at h;obtain⟨v,hv,rfl⟩:=ZAn.mp h;obtain⟨⟨p,hp,ep⟩,hall⟩:=Zi4 hv;obtain⟨q,hq,h1⟩:=G.pr c hc y hy;obtain⟨_,n,rfl,_⟩:=T.ok p v ep;refine⟨n+q,by rw[hq]; omega,.way hy hq h1 λp' hp'=>?_⟩;obtain⟨v',hv',hle⟩:=hall p' hp';obtain⟨_,n',rfl,hl⟩:=T.ok p' v' hv';exact hl.1.le (by omega)
include G
theorem Zx2{x:List Int}(h:Buy w wf n x):x∈L->Zw M x=ZFu->∃x'∈L,Zw M x'=ZFu/\∃y∈wf x',∃k,cbP y M=Z k/\k<=(n:Int):=by
 induction h with
 | there h=>intro hx hn; rw[T.th _ hx h]at hn; cases hn
 | @way n k c y hy hk h1 hp ih =>
  intro hx hn
  by_cases hall:∀p∈wyP y,Zw M p=ZFt
  ·refine⟨c,hx,hn,y,hy,?_⟩
   obtain⟨v,hv,hle⟩:=Zlu (M:=M) (n:=(n:Int)) (G.ne c hx y hy) λp hp'=>by have:=hall p hp';unfold Zw at this;obtain⟨v,hv⟩:=ZAX.mp this;obtain⟨_,m,rfl,hl⟩:=T.ok p v hv;have:=hl.min (hp p hp');exact⟨_,hv,by omega⟩
   refine⟨v+prY y,by unfold cbP; rw[hv]; rfl,by rw[hk]; omega⟩
  ·obtain⟨p,hp',hn'⟩:∃p∈wyP y,Zw M p=ZFu:=by
    apply Classical.byContradiction;intro z;refine hall λp hp'=>?_;cases q:Zw M p with
    | true=>rfl
    | false=>exact absurd ⟨p,hp',q⟩ z
   obtain⟨x',hx',hn'',y',hy',k',hk',hle⟩:=ih p hp' (G.cl c hx y hy p hp') hn';exact⟨x',hx',hn'',y',hy',k',hk',by omega⟩
theorem Zmh{k:Int}(hc:c∈L)(hn:Zw M c=ZFu)(hy:y∈wf c)(h:cbP y M=Z k)(hmin:∀x∈L,Zw M x=ZFu->∀y∈wf x,∀v,cbP y M=Z v->k<=v):∃n:Nat,k=(n:Int)/\Zfe w wf c n:=by obtain⟨n,rfl,hb⟩:=ZpI T hc hy G h;refine⟨n,rfl,hb,λm hm hb'=>?_⟩;obtain⟨x,hx,hn',y',hy',v,hv,hle⟩:=Zx2 G T hb' hc hn;have:=hmin x hx hn' y' hy' v hv;omega
theorem Zrq(hno:∀x∈L,Zw M x=ZFu->∀y∈wf x,cbP y M=Z_)(hc:c∈L)(hb:Buy w wf n c):Zw M c=ZFt:=by
 cases hn:Zw M c with
 | true=>rfl
 | false=>obtain⟨x,hx,hn',y,hy,v,hv,_⟩:=Zx2 G T hb hc hn;rw[hno x hx hn' y hy]at hv;cases hv
end
theorem Zwd(T:ZjT w wf L M)(hc:c∈L)(h:Zfe w wf c n):ZjT w wf L (putD M c (n:Int)):=by
 refine⟨λx k hk=>?_,λx hx ht=>?_⟩
 ·rw[Zf0]at hk
  split at hk
  ·rename_i e
   cases hk;subst e;exact⟨hc,n,rfl,h⟩
  ·exact T.ok x k hk
 ·unfold Zw
  rw[Zf0];split
  ·rfl
  ·exact T.th x hx ht
structure Zkb(w:Wk)(wf:Wf)(L:List (List Int))(M:Tb):Prop where
 tab:ZjT w wf L M
 all:∀c∈L,∀n,Buy w wf n c->Zw M c=ZFt
theorem Zkb.at_(F:Zkb w wf L M)(hc:c∈L):(∃n:Nat,Zi M c=Z (n:Int)/\Zfe w wf c n)\/(Zi M c=Z_/\∀n,¬Buy w wf n c):=by
 cases hq:Zi M c with
 | some k=>obtain⟨_,n,rfl,h⟩:=F.tab.ok c k hq;exact .inl ⟨n,rfl,h⟩
 | none=>refine .inr ⟨rfl,λn hb=>?_⟩;have:=F.all c hc n hb;unfold Zw at this;rw[hq]at this;cases this
theorem Zgy{k:Int}(h:Za7 cb ys M=Z k):(∃y∈ys,cb y M=Z k)/\∀y∈ys,∀v,cb y M=Z v->k<=v:=by unfold Za7 at h;have h1:=ZEo h;obtain⟨y,hy,e⟩:=ZBs.mp h1;refine⟨⟨y,hy,e⟩,λy' hy' v hv=>?_⟩;exact(ZC7.mp h).2 v (ZBs.mpr ⟨y',hy',hv⟩)
theorem Zl2(h:Za7 cb ys M=Z_):∀y∈ys,cb y M=Z_:=λy hy=>by unfold Za7 at h;rw[ZCE,List.filterMap_eq_nil_iff]at h;exact h y hy
theorem ZrF{k:Int}(h:ZbR (ZaG wf cb L M)=Z k):∀x∈L,Zw M x=ZFu->∀y∈wf x,∀v,cb y M=Z v->k<=v:=λx hx hn y hy v hv=>by
 unfold ZbR at h;have h2:=(ZC7.mp h).2;cases hl:Za7 cb (wf x) M with
 | none=>rw[Zl2 hl y hy]at hv; cases hv
 | some u=>have:=h2 u (ZAv.mpr ⟨(x,u),Zib.mpr ⟨hx,hn,hl⟩,rfl⟩);have:=(Zgy hl).2 y hy v hv;omega
theorem ZvB(G:Gd wf L){k:Option Int}{found:List (List Int)}(r:Zj1 wf cbP L M k found R) :
  (∀c v,Zi M c=Z v->c∈L/\∃n:Nat,v=(n:Int)/\Zfe w wf c n)->(∀c∈L,Zaq w c=ZFt->Zw M c=ZFt\/c∈found)->(∀c∈found,c∈L/\∃n:Nat,k=Z (n:Int)/\Zfe w wf c n)->(found=[]->∀x∈L,Zw M x=ZFu->∀y∈wf x,cbP y M=Z_)->Zkb w wf L R:=by
 induction r with
 | done=>intro h1 h2 _ h4;have T:ZjT w wf L _:=⟨h1,λc hc ht=>(h2 c hc ht).elim id λz=>by simp at z⟩;exact⟨T,λc hc n hb=>Zrq G T (h4 rfl) hc hb⟩
 | @step M R k found hf _ ih =>
  intro h1 h2 h3 _;have hlk:∀c,Zi (Z9 found k M) c=if c∈found then Z k else Zi M c:=λc=>Zf3 k c found M
  have T:ZjT w wf L (Z9 found k M):=by
   refine⟨λc v hv=>?_,λc hc ht=>?_⟩
   ·rw[hlk]at hv
    split at hv
    ·rename_i hm
     obtain⟨hc,n,e,hl⟩:=h3 c hm;cases hv;exact⟨hc,n,ZA9 e,hl⟩
    ·exact h1 c v hv
   ·unfold Zw
    rw[hlk];split
    ·rfl
    ·rename_i hm
     exact(h2 c hc ht).elim (λz=>z) λz=>absurd z hm
  refine ih T.ok (λc hc ht=>.inl (T.th c hc ht)) (λc hc=>?_) λhe x hx hn y hy=>?_
  ·obtain⟨⟨c',v⟩,h5,rfl⟩:=ZAv.mp hc
   obtain⟨h6,h7⟩:=ZAY.mp h5;obtain⟨hcL,hn,hl⟩:=Zib.mp h6;have h7:=beq_iff_eq.mp h7;obtain⟨⟨y,hy,hcb⟩,_⟩:=Zgy hl;obtain⟨n,rfl,hL⟩:=Zmh G T hcL hn hy hcb (ZrF h7.symm);exact⟨hcL,n,h7.symm,hL⟩
  ·cases hl:Za7 cbP (wf x) (Z9 found k M)with
   | none=>exact Zl2 hl y hy
   | some u =>
    have hm:(x,u)∈ZaG wf cbP L (Z9 found k M):=Zib.mpr ⟨hx,hn,hl⟩;cases ho:ZbR (ZaG wf cbP L (Z9 found k M))with
    | none=>unfold ZbR at ho;rw[ZCE]at ho;rw[ZD7.mp ho]at hm;simp at hm
    | some v=>have hv:=ho;unfold ZbR at ho;obtain⟨q,hq,e⟩:=ZAv.mp (ZEo ho);have:q.1∈Zgf (ZaG wf cbP L (Z9 found k M)):=ZAv.mpr ⟨q,ZAY.mpr ⟨hq,by rw[hv,e]; exact beq_self_eq_true _⟩,rfl⟩;rw[he]at this;simp at this
theorem Ztc(G:Gd wf L)(r:Zj1 wf cbP L [] (Z 0) (L.filter λc=>Zaq w c) R):Zkb w wf L R:=by
 refine ZvB G r (λc v hv=>by cases hv) (λc hc ht=>.inr (ZAY.mpr ⟨hc,ht⟩)) (λc hc=>?_) λ_ x hx _ y hy=>?_
 ·obtain⟨h1,h2⟩:=ZAY.mp hc
  exact⟨h1,0,rfl,.there h2,λm hm=>by omega⟩
 ·unfold cbP ZbS
  rw[if_neg]
  ·rfl
  ·intro h
   obtain⟨p,hp⟩:=ZDk _ (G.ne x hx y hy);have:=ZAF.mp h p hp;cases this
end HG23
namespace HG23
open PySem HM
open HG
open HG4
open HG5
variable{l:Int}{c xs:List Int}
theorem Zew{I:IF}{c:TF}{e:EF}{r:HM.Env}{ds ys:List D}(hI:I r=Z ds)(hl:ds.length<1000000)(hg:Zak c e r ds=Z ys):ZF I c e r=Z (.ol ys):=by unfold ZF;rw[hI];dsimp only;rw[if_pos (show ds.length<big from hl),hg];rfl
structure Pr where
 ds:List Int
 ls:List Int
def Pr.d(p:Pr):D:=.tuple [tupI p.ds,tupI p.ls]
structure Pr.V(p:Pr)(w:Wk):Prop where
 dl:p.ds.length=w.deeds.length
 ll:p.ls.length=w.looks.length
 db:∀x∈p.ds,1<=x/\x<=20
 lb:∀x∈p.ls,1<=x/\x<=20
def dP(p:Pr)(d:Int):Int:=p.ds[d.toNat]?.getD 1
def lP(p:Pr)(l:Int):Int:=p.ls[l.toNat]?.getD 1
theorem Zg8{i:Int}(h0:0<=i)(h1:i<xs.length):atD (xs.map dI) i=Z (.int (xs[i.toNat]?.getD 1))/\(xs[i.toNat]?.getD 1)∈xs:=by
 have e:((i.toNat:Nat):Int)=i:=Int.toNat_of_nonneg h0;have hn:i.toNat<xs.length:=by omega
 have:=Zcg (ds:=xs.map dI) (j:=i.toNat) (d:=.int xs[i.toNat]) (by simp[hn]);rw[e]at this;rw[this,ZAx hn];exact⟨rfl,ZBJ hn⟩
def doY(w:Wk)(p:Pr)(c:List Int)(d:Int):Wy:=(.tuple [.str (ZAQ "do"),.int d,.int (dP p d)],ZC w [] (Zat w c d))
def Zah(w:Wk)(p:Pr)(c:List Int)(l:Int):Wy:=(.tuple [.str (ZAQ "look"),.int l,.int (lP p l)],ZC w [l] c)
def wfB(w:Wk)(p:Pr):Wf:=λc=>(doV w c).map (doY w p c)++((alV w).map (Zah w p c)).filter λy=>decide (1<y.2.length)
theorem Zo4(w:Wk)(p:Pr)(c:List Int)(d:Int):prY (doY w p c d)=dP p d:=rfl
theorem Zlp(w:Wk)(p:Pr)(c:List Int)(l:Int):prY (Zah w p c l)=lP p l:=rfl
theorem ZxD(n:Nat):Cr n []:=⟨.nil,λx hx=>by simp at hx⟩
theorem ZpC{n:Nat}(h0:0<=l)(h1:l<n):Cr n [l]:=⟨List.pairwise_singleton ..,λx hx=>by rw[ZAu.mp hx]; exact⟨h0,h1⟩⟩
theorem ZuC{w:Wk}(h:l∈alV w):0<=l/\l<(w.looks.length:Int):=(ZjQ w).2 l h
section
variable{w:Wk}(hv:Wk.V w){p:Pr}(hp:p.V w)
include hp
theorem ZzV{d:Int}(h0:0<=d)(h1:d<w.deeds.length):1<=dP p d/\dP p d<=20:=hp.db _ (Zg8 h0 (by rw[hp.dl]; exact h1)).2
theorem ZzJ(h0:0<=l)(h1:l<w.looks.length):1<=lP p l/\lP p l<=20:=hp.lb _ (Zg8 h0 (by rw[hp.ll]; exact h1)).2
theorem Znj(h:∀x∈xs,1<=x/\x<=20)(hl:xs.length<1000):ZbO [tupI xs,.int xs.length]=Z (.bool ZFt):=by
 have h1:=ZdP (tupI xs) xs.length xs.length;have hr:Zdj (tupI xs) xs.length xs.length=ZFt:=by show(decide ((xs.length:Int)<=((xs.map dI).length:Int))&&decide (((xs.map dI).length:Int)<=(xs.length:Int)))=ZFt;rw[ZAl];simp
 rw[hr]at h1;have hb:xs.length<1000000:=by omega
 have hc:Zak ZE (Zn ZaJ (Za (Zb 0) (Za (eC (.int 1)) (Za (eC (.int 20)) Zk)))) [Z (.pl (tupI xs)),Z (.pl (.int xs.length))] (xs.map dI)=Z (xs.map λ_=>.bool ZFt):=by rw[ZaF dI (λ_=>.bool ZFt)];intro x hx;have:=Zfk (.int x) 1 20;have hb:=h x hx;rw[show ZgZ (.int x) 1 20=ZFt by show(decide (1<=x)&&decide (x<=20))=ZFt; rw[decide_eq_true hb.1,decide_eq_true hb.2]; rfl]at this;exact this
 have hbs:Zfh (xs.map λ_=>ZBQ ZFt)=Z (xs.map λ_=>ZFt):=by
  have:=Zfc (xs.map λ_=>ZFt)
  rwa [ZAI]at this
 have ha:(xs.map λ_=>ZFt).all id=ZFt:=by simp
 simp[ZbO,Zhg,h1,hb,hc,hbs,ha]
include hv
theorem ZkF:Zcz [w.d,p.d]=Z p.d:=by
 have h1:=ZdP p.d 2 2;have hr:Zdj p.d 2 2=ZFt:=rfl;rw[hr]at h1;have h2:=Znj hp hp.db (by rw[hp.dl]; have:=hv.d2; omega);have h3:=Znj hp hp.lb (by rw[hp.ll]; have:=hv.l2; omega);rw[hp.dl]at h2;rw[hp.ll]at h3;have e0:∀r:HM.Env,r[1]?=Z (Z (.pl p.d))->eIx (Ze 1) (eC (.int 0)) r=Z (tupI p.ds):=λr h=>by simp[h,Pr.d]
 have e1:∀r:HM.Env,r[1]?=Z (Z (.pl p.d))->eIx (Ze 1) (eC (.int 1)) r=Z (tupI p.ls):=λr h=>by simp[h,Pr.d]
 show ZM (Zd1 [Z (.pl w.d),Z (.pl p.d)])=_;unfold Zd1;refine ZH (P:=λq=>ZM q=_) (r':=[Z (.pl w.d),Z (.pl p.d)]) (by simp[h1]) ?_;refine ZH (P:=λq=>ZM q=_) (r':=[Z (.pl w.d),Z (.pl p.d)]) ?_ rfl;have a0:=e0 [Z (.pl w.d),Z (.pl p.d)] rfl;have a1:=e1 [Z (.pl w.d),Z (.pl p.d)] rfl;generalize eIx (Ze 1) (eC (.int 0))=E0 at a0 ⊢;generalize eIx (Ze 1) (eC (.int 1))=E1 at a1 ⊢;simp[a0,a1,ZfQ,ZkW,h2,h3]
theorem Zma(hc:Cr w.many c):Zdn [w.d,p.d,tupI c]=Z (.list (((doV w c).map (doY w p c)).map wyD)):=by
 have h1:=Zpb hv (ls:=[]) (ZxD _) hc;have h1':Zb4 [w.d,.tuple [],tupI c]=Z (.list ((doV w c).map (Zlf w [] c))):=h1;have hb:(doV w c).length<1000000:=by have:=Zia w c; have:=hv.d2; omega
 have hg:Zdh ZE (Zaf (Za (Zaf (Za (eC (.str (ZAQ "do"))) (Za (Zb 0) (Za (eIx (bOf (eIx (Ze 3) (eC (.int 0)))) (Zb 0)) Zk)))) (Za (Zb 1) Zk))) [Z (.pl w.d),Z (.pl p.d),Z (.pl (tupI c))] ((doV w c).map (Zlf w [] c))=Z ((doV w c).map λd=>wyD (doY w p c d)):=by
  have:=ZdQ (c:=ZE) (e:=Zaf (Za (Zaf (Za (eC (.str (ZAQ "do"))) (Za (Zb 0) (Za (eIx (bOf (eIx (Ze 3) (eC (.int 0)))) (Zb 0)) Zk)))) (Za (Zb 1) Zk))) (r:=[Z (.pl w.d),Z (.pl p.d),Z (.pl (tupI c))]) dI (λd=>ZE8 ((ZC w [] (Zat w c d)).map ZK)) (λ_=>ZFt) (λd=>wyD (doY w p c d)) (doV w c) (λ_ _=>rfl) λd hd _=>by obtain⟨d0,d1,_⟩:=Zcw hd;have ha:=(Zg8 (xs:=p.ds) d0 (by rw[hp.dl]; exact d1)).1;have ha':eIx (bOf (eIx (Ze 3) (eC (.int 0)))) (Zb 0) (Z (.pl (dI d))::Z (.pl (ZE8 ((ZC w [] (Zat w c d)).map ZK)))::[Z (.pl w.d),Z (.pl p.d),Z (.pl (tupI c))])=Z (.int (dP p d)):=ha;generalize eIx (bOf (eIx (Ze 3) (eC (.int 0)))) (Zb 0)=E at ha' ⊢;simp[ha'];rfl
  rw[ZBD.mpr λ_ _=>rfl]at this;exact this
 show ZM (ZeU [Z (.pl w.d),Z (.pl p.d),Z (.pl (tupI c))])=_;have hi:ZJ (bOf (Zn Zb4 (Za (Zb 0) (Za (Zaf Zk) (Za (Zb 2) Zk))))) [Z (.pl w.d),Z (.pl p.d),Z (.pl (tupI c))]=Z ((doV w c).map (Zlf w [] c)):=by simp[h1']
 unfold ZeU ZD eOf Za2;rw[hi];dsimp only;rw[if_pos (by rw[ZAl]; exact hb),hg,ZAI];rfl
omit hp hv in
theorem ZpO(f:Nat->Int):∀(n k:Nat) (xs:List Int),xs.length=n->(∀i,i<n->xs[i]?=Z (f (k+i)))->Zjc k (xs.map dI)=(List.range' k n).map λ(j:Nat)=>ZAU [dI (j:Int),dI (f j)]
 | 0,k,xs,h,_=>by rw[ZCs h]; rfl
 | n+1,k,x::xs,h,hx=>by
  have h0:=hx 0 (by omega);have ih:=ZpO f n (k+1) xs (by simpa using h) λi hi=>by have:=hx (i+1) (by omega);rw[show k+1+i=k+(i+1) by omega,<-this];rfl
  rw[ZAt,List.range'_succ,ZAt,<-ih];have:x=f k:=by simpa using h0
  rw[this];rfl
 | n+1,k,[],h,_=>by simp at h
theorem Zmf(hc:Cr w.many c):Zdo [w.d,p.d,tupI c]=Z (.list ((((alV w).map (Zah w p c)).filter λy=>decide (1<y.2.length)).map wyD)):=by
 have hl2:=hv.l2;have hen:Zjc 0 (p.ls.map dI)=(alV w).map λl=>ZAU [dI l,dI (lP p l)]:=by
  rw[ZpO (λj=>lP p (j:Int)) w.looks.length 0 p.ls hp.ll λi hi=>?_]
  ·unfold alV
   rw[ZAI,List.range_eq_range'];rfl
  ·rw[Nat.zero_add]
   unfold lP;rw[ZBx,ZAx (by rw[hp.ll]; exact hi)];rfl
 have hal:(alV w).length<1000000:=by have:=(ZjQ w).len; omega
 have hi:Zn7 (eIx (Ze 1) (eC (.int 1))) [Z (.pl w.d),Z (.pl p.d),Z (.pl (tupI c)),Z_]=Z ((alV w).map λl=>ZAU [dI l,dI (lP p l)]):=by rw[<-hen];rfl
 have hg:Zdh ZE (Zaf (Za (Zaf (Za (eC (.str (ZAQ "look"))) (Za (Zb 0) (Za (Zb 1) Zk)))) (Za (Zn ZbE (Za (Zb 2) (Za (Zaf (Za (Zb 0) Zk)) (Za (Zb 4) Zk)))) Zk))) [Z (.pl w.d),Z (.pl p.d),Z (.pl (tupI c)),Z_] ((alV w).map λl=>ZAU [dI l,dI (lP p l)])=Z (((alV w).map (Zah w p c)).map wyD):=by
  have:=ZdQ (c:=ZE) (e:=Zaf (Za (Zaf (Za (eC (.str (ZAQ "look"))) (Za (Zb 0) (Za (Zb 1) Zk)))) (Za (Zn ZbE (Za (Zb 2) (Za (Zaf (Za (Zb 0) Zk)) (Za (Zb 4) Zk)))) Zk))) (r:=[Z (.pl w.d),Z (.pl p.d),Z (.pl (tupI c)),Z_]) dI (λl=>dI (lP p l)) (λ_=>ZFt) (λl=>wyD (Zah w p c l)) (alV w) (λ_ _=>rfl) λl hl _=>by obtain⟨l0,l1⟩:=ZuC hl;have ha:ZbE [w.d,.tuple [dI l],tupI c]=Z (.list ((ZC w [l] c).map ZK)):=Znn hv (ZpC l0 l1) hc;simp[ha];rfl
  rw[ZBD.mpr λ_ _=>rfl]at this;rw[ZAI];exact this
 have hy:∀y∈(alV w).map (Zah w p c),y.2.length<1000:=λy hy=>by obtain⟨l,_,rfl⟩:=ZAv.mp hy;have:=split_len (w:=w) (ls:=[l]) (c:=c);have:=hc.len;have:=hv.m2;show(ZC w [l] c).length<1000;omega
 have hf:Zak (tV (op2 gGt (Z6 (bOf (eIx (Ze 0) (eC (.int 1))))) (eC (.int 1)))) (Zb 0) [Z (.pl w.d),Z (.pl p.d),Z (.pl (tupI c)),Z (.pl (.list (((alV w).map (Zah w p c)).map wyD)))] (((alV w).map (Zah w p c)).map wyD)=Z ((((alV w).map (Zah w p c)).filter λy=>decide (1<y.2.length)).map wyD):=by refine Zbz wyD (λy=>decide (1<y.2.length)) wyD _ (λy _=>?_) λy _ _=>rfl;show Z (decide (((1:Int))<(((y.2.map ZK).length:Nat):Int)))=_;rw[ZAl];congr 1;rw[decide_eq_decide];omega
 show ZM (ZeV [Z (.pl w.d),Z (.pl p.d),Z (.pl (tupI c)),Z_])=_;unfold ZeV;refine ZH (P:=λq=>ZM q=_) (r':=[Z (.pl w.d),Z (.pl p.d),Z (.pl (tupI c)),Z (.ol (((alV w).map (Zah w p c)).map wyD))]) ?_ ?_
 ·unfold ZU Za2
  rw[hi];dsimp only;rw[if_pos (by rw[ZAl]; exact hal),hg];rfl
 ·show ZM (ZD (eOf (ZF (ZJ (bOf (Zb 3))) _ (Zb 0))) [Z (.pl w.d),Z (.pl p.d),Z (.pl (tupI c)),Z (.pl (.list (((alV w).map (Zah w p c)).map wyD)))])=_
  have hq:=Zew (I:=ZJ (bOf (Zb 3))) (r:=[Z (.pl w.d),Z (.pl p.d),Z (.pl (tupI c)),Z (.pl (.list (((alV w).map (Zah w p c)).map wyD)))]) rfl (by rw[ZAl,ZAl]; exact hal) hf;unfold ZD eOf;rw[hq];rfl
theorem Zmr(hc:Cr w.many c):ZaR [w.d,p.d,tupI c]=Z (.list ((wfB w p c).map wyD)):=by
 have h1:=Zma hv hp hc;have h2:=Zmf hv hp hc;have hb:(doV w c).length<1000:=by have:=Zia w c; have:=hv.d2; omega
 have hal:(alV w).length<1000:=by have:=(ZjQ w).len; have:=hv.l2; omega
 have hfl:=ZA1 (λy:Wy=>decide (1<y.2.length)) ((alV w).map (Zah w p c));rw[ZAl]at hfl;unfold wfB;rw[ZAN];generalize hA:((doV w c).map (doY w p c)).map wyD=A at h1 ⊢;generalize hB:(((alV w).map (Zah w p c)).filter λy=>decide (1<y.2.length)).map wyD=B at h2 ⊢;have lA:A.length<1000:=by rw[<-hA,ZAl,ZAl]; exact hb
 have lB:B.length<1000:=by rw[<-hB,ZAl]; omega
 have hz:A.length+B.length<1000000:=by omega
 simp[ZaR,Zh3,h1,h2,hz]
end
end HG23
namespace HG23
open PySem HM
open HG
open HG4
open HG5
variable{c:List Int}{y:Wy}
theorem ZeI{w:Wk}{p:Pr}(h:y∈wfB w p c):(∃d∈doV w c,y=doY w p c d)\/∃l∈alV w,y=Zah w p c l/\1<y.2.length:=by
 rcases ZAV.mp h with h | h
 ·obtain⟨d,hd,rfl⟩:=ZAv.mp h
  exact .inl ⟨d,hd,rfl⟩
 ·obtain⟨h1,h2⟩:=ZAY.mp h
  obtain⟨l,hl,rfl⟩:=ZAv.mp h1;exact .inr ⟨l,hl,rfl,of_decide_eq_true h2⟩
theorem Ztt(w:Wk)(p:Pr)(c:List Int)(d:Int):wyP (doY w p c d)=Z4 w [] (Zat w c d):=rfl
theorem Zpr(w:Wk)(p:Pr)(c:List Int)(l:Int):wyP (Zah w p c l)=Z4 w [l] c:=rfl
section
variable{w:Wk}(hv:Wk.V w)(h7:w.many<=7){p:Pr}(hp:p.V w)
include hv h7
omit hv h7 in
theorem Zm8(h:y∈wfB w p c):∃a b k,y.1=.tuple [a,b,.int k]/\noF 17 y.1=ZFt:=by
 rcases ZeI h with⟨d,_,rfl⟩ | ⟨l,_,rfl,_⟩
 ·exact⟨_,_,_,rfl,rfl⟩
 ·exact⟨_,_,_,rfl,rfl⟩
theorem Zuf:Zsg (wfB w p) (OkC w):=by
 refine⟨λc hc y hy q hq=>?_,λc hc=>?_,λc hc y hy=>?_,λC hn hC=>?_⟩
 ·rcases ZeI hy with⟨d,hd,rfl⟩ | ⟨l,hl,rfl,_⟩
  ·obtain⟨d0,d1,_⟩:=Zcw hd
   have:=Zky (Zif hv hc.1 d0 d1) (show q∈Z4 w [] (Zat w c d) from hq);exact⟨this.1,this.2.1⟩
  ·have:=Zky hc.1 (show q∈Z4 w [l] c from hq)
   exact⟨this.1,this.2.1⟩
 ·unfold wfB
  rw[ZAE,ZAl];have h1:=Zia w c;have h2:=hv.d2;have h3:=ZA1 (λy:Wy=>decide (1<y.2.length)) ((alV w).map (Zah w p c));rw[ZAl]at h3;have h4:=(ZjQ w).len;have h5:=hv.l2;omega
 ·rcases ZeI hy with⟨d,hd,rfl⟩ | ⟨l,hl,rfl,_⟩
  ·obtain⟨d0,d1,_⟩:=Zcw hd
   have:=split_len (w:=w) (ls:=[]) (c:=Zat w c d);have:=(Zif hv hc.1 d0 d1).len;show(ZC w [] (Zat w c d)).length<=8;omega
  ·have:=split_len (w:=w) (ls:=[l]) (c:=c)
   have:=hc.1.len;show(ZC w [l] c).length<=8;omega
 ·have h1:=Zjd hn λc hc=>(hC c hc).1
  have h2:2 ^ w.many<=2 ^ 7:=ZDd (by decide) h7;have h3:2 ^ 7=128:=rfl;omega
omit hv h7 in
theorem Ztg(hc:c≠[])(hy:y∈wfB w p c):wyP y≠[]:=by
 rcases ZeI hy with⟨d,hd,rfl⟩ | ⟨l,hl,rfl,h1⟩
 ·exact Zlo (Zl3 hc (Zcw hd).2.2)
 ·intro z
  have:(wyP (Zah w p c l)).length=(Zah w p c l).2.length:=by unfold wyP; rw[ZAl]
  rw[z]at this;rw[<-this]at h1;cases h1
include hp
omit hv h7 in
theorem Zyb(hy:y∈wfB w p c):∃k:Nat,prY y=(k:Int)/\1<=k:=by
 rcases ZeI hy with⟨d,hd,rfl⟩ | ⟨l,hl,rfl,h1⟩
 ·obtain⟨d0,d1,_⟩:=Zcw hd
  have:=ZzV hp d0 d1;exact⟨(dP p d).toNat,by rw[Zo4]; omega,by omega⟩
 ·obtain⟨l0,l1⟩:=ZuC hl
  have:=ZzJ hp l0 l1;exact⟨(lP p l).toNat,by rw[Zlp]; omega,by omega⟩
omit hv h7 in
theorem gdB{L:List (List Int)}(cl:Zkz (wfB w p) L)(ne:∀c∈L,c≠[]):Gd (wfB w p) L:=⟨cl,λc hc y hy=>Ztg (ne c hc) hy,λc hc y hy=>Zyb hp hy⟩
omit hp hv h7 in
theorem ZqY(hy:y.2.length<1000)(h0:y.2≠[])(hk:∃a b k,y.1=.tuple [a,b,.int k])(M:Tb):Zed [wyD y,.dict (Zh (encM M))]=Z (oI (cbP y M)):=by
 have h:=Zly hy h0 (M:=M);have h':Zbx [.list (y.2.map ZK),.dict (Zh (encM M))]=Z (oI (ZbS (wyP y) M)):=h;obtain⟨a,b,k,hk⟩:=hk;have hpr:prY y=k:=by unfold prY; rw[hk]
 show ZM (Zhx [Z (.pl (wyD y)),Z (.pl (.dict (Zh (encM M)))),Z_])=_;unfold Zhx cbP;rw[hpr];refine ZH (P:=λq=>ZM q=_) (r':=[Z (.pl (wyD y)),Z (.pl (.dict (Zh (encM M)))),Z (.pl (oI (ZbS (wyP y) M)))]) ?_ ?_
 ·unfold Z0 Zn
  show ZCo _ (Zbx [.list (y.2.map ZK),.dict (Zh (encM M))])=_;rw[h'];rfl
 ·unfold wyD
  rw[hk];cases ZbS (wyP y) M<;>rfl
theorem Zs9{ap:AP}(l6:∀cs ds,ap 6 cs ds=Zkv 1 2 (Zn ZaR (Za (Zb 1) (Za (Zb 2) (Za (Zb 0) Zk)))) cs ds):∃L,ZbG ap [w.d,p.d]=Z (.dict (Zh (Zq (wfB w p) L)))/\Zhb (wfB w p) (OkC w) [w.beg] L []:=by
 have O:=Zuf hv h7 (p:=p);have ha:∀c,OkC w c->ap 6 [w.d,p.d] [tupI c]=Z (.list ((wfB w p c).map wyD)):=λc hc=>by rw[l6];unfold Zkv;rw[if_pos ⟨rfl,rfl,by rw[ZBA,ZdZ 19]; rfl⟩];exact Zmr hv hp hc.1
 obtain⟨L,e,J⟩:=Zsb O ha (B:=[w.beg]) (λc h=>by rw[ZAu.mp h]; exact⟨hv.bc,hv.b1⟩) (by simp);refine⟨L,?_,J⟩;have h1:eOf (Zdl (Za (Zn Zcu (Za (Zb 0) Zk)) Zk)) [Z (.pl w.d),Z (.pl p.d)]=Z (.list ([w.beg].map tupI)):=by have hb:=ZkY w;simp[hb]
 have hpd:noF 20 p.d=ZFt:=ZdO λd hd=>by
  rcases ZAy.mp hd with e | hd
  ·subst e; exact ZdZ 18 _
  ·rw[ZAu.mp hd]; exact ZdZ 18 _
 have hn1:[w.d,p.d].all (noF 20)=ZFt:=by rw[ZBA,ZBA,Zy6,hpd];rfl
 have hn2:noF 20 (.dict (Zh (Zq (wfB w p) L)))=ZFt:=ZyZ (n:=14) λc _ y hy=>(Zm8 hy).choose_spec.choose_spec.choose_spec.2;show ZM (ZdG ap [Z (.pl w.d),Z (.pl p.d)])=_;unfold ZdG ZD Zi6;rw[h1];show ZM (ZCo Out.rt (if[w.d,p.d].all (noF 20)=ZFt then(match Zck ap [.list ([w.beg].map tupI),fnD 6 [w.d,p.d]]with | some d=>if noF 20 d=ZFt then Z d else Z_ | none=>Z_)else Z_))=_;rw[if_pos hn1,e];dsimp only;rw[if_pos hn2];rfl
end
end HG23
namespace HG23
open PySem HM
open HG
open HG4
open HG5
variable{c:List Int}
def prV(w:Wk)(c:Int):Pr:=⟨(ZAw w.deeds.length).map λ(k:Nat)=>1+ZY (c+37*(k:Int)) 9817 9,(ZAw w.looks.length).map λ(k:Nat)=>1+ZY (c+41*(k:Int)+7) 9811 9⟩
theorem ZvZ(w:Wk)(c:Int):(∀x∈(prV w c).ds,1<=x/\x<=9)/\∀x∈(prV w c).ls,1<=x/\x<=9:=by
 refine⟨λx hx=>?_,λx hx=>?_⟩
 ·obtain⟨k,_,rfl⟩:=ZAv.mp hx
  have:=Zay (c+37*(k:Int)) 9817 9 (by decide);omega
 ·obtain⟨k,_,rfl⟩:=ZAv.mp hx
  have:=Zay (c+41*(k:Int)+7) 9811 9 (by decide);omega
theorem Zzg(w:Wk)(c:Int):(prV w c).V w :=
 ⟨by unfold prV; rw[ZAl,ZBg],by unfold prV; rw[ZAl,ZBg],λx hx=>by have:=(ZvZ w c).1 x hx; omega,λx hx=>by have:=(ZvZ w c).2 x hx; omega⟩
theorem ZnX{w:Wk}(hv:Wk.V w)(c:Int):Zeg [w.d,.int c]=Z (prV w c).d:=by
 have hd:=hv.d2;have hl:=hv.l2;have hok1:okR (w.deeds.length:Int)=ZFt:=ZcR (by omega);have hok2:okR (w.looks.length:Int)=ZFt:=ZcR (by omega);have hb1:w.deeds.length<1000000:=by omega
 have hb2:w.looks.length<1000000:=by omega
 show ZM (Zf8 [Z (.pl w.d),Z (.pl (.int c)),Z_,Z_])=_;unfold Zf8;refine ZH (P:=λq=>ZM q=_) (r':=[Z (.pl w.d),Z (.pl (.int c)),Z (.pl (tupI (prV w c).ds)),Z_]) ?_ ?_
 ·have h1:ZaU (Z6 (bOf (eIx (Ze 0) (eC (.int 1))))) [Z (.pl w.d),Z (.pl (.int c)),Z_,Z_]=Z ((ZAw w.deeds.length).map dN):=by
   have h0:Z6 (bOf (eIx (Ze 0) (eC (.int 1)))) [Z (.pl w.d),Z (.pl (.int c)),Z_,Z_]=Z (.int w.deeds.length):=by show Z (ZA2 (((w.deeds.map ZZ).length:Nat):Int))=_;rw[ZAl]
   unfold ZaU;rw[h0];dsimp only;rw[hok1,if_pos rfl,ZBx,Zaj]
  have h2:=Zew (c:=ZE) (e:=op2 Zaz (eC (.int 1)) (Zn ZN (Za (op2 Zaz (Zb 2) (op2 Zcx (eC (.int 37)) (Zb 0))) (Za (eC (.int 9817)) (Za (eC (.int 9)) Zk))))) h1 (by rw[ZAl,ZBg]; exact hb1) (ZaF dN (λk=>dI (1+ZY (c+37*(k:Int)) 9817 9)) _ λk _=>by have m:=Zb8 (c+37*(k:Int)) 9817 9 (by decide) (by decide);simp[m]);unfold Z0 Z1;rw[h2,show tupI (prV w c).ds=.tuple ((ZAw w.deeds.length).map λ(k:Nat)=>dI (1+ZY (c+37*(k:Int)) 9817 9)) by unfold prV tupI; rw[ZAI]; rfl];rfl
 refine ZH (P:=λq=>ZM q=_) (r':=[Z (.pl w.d),Z (.pl (.int c)),Z (.pl (tupI (prV w c).ds)),Z (.pl (tupI (prV w c).ls))]) ?_ rfl;have h1:ZaU (Z6 (bOf (eIx (Ze 0) (eC (.int 2))))) [Z (.pl w.d),Z (.pl (.int c)),Z (.pl (tupI (prV w c).ds)),Z_]=Z ((ZAw w.looks.length).map dN):=by
  have h0:Z6 (bOf (eIx (Ze 0) (eC (.int 2)))) [Z (.pl w.d),Z (.pl (.int c)),Z (.pl (tupI (prV w c).ds)),Z_]=Z (.int w.looks.length):=by show Z (ZA2 (((w.looks.map tupI).length:Nat):Int))=_;rw[ZAl]
  unfold ZaU;rw[h0];dsimp only;rw[hok2,if_pos rfl,ZBx,Zaj]
 have h2:=Zew (c:=ZE) (e:=op2 Zaz (eC (.int 1)) (Zn ZN (Za (op2 Zaz (op2 Zaz (Zb 2) (op2 Zcx (eC (.int 41)) (Zb 0))) (eC (.int 7))) (Za (eC (.int 9811)) (Za (eC (.int 9)) Zk))))) h1 (by rw[ZAl,ZBg]; exact hb2) (ZaF dN (λk=>dI (1+ZY (c+41*(k:Int)+7) 9811 9)) _ λk _=>by have m:=Zb8 (c+41*(k:Int)+7) 9811 9 (by decide) (by decide);simp[m]);unfold Z0 Z1;rw[h2,show tupI (prV w c).ls=.tuple ((ZAw w.looks.length).map λ(k:Nat)=>dI (1+ZY (c+41*(k:Int)+7) 9811 9)) by unfold prV tupI; rw[ZAI]; rfl];rfl
def Zdk(y:Wy):D:=.tuple [.int (prY y),.list ((wyP y).map tupI)]
theorem Zvh{α:Type}{a:α}:∀{l:List α},l.Nodup->l≠[]->(∀x∈l,x=a)->l=[a]
 | [],_,h,_=>absurd rfl h
 | [x],_,_,h=>by rw[h x (ZAu.mpr rfl)]
 | x::y::l,hn,_,h=>by have h1:=h x (ZAp ..);have h2:=h y (ZAq _ (ZAp ..));rw[h1,h2]at hn;simp at hn
theorem parts_nil(w:Wk)(hc:c≠[]):Z4 w [] c=[c]:=by refine Zvh (ZhV w [] c) (Zlo hc) λx hx=>?_;obtain⟨s,_,rfl⟩:=ZjL.mp hx;exact ZBD.mpr λ_ _=>beq_self_eq_true _
section
variable{w:Wk}(hv:Wk.V w)(h7:w.many<=7){p:Pr}(hp:p.V w)
include hv h7 hp
theorem ZkZ(hc:OkC w c):Zcv [w.d,p.d,tupI c]=Z (.list ((wfB w p c).map Zdk)):=by
 have hd2:=hv.d2;have hl2:=hv.l2;have hcl:=hc.1.len;have hok1:okR (w.deeds.length:Int)=ZFt:=ZcR (by omega);have hok2:okR (w.looks.length:Int)=ZFt:=ZcR (by omega);have pre_len:∀{n:Nat} {pre post:List Nat} {x:Nat},ZAw n=pre++x::post->x<n/\pre.length<n:=λ{n pre post x} e=>by
  have h1:x∈ZAw n:=by rw[e]; exact ZAL _ (ZAp ..)
  have h2:=congrArg ZA8 e;rw[ZBg,ZAE,ZAB]at h2;exact⟨ZA5.mp h1,by omega⟩
 obtain⟨r1,g1,o4,o5,e1⟩:=ZfC (i:=4) (body:=ZeX) dN (λ(pre:List Nat) (r:HM.Env)=>∃o4 o5,r=[Z (.pl w.d),Z (.pl p.d),Z (.pl (tupI c)),Z (.ol ((pre.filter λ(d:Nat)=>Za6 w c (d:Int)).map λ(d:Nat)=>Zdk (doY w p c (d:Int)))),o4,o5,Z_,Z_]) (ZAw w.deeds.length) [Z (.pl w.d),Z (.pl p.d),Z (.pl (tupI c)),Z (.ol []),Z_,Z_,Z_,Z_] ⟨Z_,Z_,rfl⟩ λpre d post r e ⟨o4,o5,er⟩=>by
  obtain⟨hd,hpl⟩:=pre_len e;have hled:=Zmg hv h7 hc.1 (show(0:Int)<=(d:Int) by omega) (by omega);have hfl:=ZA1 (λ(d:Nat)=>Za6 w c (d:Int)) pre;subst er;unfold ZsG at hled;rw[ZDt,ZAN];cases can:Za6 w c d with
  | false =>
   rw[can]at hled;refine⟨[Z (.pl w.d),Z (.pl p.d),Z (.pl (tupI c)),Z (.ol ((pre.filter λ(d:Nat)=>Za6 w c (d:Int)).map λ(d:Nat)=>Zdk (doY w p c (d:Int)))),Z (.pl (dN d)),Z (.pl .none),Z_,Z_],?_,Z (.pl (dN d)),Z (.pl .none),?_⟩
   ·simp[ZeX,hled]
   ·rw[ZBC,if_neg (by rw[can]; decide)]
    simp
  | true =>
   rw[can]at hled;have ha:=(Zg8 (xs:=p.ds) (i:=(d:Int)) (by omega) (by rw[hp.dl]; omega)).1;have ha':∀o5 acc,eIx (bOf (eIx (Ze 1) (eC (.int 0)))) (Zb 4) [Z (.pl w.d),Z (.pl p.d),Z (.pl (tupI c)),Z (.ol acc),Z (.pl (dN d)),o5,Z_,Z_]=Z (.int (dP p d)):=λ_ _=>ha;have hpn:wyP (doY w p c d)=[Zat w c d]:=by rw[Ztt]; exact parts_nil w (Zl3 hc.2 can)
   refine⟨[Z (.pl w.d),Z (.pl p.d),Z (.pl (tupI c)),Z (.ol (((pre.filter λ(d:Nat)=>Za6 w c (d:Int)).map λ(d:Nat)=>Zdk (doY w p c (d:Int)))++[Zdk (doY w p c d)])),Z (.pl (dN d)),Z (.pl (tupI (Zat w c d))),Z_,Z_],?_,Z (.pl (dN d)),Z (.pl (tupI (Zat w c d))),?_⟩
   ·have hal:((pre.filter λ(d:Nat)=>Za6 w c (d:Int)).map λ(d:Nat)=>Zdk (doY w p c (d:Int))).length<1000000:=by rw[ZAl]; omega
    generalize ((pre.filter λ(d:Nat)=>Za6 w c (d:Int)).map λ(d:Nat)=>Zdk (doY w p c (d:Int)))=acc at hal ⊢;have ha2:=ha' (Z (.pl (tupI (Zat w c d)))) acc;unfold ZeX;generalize eIx (bOf (eIx (Ze 1) (eC (.int 0)))) (Zb 4)=E at ha2 ⊢;unfold Zdk;rw[hpn,Zo4];simp[hled,ha2,hal]
   ·rw[ZBC,if_pos can]
    rfl
 obtain⟨r2,g2,o6,o7,e2⟩:=ZfC (i:=6) (body:=ZeW) dN (λ(pre:List Nat) (r:HM.Env)=>∃o6 o7,r=[Z (.pl w.d),Z (.pl p.d),Z (.pl (tupI c)),Z (.ol ((((ZAw w.deeds.length).filter λ(d:Nat)=>Za6 w c (d:Int)).map λ(d:Nat)=>Zdk (doY w p c (d:Int)))++(pre.filter λ(l:Nat)=>decide (1<(Zah w p c (l:Int)).2.length)).map λ(l:Nat)=>Zdk (Zah w p c (l:Int)))),o4,o5,o6,o7]) (ZAw w.looks.length) r1 ⟨Z_,Z_,by rw[e1]; simp⟩ λpre l post r e ⟨o6,o7,er⟩=>by
  obtain⟨hd,hpl⟩:=pre_len e;have hfl:=ZA1 (λ(l:Nat)=>decide (1<(Zah w p c (l:Int)).2.length)) pre;have hfl2:=ZA1 (λ(d:Nat)=>Za6 w c (d:Int)) (ZAw w.deeds.length);rw[ZBg]at hfl2;subst er;rw[ZDt,ZAN,<-ZBE];have hal:((((ZAw w.deeds.length).filter λ(d:Nat)=>Za6 w c (d:Int)).map λ(d:Nat)=>Zdk (doY w p c (d:Int)))++(pre.filter λ(l:Nat)=>decide (1<(Zah w p c (l:Int)).2.length)).map λ(l:Nat)=>Zdk (Zah w p c (l:Int))).length<1000000:=by rw[ZAE,ZAl,ZAl]; omega
  generalize ((((ZAw w.deeds.length).filter λ(d:Nat)=>Za6 w c (d:Int)).map λ(d:Nat)=>Zdk (doY w p c (d:Int)))++(pre.filter λ(l:Nat)=>decide (1<(Zah w p c (l:Int)).2.length)).map λ(l:Nat)=>Zdk (Zah w p c (l:Int)))=acc at hal ⊢;have hs:=ZjM hv (ZpC (n:=w.looks.length) (l:=(l:Int)) (by omega) (by omega)) hc.1;have hs':ZaM [w.d,.tuple [dN l],tupI c]=Z (.list ((ZC w [(l:Int)] c).map ZK)):=hs;have hsn:=split_len (w:=w) (ls:=[(l:Int)]) (c:=c);have hpl2:(Z4 w [(l:Int)] c).length=(ZC w [(l:Int)] c).length:=by unfold Z4; rw[ZAl]
  have hg:∀r:HM.Env,Zdh ZE (Zb 1) r ((ZC w [(l:Int)] c).map ZK)=Z ((Z4 w [(l:Int)] c).map tupI):=λr=>by have e:=ZdQ (c:=ZE) (e:=Zb 1) (r:=r) (λp:List Int × List Int=>tupI p.1) (λp=>tupI p.2) (λ_=>ZFt) (λp=>tupI p.2) (ZC w [(l:Int)] c) (λp _=>rfl) (λp _ _=>by simp);rw[ZBD.mpr λ_ _=>rfl]at e;unfold Z4;rw[ZAI];exact e
  have h1:ZU 7 (Za2 (ZJ (bOf (Zn ZaM (Za (Zb 0) (Za (Zaf (Za (Zb 6) Zk)) (Za (Zb 2) Zk)))))) ZE (Zb 1)) [Z (.pl w.d),Z (.pl p.d),Z (.pl (tupI c)),Z (.ol acc),o4,o5,Z (.pl (dN l)),o7]=Z (.nx [Z (.pl w.d),Z (.pl p.d),Z (.pl (tupI c)),Z (.ol acc),o4,o5,Z (.pl (dN l)),Z (.ol ((Z4 w [(l:Int)] c).map tupI))]):=by
   have hb:(ZC w [(l:Int)] c).length<1000000:=by omega
   simp[hs',hg,hb]
  have ha:=(Zg8 (xs:=p.ls) (i:=(l:Int)) (by omega) (by rw[hp.ll]; omega)).1;have ha':eIx (bOf (eIx (Ze 1) (eC (.int 1)))) (Zb 6) [Z (.pl w.d),Z (.pl p.d),Z (.pl (tupI c)),Z (.ol acc),o4,o5,Z (.pl (dN l)),Z (.pl (.list ((Z4 w [(l:Int)] c).map tupI)))]=Z (.int (lP p l)):=ha;have ht:tV (op2 gGt (Z6 (Ze 7)) (eC (.int 1))) [Z (.pl w.d),Z (.pl p.d),Z (.pl (tupI c)),Z (.ol acc),o4,o5,Z (.pl (dN l)),Z (.ol ((Z4 w [(l:Int)] c).map tupI))]=Z (decide (1<(Zah w p c (l:Int)).2.length)):=by show Z (decide ((1:Int)<((((Z4 w [(l:Int)] c).map tupI).length:Nat):Int)))=Z (decide (1<(ZC w [(l:Int)] c).length));rw[ZAl,hpl2];congr 1;rw[decide_eq_decide];omega
  cases hq:decide (1<(Zah w p c (l:Int)).2.length)with
  | false =>
   rw[hq]at ht;refine⟨[Z (.pl w.d),Z (.pl p.d),Z (.pl (tupI c)),Z (.ol acc),o4,o5,Z (.pl (dN l)),Z (.ol ((Z4 w [(l:Int)] c).map tupI))],?_,Z (.pl (dN l)),Z (.ol ((Z4 w [(l:Int)] c).map tupI)),?_⟩
   ·unfold ZeW
    refine ZH (P:=λq=>q=_) h1 ?_;unfold sIf;rw[ht];rfl
   ·rw[ZBC,if_neg (by rw[hq]; decide)]
    simp
  | true =>
   rw[hq]at ht;refine⟨[Z (.pl w.d),Z (.pl p.d),Z (.pl (tupI c)),Z (.ol (acc++[Zdk (Zah w p c l)])),o4,o5,Z (.pl (dN l)),Z (.pl (.list ((Z4 w [(l:Int)] c).map tupI)))],?_,Z (.pl (dN l)),Z (.pl (.list ((Z4 w [(l:Int)] c).map tupI))),?_⟩
   ·unfold ZeW
    refine ZH (P:=λq=>q=_) h1 ?_;unfold sIf;rw[ht];show Zdf 3 _ [Z (.pl w.d),Z (.pl p.d),Z (.pl (tupI c)),Z (.ol acc),o4,o5,Z (.pl (dN l)),Z (.pl (.list ((Z4 w [(l:Int)] c).map tupI)))]=_;generalize eIx (bOf (eIx (Ze 1) (eC (.int 1)))) (Zb 6)=E at ha' ⊢;unfold Zdk;rw[Zpr,Zlp];simp[ha',hal]
   ·rw[ZBC,if_pos hq]
    rfl
 show ZM (Zhy [Z (.pl w.d),Z (.pl p.d),Z (.pl (tupI c)),Z_,Z_,Z_,Z_,Z_])=_;unfold Zhy;refine ZH (P:=λq=>ZM q=_) (r':=[Z (.pl w.d),Z (.pl p.d),Z (.pl (tupI c)),Z (.ol []),Z_,Z_,Z_,Z_]) rfl ?_;refine ZH (P:=λq=>ZM q=_) (r':=r1) ?_ ?_
 ·have h0:ZaU (Z6 (bOf (eIx (Ze 0) (eC (.int 1))))) [Z (.pl w.d),Z (.pl p.d),Z (.pl (tupI c)),Z (.ol []),Z_,Z_,Z_,Z_]=Z ((ZAw w.deeds.length).map dN):=by
   have h0:Z6 (bOf (eIx (Ze 0) (eC (.int 1)))) [Z (.pl w.d),Z (.pl p.d),Z (.pl (tupI c)),Z (.ol []),Z_,Z_,Z_,Z_]=Z (.int w.deeds.length):=by show Z (ZA2 (((w.deeds.map ZZ).length:Nat):Int))=_;rw[ZAl]
   unfold ZaU;rw[h0];dsimp only;rw[hok1,if_pos rfl,ZBx,Zaj]
  unfold ZaS;rw[h0];dsimp only;rw[if_pos (by rw[ZAl,ZBg]; show _<1000000; omega)];exact g1
 refine ZH (P:=λq=>ZM q=_) (r':=r2) ?_ ?_
 ·have h0:ZaU (Z6 (bOf (eIx (Ze 0) (eC (.int 2))))) r1=Z ((ZAw w.looks.length).map dN):=by
   have h0:Z6 (bOf (eIx (Ze 0) (eC (.int 2)))) r1=Z (.int w.looks.length):=by rw[e1];show Z (ZA2 (((w.looks.map tupI).length:Nat):Int))=_;rw[ZAl]
   unfold ZaU;rw[h0];dsimp only;rw[hok2,if_pos rfl,ZBx,Zaj]
  unfold ZaS;rw[h0];dsimp only;rw[if_pos (by rw[ZAl,ZBg]; show _<1000000; omega)];exact g2
 rw[e2];show Z (ZE8 _)=_;congr 2;unfold wfB doV alV;rw[ZAN,ZAI,ZAI,ZAI,List.filter_map,ZAI];rfl
end
end HG23
namespace HG23
open PySem HM
open HG
open HG4
open HG5
variable{L:List (List Int)}{c:List Int}{w:Wk}{y:Wy}
theorem Zo6{α:Type}{i j:Nat}{body:SF}(a b:α->D)(P:List α->HM.Env->Prop)(xs:List α)(r:HM.Env)(h0:P [] r)
  (hs:∀pre x post r,xs=pre++x::post->P pre r->∃r',body ((r.set i (Z (.pl (a x)))).set j (Z (.pl (b x))))=Z (.nx r')/\P (pre++[x]) r'):∃r',Zee i j body (xs.map λx=>.tuple [a x,b x]) r=Z (.nx r')/\P xs r':=by
 have key:∀(post pre:List α) (r:HM.Env),xs=pre++post->P pre r->∃r',Zee i j body (post.map λx=>.tuple [a x,b x]) r=Z (.nx r')/\P xs r':=by
  intro post
  induction post with
  | nil=>intro pre r e h; rw[ZBa]at e; subst e; exact⟨r,rfl,h⟩
  | cons x post ih=>intro pre r e h;obtain⟨r1,h1,h2⟩:=hs pre x post r e h;obtain⟨r2,h3,h4⟩:=ih (pre++[x]) r1 (by rw[e,ZBE]; rfl) h2;refine⟨r2,?_,h4⟩;rw[ZAt];unfold Zee;rw[h1];exact h3
 exact key xs [] r rfl h0
structure IvL(w:Wk)(L:List (List Int)):Prop where
 nd:L.Nodup
 cr:∀c∈L,OkC w c
theorem IvL.len(I:IvL w L)(h7:w.many<=7):L.length<=128:=by have h1:=Zjd I.nd λc hc=>(I.cr c hc).1;have h2:2 ^ w.many<=2 ^ 7:=ZDd (by decide) h7;have h3:2 ^ 7=128:=rfl;omega
def ZcX(L:List (List Int))(y:Wy):List (List Int):=L++(wyP y).filter λq=>!L.contains q
theorem Ztz{q:List Int}(h:q∈wyP y):q∈ZcX L y:=by
 unfold ZcX
 by_cases hq:q∈L
 ·exact ZA3 _ hq
 ·exact ZAL _ (ZAY.mpr ⟨h,by simp[hq]⟩)
theorem ZtY(I:IvL w L)(hn:(wyP y).Nodup)(hy:∀q∈wyP y,OkC w q):IvL w (ZcX L y):=by
 refine⟨?_,λc hc=>?_⟩
 ·unfold ZcX
  rw[ZB7];refine⟨I.nd,hn.filter _,λa ha b hb e=>?_⟩;subst e;have:=(ZAY.mp hb).2;simp[ha]at this
 ·rcases ZAV.mp hc with h | h
  ·exact I.cr c h
  ·exact hy c (ZAY.mp h).1
theorem Zso{w:Wk}:∀(ys:List Wy) (L:List (List Int)),IvL w L->(∀y∈ys,(wyP y).Nodup/\∀q∈wyP y,OkC w q)->IvL w (ys.foldl ZcX L)/\(∃N,ys.foldl ZcX L=L++N)/\∀y∈ys,∀q∈wyP y,q∈ys.foldl ZcX L
 | [],L,I,_=>⟨I,⟨[],by simp⟩,λy hy=>by simp at hy⟩
 | y::ys,L,I,h=>by
  obtain⟨h1,h2⟩:=h y (ZAp ..);obtain⟨a,⟨N,b⟩,c⟩:=Zso ys (ZcX L y) (ZtY I h1 h2) λz hz=>h z (ZAq _ hz);refine⟨a,⟨(wyP y).filter (λq=>!L.contains q)++N,?_⟩,λz hz q hq=>?_⟩
  ·rw[ZBu,b]
   unfold ZcX;rw[ZBE]
  ·rw[ZBu]
   rcases ZAy.mp hz with e | hz
   ·subst e
    rw[b];exact ZA3 _ (Ztz hq)
   ·exact c z hz q hq
section
variable{w:Wk}(hv:Wk.V w)(h7:w.many<=7){p:Pr}(hp:p.V w)
include hv h7
omit h7 in
theorem Zho(hc:OkC w c)(hy:y∈wfB w p c):(wyP y).Nodup/\(wyP y).length<=8/\∀q∈wyP y,OkC w q:=by
 have h8:=hv.m2;rcases ZeI hy with⟨d,hd,rfl⟩ | ⟨l,hl,rfl,_⟩
 ·obtain⟨d0,d1,_⟩:=Zcw hd
  have hlc:=Zif hv hc.1 d0 d1;refine⟨ZhV w [] _,?_,λq hq=>?_⟩
  ·have:=split_len (w:=w) (ls:=[]) (c:=Zat w c d)
   have:=hlc.len;show((ZC w [] (Zat w c d)).map (·.2)).length<=8;rw[ZAl];omega
  ·have:=Zky hlc (show q∈Z4 w [] (Zat w c d) from hq)
   exact⟨this.1,this.2.1⟩
 ·refine⟨ZhV w [l] _,?_,λq hq=>?_⟩
  ·have:=split_len (w:=w) (ls:=[l]) (c:=c)
   have:=hc.1.len;show((ZC w [l] c).map (·.2)).length<=8;rw[ZAl];omega
  ·have:=Zky hc.1 (show q∈Z4 w [l] c from hq)
   exact⟨this.1,this.2.1⟩
omit hv h7 in
theorem Zrv(hv:Wk.V w)(c:List Int):(wfB w p c).length<=10:=by unfold wfB;rw[ZAE,ZAl];have h1:=Zia w c;have h2:=hv.d2;have h3:=ZA1 (λy:Wy=>decide (1<y.2.length)) ((alV w).map (Zah w p c));rw[ZAl]at h3;have h4:=(ZjQ w).len;have h5:=hv.l2;omega
include hp
theorem Zr9(I:IvL w L){at_:Nat}(hc:L[at_]?=Z c)(o4 o5:Option B) :
  ∃p4 p5,Zei [Z (.pl w.d),Z (.pl p.d),Z (.ol (L.map tupI)),Z (.pl (dN at_)),o4,o5,Z_,Z_,Z_,Z_]=Z (.nx [Z (.pl w.d),Z (.pl p.d),Z (.ol (((wfB w p c).foldl ZcX L).map tupI)),Z (.pl (dN (at_+1))),p4,p5,Z_,Z_,Z_,Z_]):=by
 have hm:c∈L:=ZAR hc;have hk:=I.cr c hm;have hat:atD (L.map tupI) (at_:Int)=Z (tupI c):=Zcg (by rw[ZAO,hc]; rfl);have hws:=ZkZ hv h7 hp hk;have hyl:=Zrv (p:=p) hv c;obtain⟨r',g,p4,p5,e⟩:=Zo6 (i:=4) (j:=5) (body:=Zf9) (λy=>ZA2 (prY y)) (λy=>.list ((wyP y).map tupI)) (λ(pre:List Wy) (r:HM.Env)=>∃o4 o5,r=[Z (.pl w.d),Z (.pl p.d),Z (.ol ((pre.foldl ZcX L).map tupI)),Z (.pl (dN at_)),o4,o5,Z_,Z_,Z_,Z_]) (wfB w p c) [Z (.pl w.d),Z (.pl p.d),Z (.ol (L.map tupI)),Z (.pl (dN at_)),o4,o5,Z_,Z_,Z_,Z_] ⟨o4,o5,rfl⟩ λpre y post r e ⟨q4,q5,er⟩=>by
  have hy:y∈wfB w p c:=by rw[e]; exact ZAL _ (ZAp ..)
  obtain⟨n1,n2,n3⟩:=Zho hv hk hy;obtain⟨I2,_,_⟩:=Zso pre L I λz hz=>by have:=Zho (p:=p) hv hk (show z∈wfB w p c by rw[e]; exact ZA3 _ hz);exact⟨this.1,this.2.2⟩
  have hlen:=I2.len h7;subst er;rw[ZDJ];generalize pre.foldl ZcX L=M at *;refine⟨[Z (.pl w.d),Z (.pl p.d),Z (.ol ((ZcX M y).map tupI)),Z (.pl (dN at_)),Z (.pl (.int (prY y))),Z (.pl (.list ((wyP y).map tupI))),Z_,Z_,Z_,Z_],?_,_,_,rfl⟩;have e2:∀r:HM.Env,r[2]?=Z (Z (.ol (M.map tupI)))->Zak (tV (Zil (Zb 0) (Ze 3))) (Zb 0) r ((wyP y).map tupI)=Z (((wyP y).filter λq=>!M.contains q).map tupI):=λr r2=>by
   rw[Zbz tupI (λq=>!M.contains q) tupI]
   ·intro q _
    simp[r2,ZuO,-ZB4]
   ·intro q _ _
    simp
  have hfl:=ZA1 (λq=>!M.contains q) (wyP y);have hbig:M.length+((wyP y).filter λq=>!M.contains q).length<1000000:=by omega
  have hpb:(wyP y).length<1000000:=by omega
  unfold ZcX;simp[Zf9,e2,hpb,hbig,-ZB4]
 refine⟨p4,p5,?_⟩;unfold Zei;refine ZH (P:=λq=>q=_) (r':=r') ?_ ?_
 ·have hi:ZJ (bOf (Zn Zcv (Za (Zb 0) (Za (Zb 1) (Za (eIx (Ze 2) (Zb 3)) Zk))))) [Z (.pl w.d),Z (.pl p.d),Z (.ol (L.map tupI)),Z (.pl (dN at_)),o4,o5,Z_,Z_,Z_,Z_]=Z ((wfB w p c).map Zdk):=by
   simp[hat,hws]
  unfold ZiQ;rw[hi];dsimp only;rw[if_pos (by rw[ZAl]; show _<1000000; omega)];exact g
 ·rw[e]
  simp
theorem Zkg:∀(fuel at_:Nat) (L:List (List Int)) (o4 o5:Option B),IvL w L->at_<=L.length->129<=at_+fuel->(∀i c,i<at_->L[i]?=Z c->∀y∈wfB w p c,∀q∈wyP y,q∈L) ->
  ∃L' p4 p5,ZaY (tV (op2 gLt (Zb 3) (Z6 (Ze 2)))) Zei fuel [Z (.pl w.d),Z (.pl p.d),Z (.ol (L.map tupI)),Z (.pl (dN at_)),o4,o5,Z_,Z_,Z_,Z_]=Z (.nx [Z (.pl w.d),Z (.pl p.d),Z (.ol (L'.map tupI)),Z (.pl (dN L'.length)),p4,p5,Z_,Z_,Z_,Z_])/\IvL w L'/\Zkz (wfB w p) L'/\∀c∈L,c∈L'
 | 0,at_,L,o4,o5,I,h1,h2,_=>by have:=I.len h7; omega
 | fuel+1,at_,L,o4,o5,I,h1,h2,h3=>by
  by_cases hlt:at_<L.length
  ·have hc:L[at_]?=Z L[at_]:=ZAx hlt
   have hm:L[at_]∈L:=ZBJ hlt;obtain⟨p4,p5,ht⟩:=Zr9 hv h7 hp I hc o4 o5;obtain⟨I2,⟨N,hN⟩,hall⟩:=Zso (wfB w p L[at_]) L I λy hy=>by have:=Zho hv (I.cr _ hm) hy;exact⟨this.1,this.2.2⟩
   have hln:at_+1<=((wfB w p L[at_]).foldl ZcX L).length:=by rw[hN,ZAE]; omega
   obtain⟨L',q4,q5,g,J,hcl,hsub⟩:=Zkg fuel (at_+1) _ p4 p5 I2 hln (by omega) λi c hi hic y hy q hq=>by
    by_cases e:i=at_
    ·subst e
     rw[hN,ZA4 hlt,hc]at hic;cases hic;exact hall y hy q hq
    ·have hil:i<L.length:=by omega
     rw[hN,ZA4 hil]at hic;rw[hN];exact ZA3 _ (h3 i c (by omega) hic y hy q hq)
   refine⟨L',q4,q5,?_,J,hcl,λc hcL=>hsub c (by rw[hN]; exact ZA3 _ hcL)⟩;unfold ZaY;have e:tV (op2 gLt (Zb 3) (Z6 (Ze 2))) [Z (.pl w.d),Z (.pl p.d),Z (.ol (L.map tupI)),Z (.pl (dN at_)),o4,o5,Z_,Z_,Z_,Z_]=Z ZFt:=by simp;omega
   rw[e];dsimp only;rw[ht];exact g
  ·have e:at_=L.length:=by omega
   subst e;refine⟨L,o4,o5,?_,I,λc hc y hy q hq=>?_,λc hc=>hc⟩
   ·unfold ZaY
    have e:tV (op2 gLt (Zb 3) (Z6 (Ze 2))) [Z (.pl w.d),Z (.pl p.d),Z (.ol (L.map tupI)),Z (.pl (dN L.length)),o4,o5,Z_,Z_,Z_,Z_]=Z ZFu:=by simp
    rw[e]
   ·obtain⟨i,hi,e⟩:=ZCS hc
    exact h3 i c hi (by rw[ZAx hi,e]) y hy q hq
end
end HG23
namespace HG23
open PySem HM
open HG
open HG4
open HG5
variable{b:Bo}{c:List Int}{P:List Int->Wy->Prop}{M:Tb}{y:Wy}
theorem ZfV{g:D->D->Option D}{e f:EF}{r:HM.Env}{x y:D}{b:Bool}(h1:e r=Z x)(h2:f r=Z y)(h:g x y=Z (.bool b)):tV (op2 g e f) r=Z b:=by unfold tV op2;rw[h1,h2];show(match g x y with | some (.bool b)=>Z b | _=>Z_)=_;rw[h]
abbrev Bo:=Option (Int × List Int)
def bD:Bo->D
 | none=>.none
 | some (k,c)=>.tuple [.int k,tupI c]
def better(k:Int)(b:Bo):Bool:=match b with
 | none=>ZFt
 | some (v,_)=>decide (k<v)
def ZfU(M:Tb)(c:List Int)(b:Bo)(y:Wy):Bo:=match cbP y M with
 | some k=>if better k b then Z (k,c)else b
 | none=>b
def Zen(wf:Wf)(M:Tb)(b:Bo)(c:List Int):Bo:=if Zw M c then b else(wf c).foldl (ZfU M c) b
structure Bst(wf:Wf)(L:List (List Int))(M:Tb)(b:Bo)(P:List Int->Wy->Prop):Prop where
 ok:∀k c,b=Z (k,c)->c∈L/\Zw M c=ZFu/\∃y∈wf c,cbP y M=Z k
 mn:∀x y v,P x y->cbP y M=Z v->∃k c,b=Z (k,c)/\k<=v
section
variable{wf:Wf}{L:List (List Int)}{M:Tb}
theorem Bst.imp{Q:List Int->Wy->Prop}(h:Bst wf L M b P)(hi:∀x y,Q x y->P x y):Bst wf L M b Q:=⟨h.ok,λx y v hq=>h.mn x y v (hi x y hq)⟩
theorem ZyU(h:Bst wf L M b P)(hc:c∈L)(hn:Zw M c=ZFu)(hy:y∈wf c):Bst wf L M (ZfU M c b y) λx z=>P x z\/(x=c/\z=y):=by
 unfold ZfU;cases hk:cbP y M with
 | none =>
  refine⟨h.ok,λx z v hz hv=>?_⟩;rcases hz with hz | ⟨_,rfl⟩
  ·exact h.mn x z v hz hv
  ·rw[hk]at hv; cases hv
 | some k =>
  dsimp only;cases hb:better k b with
  | true =>
   rw[if_pos rfl];refine⟨λk' c' e=>?_,λx z v hz hv=>⟨k,c,rfl,?_⟩⟩
   ·cases e
    exact⟨hc,hn,y,hy,hk⟩
   ·rcases hz with hz | ⟨_,rfl⟩
    ·obtain⟨k',c',e,hle⟩:=h.mn x z v hz hv
     subst e;have:k<k':=of_decide_eq_true hb;omega
    ·rw[hk]at hv
     cases hv;exact Int.le_refl _
  | false =>
   rw[if_neg (by decide)];refine⟨h.ok,λx z v hz hv=>?_⟩;rcases hz with hz | ⟨_,rfl⟩
   ·exact h.mn x z v hz hv
   ·rw[hk]at hv
    cases hv
    match b,hb with
    | none,hb=>cases hb
    | some (k',c'),hb=>exact⟨k',c',rfl,by have:=of_decide_eq_false hb; omega⟩
theorem Zub{c:List Int}(hc:c∈L)(hn:Zw M c=ZFu):∀(ys:List Wy) {b:Bo} {P:List Int->Wy->Prop},(∀y∈ys,y∈wf c)->Bst wf L M b P->Bst wf L M (ys.foldl (ZfU M c) b) λx z=>P x z\/(x=c/\z∈ys)
 | [],b,P,_,h=>h.imp λx y q=>q.elim id λz=>by simp at z
 | y::ys,b,P,hy,h=>by
  have h1:=Zub hc hn ys (λz hz=>hy z (ZAq _ hz)) (ZyU h hc hn (hy y (ZAp ..)));rw[ZBu];refine h1.imp λx z q=>?_;rcases q with q | ⟨e,q⟩
  ·exact .inl (.inl q)
  ·rcases ZAy.mp q with e2 | q
   ·exact .inl (.inr ⟨e,e2⟩)
   ·exact .inr ⟨e,q⟩
theorem Zqq:∀(cs:List (List Int)) {b:Bo} {P:List Int->Wy->Prop},(∀c∈cs,c∈L)->Bst wf L M b P->Bst wf L M (cs.foldl (Zen wf M) b) λx z=>P x z\/(x∈cs/\Zw M x=ZFu/\z∈wf x)
 | [],b,P,_,h=>h.imp λx y q=>q.elim id λz=>by simp at z
 | c::cs,b,P,hc,h=>by
  rw[ZBu];cases hn:Zw M c with
  | true =>
   have e:Zen wf M b c=b:=by unfold Zen; rw[hn]; rfl
   rw[e];refine(Zqq cs (λz hz=>hc z (ZAq _ hz)) h).imp λx z q=>?_;rcases q with q | ⟨q1,q2,q3⟩
   ·exact .inl q
   ·rcases ZAy.mp q1 with e | q1
    ·rw[e,hn]at q2; cases q2
    ·exact .inr ⟨q1,q2,q3⟩
  | false =>
   have e:Zen wf M b c=(wf c).foldl (ZfU M c) b:=by unfold Zen; rw[hn]; rfl
   rw[e];refine(Zqq cs (λz hz=>hc z (ZAq _ hz)) (Zub (hc c (ZAp ..)) hn (wf c) (λ_ h=>h) h)).imp λx z q=>?_;rcases q with q | ⟨q1,q2,q3⟩
   ·exact .inl (.inl q)
   ·rcases ZAy.mp q1 with e | q1
    ·subst e; exact .inl (.inr ⟨rfl,q3⟩)
    ·exact .inr ⟨q1,q2,q3⟩
theorem Zwa:Bst wf L M (L.foldl (Zen wf M) Z_) λx z=>x∈L/\Zw M x=ZFu/\z∈wf x :=
 (Zqq (P:=λ_ _=>False) L (λ_ h=>h) ⟨(λk c e=>by cases e),λx y v z _=>ZBk z⟩).imp λx z q=>.inr q
end
section
variable{w:Wk}(hv:Wk.V w)(h7:w.many<=7){p:Pr}(hp:p.V w){L:List (List Int)}(I:IvL w L)
include hv h7 hp I
omit hp in
theorem ZmU(e2 e3 e4 e5:Option B):∀(cs:List (List Int)) (M:Tb) (o7:Option B),(∀c∈cs,c∈L)->M.length+cs.length<100000 ->
  ∃p7,ZaO 7 Zbe (cs.map tupI) [Z (.pl w.d),Z (.pl p.d),e2,e3,e4,e5,Z (.ot (encM M)),o7,Z_,Z_]=Z (.nx [Z (.pl w.d),Z (.pl p.d),e2,e3,e4,e5,Z (.ot (encM (Z9 (cs.filter λc=>Zaq w c) 0 M))),p7,Z_,Z_])
 | [],M,o7,_,_=>⟨o7,rfl⟩
 | c::cs,M,o7,hcs,hlen=>by
  rw[ZAB]at hlen;have hc:=(I.cr c (hcs c (ZAp ..))).1;have hcl:=hc.len;have ht:=ZjO hv (c:=c) (by omega);have hml:(encM M).length<1000000:=by unfold encM; rw[ZAl]; omega
  have hk:ZaT (tupI c)=Z (Z3 c):=Zar c;have hput:=Zi7 M c 0;have hpl:=ZkA c 0 M;rw[ZAt,ZBC];cases hth:Zaq w c with
  | true =>
   rw[hth]at ht;have e:Zbe [Z (.pl w.d),Z (.pl p.d),e2,e3,e4,e5,Z (.ot (encM M)),Z (.pl (tupI c)),Z_,Z_]=Z (.nx [Z (.pl w.d),Z (.pl p.d),e2,e3,e4,e5,Z (.ot (encM (putD M c 0))),Z (.pl (tupI c)),Z_,Z_]):=by rw[<-hput];simp[Zbe,ht,hk,hml]
   obtain⟨p7,ih⟩:=ZmU e2 e3 e4 e5 cs (putD M c 0) (Z (.pl (tupI c))) (λx hx=>hcs x (ZAq _ hx)) (by omega);refine⟨p7,?_⟩;rw[if_pos rfl];unfold Z9 at ih ⊢;rw[ZBu,<-ih];show(match Zbe [Z (.pl w.d),Z (.pl p.d),e2,e3,e4,e5,Z (.ot (encM M)),Z (.pl (tupI c)),Z_,Z_]with | some (.nx r')=>_ | some (.ct r')=>_ | some (.bk r')=>_ | some (.rt d)=>_ | none=>_)=_;rw[e]
  | false =>
   rw[hth]at ht;have e:Zbe [Z (.pl w.d),Z (.pl p.d),e2,e3,e4,e5,Z (.ot (encM M)),Z (.pl (tupI c)),Z_,Z_]=Z (.nx [Z (.pl w.d),Z (.pl p.d),e2,e3,e4,e5,Z (.ot (encM M)),Z (.pl (tupI c)),Z_,Z_]):=by simp[Zbe,ht]
   obtain⟨p7,ih⟩:=ZmU e2 e3 e4 e5 cs M (Z (.pl (tupI c))) (λx hx=>hcs x (ZAq _ hx)) (by omega);refine⟨p7,?_⟩;rw[if_neg (by simp),<-ih];show(match Zbe [Z (.pl w.d),Z (.pl p.d),e2,e3,e4,e5,Z (.ot (encM M)),Z (.pl (tupI c)),Z_,Z_]with | some (.nx r')=>_ | some (.ct r')=>_ | some (.bk r')=>_ | some (.rt d)=>_ | none=>_)=_;rw[e]
omit I h7 hp hv in
theorem ZoV{ps:List (List Int)}(h:ps.all (Zw M)=ZFt):(ps.filterMap λq=>Zi M q)=ps.map λq=>(Zi M q).getD 0:=by
 induction ps with
 | nil=>rfl
 | cons q ps ih=>rw[ZBA,ZAW]at h;obtain⟨v,hv⟩:=ZAX.mp (show(Zi M q).isSome=ZFt from h.1);rw[ZBK,ZAt,hv,ih h.2];rfl
omit I h7 in
theorem Zya(hc:OkC w c)(hy:y∈wfB w p c)(e2 e3 o9:Option B) :
  ∃p9,Zeh [Z (.pl w.d),Z (.pl p.d),e2,e3,Z (.pl (.int (prY y))),Z (.pl (.list ((wyP y).map tupI))),Z (.ot (encM M)),Z (.pl (tupI c)),Z (.pl (bD b)),o9]=Z (.nx [Z (.pl w.d),Z (.pl p.d),e2,e3,Z (.pl (.int (prY y))),Z (.pl (.list ((wyP y).map tupI))),Z (.ot (encM M)),Z (.pl (tupI c)),Z (.pl (bD (ZfU M c b y))),p9]):=by
 obtain⟨n1,n2,n3⟩:=Zho hv hc hy;have hne:=Ztg hc.2 hy;generalize hr:([Z (.pl w.d),Z (.pl p.d),e2,e3,Z (.pl (.int (prY y))),Z (.pl (.list ((wyP y).map tupI))),Z (.ot (encM M)),Z (.pl (tupI c)),Z (.pl (bD b)),o9]:HM.Env)=r;have g1:Zak (tV (ZbP (Zb 0) (Ze 7))) (Zb 0) r ((wyP y).map tupI)=Z (((wyP y).filter λq=>!Zw M q).map tupI):=by
  rw[Zbz tupI (λq=>!Zw M q) tupI]
  ·intro q _
   have hk:ZaT (tupI q)=Z (Z3 q):=Zar q;subst hr;simp[hk,ZbY,Zw]
  ·intro q _ _
   simp
 have f1:=Zew (I:=ZJ (bOf (Zb 5))) (c:=tV (ZbP (Zb 0) (Ze 7))) (e:=Zb 0) (r:=r) (ds:=(wyP y).map tupI) (by subst hr; rfl) (by rw[ZAl]; omega) g1;have g:=Zvb ((wyP y).filter λq=>!Zw M q);rw[filter_empty]at g;have ht:tV (op2 gEq (eOf (ZF (ZJ (bOf (Zb 5))) (tV (ZbP (Zb 0) (Ze 7))) (Zb 0))) (eOf (Zdl Zk))) r=Z ((wyP y).all λq=>Zw M q):=by refine ZfV (x:=.list (((wyP y).filter λq=>!Zw M q).map tupI)) (y:=.list []) ?_ rfl g;unfold eOf;rw[f1];rfl
 unfold Zeh;cases hall:(wyP y).all λq=>Zw M q with
 | false =>
  rw[hall]at ht;have hcb:cbP y M=Z_:=by unfold cbP ZbS;rw[if_neg (by rw[show(wyP y).all (Zw M)=ZFu from hall]; decide)];rfl
  refine⟨o9,?_⟩;unfold sIf;rw[ht];unfold ZfU;rw[hcb,hr];rfl
 | true =>
  rw[hall]at ht;have hva:=ZoV (M:=M) (ps:=wyP y) hall;have g2:Zak ZE (Z5 (Ze 7) (Zb 0)) r ((wyP y).map tupI)=Z (((wyP y).map λq=>(Zi M q).getD 0).map dI):=by
   rw[ZaF tupI (λq=>dI ((Zi M q).getD 0)),ZAI]
   ·rfl
   ·intro q hq
    have hk:ZaT (tupI q)=Z (Z3 q):=Zar q;obtain⟨v,hv'⟩:=ZAX.mp (show(Zi M q).isSome=ZFt from ZAF.mp hall q hq);have hlk:=ZbY M q;rw[hv']at hlk;subst hr;simp[hk,hlk,hv']
  have f2:=Zew (I:=ZJ (bOf (Zb 5))) (c:=ZE) (e:=Z5 (Ze 7) (Zb 0)) (r:=r) (ds:=(wyP y).map tupI) (by subst hr; rfl) (by rw[ZAl]; omega) g2;obtain⟨v,hmx⟩:∃v,((wyP y).map λq=>(Zi M q).getD 0).max?=Z v:=by
   cases hq:((wyP y).map λq=>(Zi M q).getD 0).max? with
   | some v=>exact⟨v,rfl⟩
   | none=>rw[ZDU]at hq; exact absurd (ZD7.mp hq) hne
  have hcb:cbP y M=Z (v+prY y):=by unfold cbP ZbS;rw[if_pos (show(wyP y).all (Zw M)=ZFt from hall),hva,hmx];rfl
  have hmax:Zd0 (ZF (ZJ (bOf (Zb 5))) ZE (Z5 (Ze 7) (Zb 0))) r=Z (.int v):=by unfold Zd0;rw[f2];show(match Zax (((wyP y).map λq=>(Zi M q).getD 0).map dI)with | some ns=>ns.max?.map λi=>ZA2 i | none=>Z_)=_;rw[Zby];dsimp only;rw[hmx];rfl
  refine⟨Z (.pl (.int (v+prY y))),?_⟩;unfold sIf;rw[ht];dsimp only;have hs:Z0 9 (op2 Zaz (Zb 4) (Zd0 (ZF (ZJ (bOf (Zb 5))) ZE (Z5 (Ze 7) (Zb 0))))) r=Z (.nx [Z (.pl w.d),Z (.pl p.d),e2,e3,Z (.pl (.int (prY y))),Z (.pl (.list ((wyP y).map tupI))),Z (.ot (encM M)),Z (.pl (tupI c)),Z (.pl (bD b)),Z (.pl (.int (v+prY y)))]):=by generalize Zd0 (ZF (ZJ (bOf (Zb 5))) ZE (Z5 (Ze 7) (Zb 0)))=E at hmax ⊢;rw[Int.add_comm];subst hr;simp[hmax]
  refine ZH (P:=λq=>q=_) hs ?_;unfold ZfU;rw[hcb];dsimp only
  match b with
  | none=>rfl
  | some (k,c')=>have e:tV (op2 gLt (Zb 9) (eIx (Ze 8) (eC (.int 0)))) [Z (.pl w.d),Z (.pl p.d),e2,e3,Z (.pl (.int (prY y))),Z (.pl (.list ((wyP y).map tupI))),Z (.ot (encM M)),Z (.pl (tupI c)),Z (.pl (bD (Z (k,c')))),Z (.pl (.int (v+prY y)))]=Z (decide (v+prY y<k)):=rfl;have e':tV (op2 ZiL (Zb 8) (eC .none)) [Z (.pl w.d),Z (.pl p.d),e2,e3,Z (.pl (.int (prY y))),Z (.pl (.list ((wyP y).map tupI))),Z (.ot (encM M)),Z (.pl (tupI c)),Z (.pl (bD (Z (k,c')))),Z (.pl (.int (v+prY y)))]=Z ZFu:=rfl;show sIf _ _ _ _=_;unfold sIf tOr;rw[e',e];show(match Z (decide (v+prY y<k))with | some ZFt=>_ | some ZFu=>_ | none=>Z_)=Z (Out.nx [_,_,_,_,_,_,_,_,Z (.pl (bD (if decide (v+prY y<k)=ZFt then Z (v+prY y,c)else Z (k,c')))),_]);cases decide (v+prY y<k)<;>rfl
end
end HG23
namespace HG23
open PySem HM
open HG
open HG4
open HG5
variable{M:Tb}
section
variable{w:Wk}(hv:Wk.V w)(h7:w.many<=7){p:Pr}(hp:p.V w){L:List (List Int)}(I:IvL w L)
include hv h7 hp
theorem ZxX{c:List Int}(hc:OkC w c){b:Bo}(e2 e3 o4 o5 o9:Option B) :
  ∃p4 p5 p9,Zc4 [Z (.pl w.d),Z (.pl p.d),e2,e3,o4,o5,Z (.ot (encM M)),Z (.pl (tupI c)),Z (.pl (bD b)),o9]=Z (.nx [Z (.pl w.d),Z (.pl p.d),e2,e3,p4,p5,Z (.ot (encM M)),Z (.pl (tupI c)),Z (.pl (bD (Zen (wfB w p) M b c))),p9]):=by
 have hk:ZaT (tupI c)=Z (Z3 c):=Zar c;have hlk:=ZbY M c;have ht:tV (ZbP (Zb 7) (Ze 6)) [Z (.pl w.d),Z (.pl p.d),e2,e3,o4,o5,Z (.ot (encM M)),Z (.pl (tupI c)),Z (.pl (bD b)),o9]=Z (!Zw M c):=by simp[hk,hlk,Zw]
 unfold Zc4 Zen;cases hh:Zw M c with
 | true=>rw[hh]at ht;refine⟨o4,o5,o9,?_⟩;unfold sIf;rw[ht];rfl
 | false =>
  rw[hh]at ht;obtain⟨r',g,q4,q5,q9,e⟩:=Zo6 (i:=4) (j:=5) (body:=Zeh) (λy=>ZA2 (prY y)) (λy=>.list ((wyP y).map tupI)) (λ(pre:List Wy) (r:HM.Env)=>∃o4 o5 o9,r=[Z (.pl w.d),Z (.pl p.d),e2,e3,o4,o5,Z (.ot (encM M)),Z (.pl (tupI c)),Z (.pl (bD (pre.foldl (ZfU M c) b))),o9]) (wfB w p c) [Z (.pl w.d),Z (.pl p.d),e2,e3,o4,o5,Z (.ot (encM M)),Z (.pl (tupI c)),Z (.pl (bD b)),o9] ⟨o4,o5,o9,rfl⟩ λpre y post r e ⟨q4,q5,q9,er⟩=>by
   have hy:y∈wfB w p c:=by rw[e]; exact ZAL _ (ZAp ..)
   obtain⟨p9,h1⟩:=Zya hv hp hc hy (M:=M) (b:=pre.foldl (ZfU M c) b) e2 e3 q9;subst er;rw[ZDJ];exact⟨_,h1,_,_,_,rfl⟩
  have hws:=ZkZ hv h7 hp hc;have hyl:=Zrv (p:=p) hv c;refine⟨q4,q5,q9,?_⟩;unfold sIf;rw[ht];have hi:ZJ (bOf (Zn Zcv (Za (Zb 0) (Za (Zb 1) (Za (Zb 7) Zk))))) [Z (.pl w.d),Z (.pl p.d),e2,e3,o4,o5,Z (.ot (encM M)),Z (.pl (tupI c)),Z (.pl (bD b)),o9]=Z ((wfB w p c).map Zdk):=by simp[hws]
  show ZiQ _ _ _ _ _=_;unfold ZiQ;rw[hi];dsimp only;rw[if_pos (by rw[ZAl]; show _<1000000; omega)];rw[e]at g;exact g
include I
theorem Zwx(e3 o4 o5 o7 o9:Option B) :
  ∃p4 p5 p7 p9,ZaS 7 (ZJ (bOf (Zb 2))) Zc4 [Z (.pl w.d),Z (.pl p.d),Z (.pl (.list (L.map tupI))),e3,o4,o5,Z (.ot (encM M)),o7,Z (.pl .none),o9]=Z (.nx [Z (.pl w.d),Z (.pl p.d),Z (.pl (.list (L.map tupI))),e3,p4,p5,Z (.ot (encM M)),p7,Z (.pl (bD (L.foldl (Zen (wfB w p) M) Z_))),p9]):=by
 obtain⟨r',g,q4,q5,q7,q9,e⟩:=ZfC (i:=7) (body:=Zc4) tupI (λ(pre:List (List Int)) (r:HM.Env)=>∃o4 o5 o7 o9,r=[Z (.pl w.d),Z (.pl p.d),Z (.pl (.list (L.map tupI))),e3,o4,o5,Z (.ot (encM M)),o7,Z (.pl (bD (pre.foldl (Zen (wfB w p) M) Z_))),o9]) L [Z (.pl w.d),Z (.pl p.d),Z (.pl (.list (L.map tupI))),e3,o4,o5,Z (.ot (encM M)),o7,Z (.pl .none),o9] ⟨o4,o5,o7,o9,rfl⟩ λpre c post r e ⟨q4,q5,q7,q9,er⟩=>by
  have hc:c∈L:=by rw[e]; exact ZAL _ (ZAp ..)
  obtain⟨p4,p5,p9,h1⟩:=ZxX hv h7 hp (I.cr c hc) (M:=M) (b:=pre.foldl (Zen (wfB w p) M) Z_) (Z (.pl (.list (L.map tupI)))) e3 q4 q5 q9;subst er;rw[ZDJ];exact⟨_,h1,_,_,_,_,rfl⟩
 have hlen:=I.len h7;refine⟨q4,q5,q7,q9,?_⟩;have hi:ZJ (bOf (Zb 2)) [Z (.pl w.d),Z (.pl p.d),Z (.pl (.list (L.map tupI))),e3,o4,o5,Z (.ot (encM M)),o7,Z (.pl .none),o9]=Z (L.map tupI):=rfl;unfold ZaS;rw[hi];dsimp only;rw[if_pos (by rw[ZAl]; show _<1000000; omega)];rw[e]at g;exact g
theorem Zka(G:Gd (wfB w p) L)(e3:Option B):∀(fuel:Nat) (M:Tb) (o4 o5 o7 o8 o9:Option B),ZjT w (wfB w p) L M->130<=(L.filter λc=>Zw M c).length+fuel->M.length<=128+(L.filter λc=>Zw M c).length ->
  ∃R,ZaY (tV (eC (.bool ZFt))) Zbt fuel [Z (.pl w.d),Z (.pl p.d),Z (.pl (.list (L.map tupI))),e3,o4,o5,Z (.ot (encM M)),o7,o8,o9]=Z (.rt (.dict (Zh (encM R))))/\Zkb w (wfB w p) L R
 | 0,M,o4,o5,o7,o8,o9,T,hf,_=>by have:=I.len h7;have:=ZA1 (λc=>Zw M c) L;omega
 | fuel+1,M,o4,o5,o7,o8,o9,T,hf,hM=>by
  have hlen:=I.len h7;have hfl:=ZA1 (λc=>Zw M c) L;obtain⟨p4,p5,p7,p9,hb⟩:=Zwx hv h7 hp I (M:=M) e3 o4 o5 o7 o9;have B:=Zwa (wf:=wfB w p) (L:=L) (M:=M);generalize L.foldl (Zen (wfB w p) M) Z_=b at hb B;have s1:Z0 8 (eC .none) [Z (.pl w.d),Z (.pl p.d),Z (.pl (.list (L.map tupI))),e3,o4,o5,Z (.ot (encM M)),o7,o8,o9]=Z (.nx [Z (.pl w.d),Z (.pl p.d),Z (.pl (.list (L.map tupI))),e3,o4,o5,Z (.ot (encM M)),o7,Z (.pl .none),o9]):=rfl
  match b,hb,B with
  | none,hb,B =>
   refine⟨M,?_,T,λc hc n hbuy=>Zrq G T (λx hx hn y hy=>?_) hc hbuy⟩
   ·unfold ZaY
    show(match Zbt _ with | some (.nx r')=>_ | some (.ct r')=>_ | some (.bk r')=>_ | some (.rt d)=>_ | none=>_)=_;have e:Zbt [Z (.pl w.d),Z (.pl p.d),Z (.pl (.list (L.map tupI))),e3,o4,o5,Z (.ot (encM M)),o7,o8,o9]=Z (.rt (.dict (Zh (encM M)))):=by unfold Zbt;refine ZH (P:=λq=>q=_) s1 ?_;refine ZH (P:=λq=>q=_) (r':=[Z (.pl w.d),Z (.pl p.d),Z (.pl (.list (L.map tupI))),e3,p4,p5,Z (.ot (encM M)),p7,Z (.pl .none),p9]) hb ?_;rfl
    rw[e]
   ·cases hk:cbP y M with
    | none=>rfl
    | some v=>obtain⟨k,c',e,_⟩:=B.mn x y v ⟨hx,hn,hy⟩ hk;cases e
  | some (k,c),hb,B =>
   obtain⟨hc,hn,y,hy,hk⟩:=B.ok k c rfl;obtain⟨n,rfl,hL⟩:=Zmh G T hc hn hy hk λx hx hn' y' hy' v hv'=>by obtain⟨k',c',e,hle⟩:=B.mn x y' v ⟨hx,hn',hy'⟩ hv';cases e;exact hle
   have T':=Zwd T hc hL;have hcnt:(L.filter λx=>Zw M x).length<(L.filter λx=>Zw (putD M c (n:Int)) x).length:=by
    refine Zgl (λx _ hx=>?_) ⟨c,hc,?_,hn⟩
    ·unfold Zw at hx ⊢
     rw[Zf0];split
     ·rfl
     ·exact hx
    ·unfold Zw
     rw[Zf0,if_pos rfl];rfl
   have hpl:=ZkA c (n:Int) M;obtain⟨R,g,F⟩:=Zka G e3 fuel (putD M c (n:Int)) p4 p5 p7 (Z (.pl (bD (Z ((n:Int),c))))) p9 T' (by omega) (by omega);refine⟨R,?_,F⟩;have hkk:ZaT (tupI c)=Z (Z3 c):=Zar c;have hput:=Zi7 M c (n:Int);have hml:(encM M).length<1000000:=by unfold encM; rw[ZAl]; omega
   have e:Zbt [Z (.pl w.d),Z (.pl p.d),Z (.pl (.list (L.map tupI))),e3,o4,o5,Z (.ot (encM M)),o7,o8,o9]=Z (.nx [Z (.pl w.d),Z (.pl p.d),Z (.pl (.list (L.map tupI))),e3,p4,p5,Z (.ot (encM (putD M c (n:Int)))),p7,Z (.pl (bD (Z ((n:Int),c)))),p9]):=by unfold Zbt;refine ZH (P:=λq=>q=_) s1 ?_;refine ZH (P:=λq=>q=_) (r':=[Z (.pl w.d),Z (.pl p.d),Z (.pl (.list (L.map tupI))),e3,p4,p5,Z (.ot (encM M)),p7,Z (.pl (bD (Z ((n:Int),c)))),p9]) hb ?_;refine ZH (P:=λq=>q=_) (r':=[Z (.pl w.d),Z (.pl p.d),Z (.pl (.list (L.map tupI))),e3,p4,p5,Z (.ot (encM M)),p7,Z (.pl (bD (Z ((n:Int),c)))),p9]) rfl ?_;rw[<-hput];simp[bD,hkk,hml]
   unfold ZaY;show(match Zbt _ with | some (.nx r')=>_ | some (.ct r')=>_ | some (.bk r')=>_ | some (.rt d)=>_ | none=>_)=_;rw[e];exact g
omit I in
theorem ZpU:∃L R,ZdH [w.d,p.d]=Z (.dict (Zh (encM R)))/\Zkb w (wfB w p) L R/\w.beg∈L:=by
 have I0:IvL w [w.beg]:=⟨by simp,λc hc=>by rw[ZAu.mp hc]; exact⟨hv.bc,hv.b1⟩⟩;obtain⟨L,p4,p5,g1,I,hcl,hsub⟩:=Zkg hv h7 hp 100000 0 [w.beg] Z_ Z_ I0 (ZCa _) (by omega) λi c hi=>by omega
 have hlen:=I.len h7;obtain⟨p7,g2⟩:=ZmU (p:=p) hv h7 I (Z (.pl (.list (L.map tupI)))) (Z (.pl (dN L.length))) p4 p5 L [] Z_ (λ_ h=>h) (by rw[ZEQ]; omega);have G:=gdB hp hcl λc hc=>(I.cr c hc).2;have hlk:∀c,Zi (Z9 (L.filter λc=>Zaq w c) 0 []) c=if c∈L.filter (λc=>Zaq w c)then Z 0 else Z_:=λc=>Zf3 0 c _ []
 have T:ZjT w (wfB w p) L (Z9 (L.filter λc=>Zaq w c) 0 []):=by
  refine⟨λc k hk=>?_,λc hc ht=>?_⟩
  ·rw[hlk]at hk
   split at hk
   ·rename_i hm
    cases hk;exact⟨(ZAY.mp hm).1,0,rfl,.there (ZAY.mp hm).2,λm hm'=>by omega⟩
   ·cases hk
  ·unfold Zw
   rw[hlk,if_pos (ZAY.mpr ⟨hc,ht⟩)];rfl
 have hml:(Z9 (L.filter λc=>Zaq w c) 0 []).length<=128:=by have h1:(Z9 (L.filter λc=>Zaq w c) 0 []).length<=0+(L.filter λc=>Zaq w c).length:=ZjX 0 _ [];have h2:=ZA1 (λc=>Zaq w c) L;omega
 obtain⟨R,g3,F⟩:=Zka hv h7 hp I G (Z (.pl (dN L.length))) 100000 _ p4 p5 p7 Z_ Z_ T (by omega) (by omega);refine⟨L,R,?_,F,hsub _ (ZAu.mpr rfl)⟩;show ZM (ZgG [Z (.pl w.d),Z (.pl p.d),Z_,Z_,Z_,Z_,Z_,Z_,Z_,Z_])=_;unfold ZgG;refine ZH (P:=λq=>ZM q=_) (r':=[Z (.pl w.d),Z (.pl p.d),Z (.ol ([w.beg].map tupI)),Z_,Z_,Z_,Z_,Z_,Z_,Z_]) rfl ?_;refine ZH (P:=λq=>ZM q=_) (r':=[Z (.pl w.d),Z (.pl p.d),Z (.ol ([w.beg].map tupI)),Z (.pl (dN 0)),Z_,Z_,Z_,Z_,Z_,Z_]) rfl ?_;refine ZH (P:=λq=>ZM q=_) g1 ?_;refine ZH (P:=λq=>ZM q=_) (r':=[Z (.pl w.d),Z (.pl p.d),Z (.ol (L.map tupI)),Z (.pl (dN L.length)),p4,p5,Z (.ot (encM [])),Z_,Z_,Z_]) rfl ?_;refine ZH (P:=λq=>ZM q=_) (r':=[Z (.pl w.d),Z (.pl p.d),Z (.pl (.list (L.map tupI))),Z (.pl (dN L.length)),p4,p5,Z (.ot (encM (Z9 (L.filter λc=>Zaq w c) 0 []))),p7,Z_,Z_]) ?_ ?_
 ·show ZaS 7 (ZJ (bOf (Zb 2))) Zbe [Z (.pl w.d),Z (.pl p.d),Z (.pl (.list (L.map tupI))),Z (.pl (dN L.length)),p4,p5,Z (.ot (encM [])),Z_,Z_,Z_]=_
  have hi:ZJ (bOf (Zb 2)) [Z (.pl w.d),Z (.pl p.d),Z (.pl (.list (L.map tupI))),Z (.pl (dN L.length)),p4,p5,Z (.ot (encM [])),Z_,Z_,Z_]=Z (L.map tupI):=rfl;unfold ZaS;rw[hi];dsimp only;rw[if_pos (by rw[ZAl]; show _<1000000; omega)];exact g2
 ·unfold Zh9
  rw[g3];rfl
end
end HG23
namespace HG24
open PySem HM
open HG
open HG4
open HG5
open HG6
open HG23
def Zfm:SF :=
 (Zr (Z0 2 (Zn ZdW (Za (eIx (Ze 0) (eC (.int 1))) (Za (Zb 1) Zk))))
  (Zr (sIf (tV (op2 gEq (eIx (bOf (eIx (Ze 0) (eC (.int 0)))) (eC (.int 0))) (eC (.str (ZAQ "do"))))) (ZD (Zaf (Za (eC (.str (ZAQ "do"))) (Za (eIx (bOf (eIx (Ze 0) (eC (.int 0)))) (eC (.int 1))) (Za (eIx (bOf (eIx (Ze 2) (eC (.int 0)))) (eC (.int 1))) Zk))))) Zab)
  (ZD (Zaf (Za (eC (.str (ZAQ "look"))) (Za (eIx (bOf (eIx (Ze 0) (eC (.int 0)))) (eC (.int 1))) (Za (Z1 (Za2 (ZJ (bOf (Zb 2))) ZE (Zaf (Za (eIx (Ze 0) (eC (.int 0))) (Za (Zb 1) Zk))))) Zk)))))))
def ZcD:List D->Option D:=fnOf 2 3 Zfm
def Zer(ap:AP):SF :=
 (Zr (Zsk (Zn ZeO (Za (Zb 0) Zk)))
  (Zr (Zsk (Zn Zcz (Za (Zb 0) (Za (Zb 1) Zk))))
  (Zr (Z0 2 (Zn (ZbG ap) (Za (Zb 0) (Za (Zb 1) Zk))))
  (Zr (Z0 3 (Zn (ZfH ap) (Za (Zb 0) (Za (Zb 2) (Za (eC (fnD 5 [])) Zk)))))
  (ZD (Zh7 (bOf (Zn (ZfJ ap) (Za (Zb 2) (Za (Zb 3) (Za (eC (fnD 5 [])) (Za (eC (fnD 7 [])) Zk)))))) (Zn Zcu (Za (Zb 0) Zk))))))))
def ZcU(ap:AP):List D->Option D:=fnOf 2 4 (Zer ap)
def ZbH(R:List D->Option D):SF :=
 (Zr (sIf (tV (op2 Zmy (Zb 3) (Zaf (Za (eC (.str (ZAQ "done"))) Zk)))) (ZD (eIf (tV (Zn Za1 (Za (Zb 0) (Za (Zb 2) Zk)))) (eC (.int 0)) (eC (.int (-1))))) Zab)
  (Zr (sIf (tOr (ZcW (tV (Zey (Zb 3) .tuple))) (tOr (tV (op2 gNe (Z6 (Ze 3)) (eC (.int 3)))) (tOr (ZcW (tV (Zn ZdD (Za (eIx (Ze 3) (eC (.int 1))) Zk)))) (tV (op2 gLt (eIx (Ze 3) (eC (.int 1))) (eC (.int 0))))))) (ZD (eC (.int (-1)))) Zab)
  (Zr (sIf (ZjH (tV (op2 gEq (eIx (Ze 3) (eC (.int 0))) (eC (.str (ZAQ "do"))))) (tV (op2 gLt (eIx (Ze 3) (eC (.int 1))) (Z6 (bOf (eIx (Ze 0) (eC (.int 1)))))))) (Zr (Z0 4 (Zn Zbm (Za (Zb 0) (Za (Zb 2) (Za (eIx (Ze 3) (eC (.int 1))) Zk)))))
  (Zr (sIf (tV (op2 ZiL (Zb 4) (eC .none))) (ZD (eC (.int (-1)))) Zab)
  (Zr (Z0 5 (Zn R (Za (Zb 0) (Za (Zb 1) (Za (Zb 4) (Za (eIx (Ze 3) (eC (.int 2))) Zk))))))
  (Zd5 5 (ZD (eIf (tV (op2 gLt (Zb 5) (eC (.int 0)))) (Zb 5) (op2 Zaz (Zb 5) (eIx (bOf (eIx (Ze 1) (eC (.int 0)))) (eIx (Ze 3) (eC (.int 1))))))))))) Zab)
  (Zr (sIf (tOr (tV (op2 gNe (eIx (Ze 3) (eC (.int 0))) (eC (.str (ZAQ "look"))))) (tOr (tV (op2 gGe (eIx (Ze 3) (eC (.int 1))) (Z6 (bOf (eIx (Ze 0) (eC (.int 2))))))) (ZcW (tV (Zey (eIx (Ze 3) (eC (.int 2))) .tuple))))) (ZD (eC (.int (-1)))) Zab)
  (Zr (Z0 6 (Zn ZaM (Za (Zb 0) (Za (Zaf (Za (eIx (Ze 3) (eC (.int 1))) Zk)) (Za (Zb 2) Zk)))))
  (Zr (sIf (tOr (tV (op2 gLt (Z6 (Ze 6)) (eC (.int 2)))) (tV (op2 gNe (eOf (ZF (ZJ (bOf (eIx (Ze 3) (eC (.int 2))))) ZE (eIx (Ze 0) (eC (.int 0))))) (eOf (Za2 (ZJ (bOf (Zb 6))) ZE (eIx (Ze 0) (eC (.int 0)))))))) (ZD (eC (.int (-1)))) Zab)
  (Zr (ZU 5 (ZF (ZaU (Z6 (Ze 6))) ZE (Zn R (Za (Zb 1) (Za (Zb 2) (Za (eIx (bOf (eIx (Ze 7) (Zb 0))) (eC (.int 1))) (Za (eIx (bOf (eIx (bOf (eIx (Ze 4) (eC (.int 2)))) (Zb 0))) (eC (.int 1))) Zk)))))))
  (ZD (eIf (tV (op2 gLt (Zl1 (Ze 5)) (eC (.int 0)))) (eC (.int (-1))) (op2 Zaz (Zd0 (Ze 5)) (eIx (bOf (eIx (Ze 1) (eC (.int 1)))) (eIx (Ze 3) (eC (.int 1))))))))))))))
def ZQ:Nat->List D->Option D
 | 0=>fnOf 4 7 Zii
 | n+1=>fnOf 4 7 (ZbH (ZQ n))
def Zok(ap:AP):SF :=
 (Zr (Z0 1 (Zn Zbl (Za (Zb 0) (Za (eC (.int 1)) Zk))))
  (Zr (Z0 2 (Zn Zeg (Za (Zb 1) (Za (Zn Zaw (Za (Zb 0) (Za (eC (.int 0)) Zk))) Zk))))
  (Zr (Z0 3 (Zh7 (bOf (Zn ZdH (Za (Zb 1) (Za (Zb 2) Zk)))) (eIx (Ze 1) (eC (.int 3)))))
  (Zr (Z0 4 (Zn (ZcU ap) (Za (Zb 1) (Za (Zb 2) Zk))))
  (Zr (sIf (tV (op2 ZiL (Zb 3) (eC .none))) (ZD (op2 ZiL (Zb 4) (eC .none))) Zab)
  (ZD (ZfF (Zey (Zb 4) .tuple) (op2 gEq (Zn (ZQ 40) (Za (Zb 1) (Za (Zb 2) (Za (eIx (Ze 1) (eC (.int 3))) (Za (Zb 4) Zk))))) (Zb 3)))))))))
def ZgH(ap:AP):List D->Option D:=fnOf 1 5 (Zok ap)
def ap:AP:=λt cs ds=>match t with
 | 5=>if cs.isEmpty then Zed ds else Z_
 | 6=>Zkv 1 2 (Zn ZaR (Za (Zb 1) (Za (Zb 2) (Za (Zb 0) Zk)))) cs ds
 | 7=>if cs.isEmpty then ZcD ds else Z_
 | _=>Z_
end HG24
namespace HG24
open PySem HM
open HG
open HG4
open HG5
open HG6
open HG23
section
variable{ap:AP}{wf:Wf}{cb:Cb}{L:List (List Int)}{M:Tb}{t u:Nat}{S:List Int->D}(nd:(M.map (·.1)).Nodup)(hzero:∀c,Zi M c=Z 0->S c=.tuple [.str (ZAQ "done")])
 (hstep:∀pre c post k,M.map (·.1)=pre++c::post->Zi M c=Z k->k≠0->c∈L/\(wf c).length<1000/\(∀y∈wf c,ap t [] [wyD y,.dict (Zh (encM M))]=Z (oI (cb y M)))/\∃k0 y,Za7 cb (wf c) M=Z k0/\(wf c).find? (λy=>cb y M==Z k0)=Z y/\ap u [] [wyD y,.dict (Zh (Z7 S pre))]=Z (S c)/\ZfS 400 (S c)=ZFt)
include nd hzero hstep
theorem Zsn{pre post:List (List Int)}{c:List Int}(e:M.map (·.1)=pre++c::post)(hpl:pre.length<1000000) :
  ZbF ap [Z (.pl (.dict (Zh (Zq wf L)))),Z (.hd (Zh (encM M))),Z (.pl (fnD t [])),Z (.pl (fnD u [])),Z (.ot (Z7 S pre)),Z (.pl (tupI c))]=Z (.nx [Z (.pl (.dict (Zh (Zq wf L)))),Z (.hd (Zh (encM M))),Z (.pl (fnD t [])),Z (.pl (fnD u [])),Z (.ot (Z7 S (pre++[c]))),Z (.pl (tupI c))]):=by
 have hcm:c∈M.map (·.1):=by rw[e]; exact ZAL _ (ZAp ..)
 have hh:=(ZfE M c).mpr hcm;unfold Zw at hh;obtain⟨v,hv'⟩:=ZAX.mp hh;have hnp:c ∉ pre:=λz=>by rw[e]at nd;exact(ZB7.mp nd).2.2 c z c (ZAp ..) rfl
 have hk:ZaT (tupI c)=Z (Z3 c):=Zar c;have hlk:=ZbY M c;rw[hv']at hlk;have hel:(Z7 S pre).length<1000000:=by unfold Z7; rw[ZAl]; exact hpl
 have hput:=Zvp (f:=S) hnp
 by_cases h0:v=0
 ·subst h0
  have hs:=hzero c hv';rw[<-hput,hs];have hz:tV (op2 gEq (Z5 (Ze 1) (Zb 5)) (eC (.int 0))) [Z (.pl (.dict (Zh (Zq wf L)))),Z (.hd (Zh (encM M))),Z (.pl (fnD t [])),Z (.pl (fnD u [])),Z (.ot (Z7 S pre)),Z (.pl (tupI c))]=Z ZFt:=by simp[dec_enc,hk,hlk]
  unfold ZbF sIf;rw[hz];simp[hk,hel]
 ·obtain⟨hcl,hyl,ha,k0,y,hmin,hfind,hst,hto⟩:=hstep pre c post v e hv' h0
  have hlw:=Zhm wf L c;rw[if_pos hcl]at hlw;have hbw:=Zq6 (t:=t) (cs:=[]) hyl ha hmin hfind;rw[<-hput];have hz:tV (op2 gEq (Z5 (Ze 1) (Zb 5)) (eC (.int 0))) [Z (.pl (.dict (Zh (Zq wf L)))),Z (.hd (Zh (encM M))),Z (.pl (fnD t [])),Z (.pl (fnD u [])),Z (.ot (Z7 S pre)),Z (.pl (tupI c))]=Z ZFu:=by
   have hg:Z5 (Ze 1) (Zb 5) [Z (.pl (.dict (Zh (Zq wf L)))),Z (.hd (Zh (encM M))),Z (.pl (fnD t [])),Z (.pl (fnD u [])),Z (.ot (Z7 S pre)),Z (.pl (tupI c))]=Z (.int v):=by simp[dec_enc,hk,hlk]
   exact ZfV hg (y:=.int 0) rfl (Zf1 (Zcn 1 _) (Zcn 1 _) (by decide) (by decide) λz=>h0 (by injection z))
  have hw2:Zn (ZbB ap) (Za (Z5 (Ze 0) (Zb 5)) (Za (eHd 1) (Za (Zb 2) Zk))) [Z (.pl (.dict (Zh (Zq wf L)))),Z (.hd (Zh (encM M))),Z (.pl (fnD t [])),Z (.pl (fnD u [])),Z (.ot (Z7 S pre)),Z (.pl (tupI c))]=Z (wyD y):=by simp[dec_enc,hk,hlw,hbw]
  have hval:ZgA ap 3 (Za (Zn (ZbB ap) (Za (Z5 (Ze 0) (Zb 5)) (Za (eHd 1) (Za (Zb 2) Zk)))) (Za (ZiO (Ze 4)) Zk)) [Z (.pl (.dict (Zh (Zq wf L)))),Z (.hd (Zh (encM M))),Z (.pl (fnD t [])),Z (.pl (fnD u [])),Z (.ot (Z7 S pre)),Z (.pl (tupI c))]=Z (S c):=by
   have ha:Za (Zn (ZbB ap) (Za (Z5 (Ze 0) (Zb 5)) (Za (eHd 1) (Za (Zb 2) Zk)))) (Za (ZiO (Ze 4)) Zk) [Z (.pl (.dict (Zh (Zq wf L)))),Z (.hd (Zh (encM M))),Z (.pl (fnD t [])),Z (.pl (fnD u [])),Z (.ot (Z7 S pre)),Z (.pl (tupI c))]=Z [wyD y,.dict (Zh (Z7 S pre))]:=by generalize Zn (ZbB ap) (Za (Z5 (Ze 0) (Zb 5)) (Za (eHd 1) (Za (Zb 2) Zk)))=E at hw2 ⊢;simp[hw2]
   unfold ZgA;show(match ZiY (fnD u [])with | some (t,cs)=>_ | none=>Z_)=_;rw[Zkq];dsimp only;rw[ha];dsimp only;rw[hst];dsimp only;rw[if_pos hto]
  unfold ZbF sIf;rw[hz];generalize ZgA ap 3 (Za (Zn (ZbB ap) (Za (Z5 (Ze 0) (Zb 5)) (Za (eHd 1) (Za (Zb 2) Zk)))) (Za (ZiO (Ze 4)) Zk))=E at hval ⊢;simp[hval,hk,hel]
theorem ZpR:∀(post pre:List (List Int)) (q5:Option B),M.map (·.1)=pre++post->pre.length+post.length<1000000->Zbc q5=ZFu ->
  ∃p5,Zbc p5=ZFu/\ZaO 5 (ZbF ap) (post.map tupI) [Z (.pl (.dict (Zh (Zq wf L)))),Z (.hd (Zh (encM M))),Z (.pl (fnD t [])),Z (.pl (fnD u [])),Z (.ot (Z7 S pre)),q5]=Z (.nx [Z (.pl (.dict (Zh (Zq wf L)))),Z (.hd (Zh (encM M))),Z (.pl (fnD t [])),Z (.pl (fnD u [])),Z (.ot (Z7 S (pre++post))),p5])
 | [],pre,q5,_,_,h5=>⟨q5,h5,by rw[ZCl,ZBa]; rfl⟩
 | c::post,pre,q5,e,hl,h5=>by rw[ZAB]at hl;have e1:=Zsn nd hzero hstep e (by omega);obtain⟨r5,g5,ih⟩:=ZpR post (pre++[c]) (Z (.pl (tupI c))) (by rw[e]; simp) (by rw[ZAE,ZB0]; omega) rfl;refine⟨r5,g5,?_⟩;rw[show pre++c::post=(pre++[c])++post by simp,<-ih,ZAt];show(match ZbF ap [Z (.pl (.dict (Zh (Zq wf L)))),Z (.hd (Zh (encM M))),Z (.pl (fnD t [])),Z (.pl (fnD u [])),Z (.ot (Z7 S pre)),Z (.pl (tupI c))]with | some (.nx r')=>_ | some (.ct r')=>_ | some (.bk r')=>_ | some (.rt d)=>_ | none=>_)=_;rw[e1]
theorem ZtR(hML:M.length<1000000):ZfJ ap [.dict (Zh (Zq wf L)),.dict (Zh (encM M)),fnD t [],fnD u []]=Z (.dict (Zh (Z7 S (M.map (·.1))))):=by
 obtain⟨p5,g5,hgo⟩:=ZpR nd hzero hstep (M.map (·.1)) [] Z_ rfl (by simp; exact hML) rfl;rw[ZCB]at hgo;show ZM (ZfI ap [Z (.pl (.dict (Zh (Zq wf L)))),Z (.pl (.dict (Zh (encM M)))),Z (.pl (fnD t [])),Z (.pl (fnD u [])),Z_,Z_])=_;have e:ZfI ap [Z (.pl (.dict (Zh (Zq wf L)))),Z (.pl (.dict (Zh (encM M)))),Z (.pl (fnD t [])),Z (.pl (fnD u [])),Z_,Z_]=Z (.rt (.dict (Zh (Z7 S (M.map (·.1)))))):=by
  unfold ZfI;refine ZH (P:=λq=>q=_) (r':=[Z (.pl (.dict (Zh (Zq wf L)))),Z (.pl (.dict (Zh (encM M)))),Z (.pl (fnD t [])),Z (.pl (fnD u [])),Z (.ot (Z7 S [])),Z_]) rfl ?_;refine ZH (P:=λq=>q=_) (r':=[Z (.pl (.dict (Zh (Zq wf L)))),Z (.pl (.dict (Zh (encM M)))),Z (.pl (fnD t [])),Z (.pl (fnD u [])),Z (.ot (Z7 S (M.map (·.1)))),p5]) ?_ (by simp);have hw:Za0 1 [Z (.pl (.dict (Zh (Zq wf L)))),Z (.hd (Zh (encM M))),Z (.pl (fnD t [])),Z (.pl (fnD u [])),Z (.ot (Z7 S [])),Z_]=Z ((M.map (·.1)).map tupI):=by show(ZfD (Zh (encM M))).map _=_;rw[dec_enc,<-ZjR M];rfl
  have hs:ZaS 5 (Za0 1) (ZbF ap) [Z (.pl (.dict (Zh (Zq wf L)))),Z (.hd (Zh (encM M))),Z (.pl (fnD t [])),Z (.pl (fnD u [])),Z (.ot (Z7 S [])),Z_]=Z (.nx [Z (.pl (.dict (Zh (Zq wf L)))),Z (.hd (Zh (encM M))),Z (.pl (fnD t [])),Z (.pl (fnD u [])),Z (.ot (Z7 S (M.map (·.1)))),p5]):=by unfold ZaS;rw[hw];dsimp only;rw[if_pos (by rw[ZAl,ZAl]; exact hML)];exact hgo
  have a2:([Z (B.pl (.dict (Zh (Zq wf L)))),Z_,Z (.pl (fnD t [])),Z (.pl (fnD u [])),Z (.ot (Z7 S (M.map (·.1)))),p5]:HM.Env).all (λq=>!Zbc q)=ZFt:=by simp only[ZBA,ZEJ,g5];rfl
  show(match ZaS 5 (Za0 1) (ZbF ap) [Z (.pl (.dict (Zh (Zq wf L)))),Z (.hd (Zh (encM M))),Z (.pl (fnD t [])),Z (.pl (fnD u [])),Z (.ot (Z7 S [])),Z_]with | some (.nx r')=>_ | some (.rt d)=>_ | _=>Z_)=_;rw[hs];show(if([Z (B.pl (.dict (Zh (Zq wf L)))),Z_,Z (.pl (fnD t [])),Z (.pl (fnD u [])),Z (.ot (Z7 S (M.map (·.1)))),p5]:HM.Env).all (λq=>!Zbc q)=ZFt then _ else _)=_;rw[if_pos a2];rfl
 rw[e];rfl
end
theorem ZxG{wf:Wf}{L:List (List Int)}(G:Gd wf L)(hnd:L.Nodup){M R:Tb}{k:Option Int}{found:List (List Int)}(r:Zj1 wf cbP L M k found R) :
  (M.map (·.1)).Nodup->found.Nodup->(∀c∈found,c∈L/\c ∉ M.map (·.1))->(M.map (·.2)).Pairwise (·<=·)->(∀v∈M.map (·.2),∀j,k=Z j->v<=j)->(∀j,k=Z j->∀x∈L,Zw M x=ZFu->∀y∈wf x,∀v,cbP y M=Z v->j<=v)->(R.map (·.1)).Nodup/\(R.map (·.2)).Pairwise (·<=·):=by
 induction r with
 | done=>intro h1 _ _ h4 _ _; exact⟨h1,h4⟩
 | @step M R k found hf _ ih =>
  intro h1 h2 h3 h4 h5 h6;have e:Z9 found k M=M++found.map λc=>(c,k):=Zo2 k found M h2 λc hc=>(h3 c hc).2;have e1:(M++found.map λc=>(c,k)).map (·.1)=M.map (·.1)++found:=by rw[ZAN,ZAI];congr 1;exact List.map_id found
  have hlk:∀c,Zi (Z9 found k M) c=if c∈found then Z k else Zi M c:=λc=>Zf3 k c found M
  have key:∀x∈L,Zw (Z9 found k M) x=ZFu->∀y∈wf x,∀v,cbP y (Z9 found k M)=Z v->k<=v:=λx hx hn y hy v hv=>by
   unfold cbP at hv;obtain⟨m,hm,rfl⟩:=ZAn.mp hv;obtain⟨⟨q,hq,eq⟩,hall⟩:=Zi4 hm;obtain⟨j,hj,h1j⟩:=G.pr x hx y hy
   by_cases hin:∃p∈wyP y,p∈found
   ·obtain⟨p,hp,hpf⟩:=hin
    obtain⟨v',hv',hle⟩:=hall p hp;rw[hlk,if_pos hpf]at hv';cases hv';omega
   ·have hold:∀p∈wyP y,Zi (Z9 found k M) p=Zi M p:=λp hp=>by
     rw[hlk,if_neg λz=>hin ⟨p,hp,z⟩]
    have hxn:Zw M x=ZFu:=by
     unfold Zw at hn ⊢;rw[hlk]at hn;split at hn
     ·cases hn
     ·exact hn
    obtain⟨m',hm',hle⟩:=Zlu (M:=M) (n:=m) (G.ne x hx y hy) λp hp=>by obtain⟨v',hv',hle⟩:=hall p hp;rw[hold p hp]at hv';exact⟨v',hv',hle⟩
    have:=h6 k rfl x hx hxn y hy (m'+prY y) (by unfold cbP; rw[hm']; rfl);omega
  refine ih ?_ ?_ (λc hc=>?_) ?_ (λv hv j hj=>?_) λj hj=>ZrF hj
  ·rw[e,e1,ZB7]
   exact⟨h1,h2,λa ha b hb z=>(h3 b hb).2 (z▸ha)⟩
  ·unfold Zgf
   have:((ZaG wf cbP L (Z9 found k M)).map (·.1)).Nodup:=by
    have hs:∀L':List (List Int),((ZaG wf cbP L' (Z9 found k M)).map (·.1)).Sublist L':=λL'=>by
     induction L' with
     | nil=>exact .slnil
     | cons c L' ihL =>
      unfold ZaG at ihL ⊢;rw[ZBK];cases hq:(if Zw (Z9 found k M) c then Z_ else(Za7 cbP (wf c) (Z9 found k M)).map λk=>(c,k))with
      | none=>exact ihL.cons _
      | some q =>
       have:q.1=c:=by
        split at hq
        ·cases hq
        ·obtain⟨k,_,rfl⟩:=ZAn.mp hq
         rfl
       show(ZDP (·.1) (q::_)).Sublist _;rw[ZAt,this];exact ihL.cons_cons _
    exact(hs L).nodup hnd
   exact(List.filter_sublist.map _).nodup this
  ·obtain⟨q1,q2⟩:=Zqr hc
   refine⟨q1,λz=>?_⟩;rw[(ZfE _ c).mpr z]at q2;cases q2
  ·rw[e,ZAN,ZAI,ZD2]
   refine⟨h4,?_,λa ha b hb=>?_⟩
   ·rw[ZDI]
    exact List.pairwise_of_forall λ_ _=>Int.le_refl _
   ·obtain⟨c,_,rfl⟩:=ZAv.mp hb
    exact h5 a ha k rfl
  ·unfold ZbR at hj
   obtain⟨q,hq,rfl⟩:=ZAv.mp (ZEo hj);obtain⟨o1,o2,o3⟩:=Zib.mp (show(q.1,q.2)∈_ from hq);obtain⟨⟨y,hy,hcb⟩,_⟩:=Zgy o3;have hk:=key q.1 o1 o2 y hy q.2 hcb;rw[e,ZAN,ZAI]at hv;rcases ZAV.mp hv with z | z
   ·exact Int.le_trans (h5 v z k rfl) hk
   ·obtain⟨c,_,rfl⟩:=ZAv.mp z
    exact hk
end HG24
namespace HG24
open PySem HM
open HG
open HG4
open HG5
open HG6
open HG23
variable{c:List Int}
abbrev ZaP:D:=.str (ZAQ "look")
def ZuQ(y:Wy):Bool:=match y.1 with
 | .tuple (k::_)=>ZA6 k doS
 | _=>ZFu
def ZxA(y:Wy):Int:=match y.1 with
 | .tuple [_,.int n,_]=>n
 | _=>0
def Za5(S:List Int->D)(g:Gs):D:=.tuple (g.map λq=>.tuple [dI (q.1.headD 0),S q.2])
def ZcZ(S:List Int->D)(y:Wy):D:=if ZuQ y then .tuple [doS,dI (ZxA y),S (y.2.headD ([],[])).2]else .tuple [ZaP,dI (ZxA y),Za5 S y.2]
def Zeo(wf:Wf)(R:Tb)(c:List Int):Wy:=((wf c).find? λy=>cbP y R==Zi R c).getD (.none,[])
def ZiN(wf:Wf)(R:Tb):Nat->List Int->D
 | 0,_=>ZbC
 | n+1,c=>if Zi R c=Z 0 then ZbC else ZcZ (ZiN wf R n) (Zeo wf R c)
def Zc0(wf:Wf)(R:Tb)(c:List Int):D:=ZiN wf R R.length c
theorem Zpk(S:List Int->D)(w:Wk)(p:Pr)(c:List Int)(d:Int):ZcZ S (doY w p c d)=.tuple [doS,dI d,S ((ZC w [] (Zat w c d)).headD ([],[])).2]:=by
 have:ZuQ (doY w p c d)=ZFt:=by
  show ZA6 doS doS=ZFt
  decide +kernel
 unfold ZcZ;rw[if_pos this];rfl
theorem ZlV(S:List Int->D)(w:Wk)(p:Pr)(c:List Int)(l:Int):ZcZ S (Zah w p c l)=.tuple [ZaP,dI l,Za5 S (ZC w [l] c)]:=by
 have:ZuQ (Zah w p c l)=ZFu:=by
  show ZA6 ZaP doS=ZFu
  decide +kernel
 unfold ZcZ;rw[if_neg (by rw[this]; decide)];rfl
theorem Zrf{S T:List Int->D}{y:Wy}(h0:y.2≠[])(h:∀q∈wyP y,S q=T q):ZcZ S y=ZcZ T y:=by
 unfold ZcZ;have h1:S (y.2.headD ([],[])).2=T (y.2.headD ([],[])).2:=by
  refine h _ ?_;unfold wyP;cases hy:y.2 with
  | nil=>exact absurd hy h0
  | cons q g=>exact ZAp ..
 have h2:Za5 S y.2=Za5 T y.2:=by unfold Za5;congr 1;refine ZBL λq hq=>?_;rw[h q.2 (ZAv.mpr ⟨q,hq,rfl⟩)]
 rw[h1,h2]
theorem ZmL(wf:Wf)(R:Tb):∀(n:Nat) (c:List Int),ZfS (3*n+1) (ZiN wf R n c)=ZFt
 | 0,_=>rfl
 | n+1,c=>by
  show ZfS (3*n+3+1) (if Zi R c=Z 0 then ZbC else _)=ZFt;split
  ·rfl
  ·unfold ZcZ
   split
   ·refine ZAF.mpr λx hx=>?_
    rcases ZAy.mp hx with e | hx
    ·rw[e]; rfl
    ·rcases ZAy.mp hx with e | hx
     ·rw[e]; rfl
     ·rw[ZAu.mp hx]
      exact ZlR _ _ _ (by omega) (ZmL wf R n _)
   ·refine ZAF.mpr λx hx=>?_
    rcases ZAy.mp hx with e | hx
    ·rw[e]; rfl
    ·rcases ZAy.mp hx with e | hx
     ·rw[e]; rfl
     ·rw[ZAu.mp hx]
      refine ZAF.mpr λx hx=>?_;obtain⟨q,_,rfl⟩:=ZAv.mp hx;refine ZAF.mpr λx hx=>?_;rcases ZAy.mp hx with e | hx
      ·rw[e]; rfl
      ·rw[ZAu.mp hx]
       exact ZmL wf R n _
theorem ZsN(wf:Wf)(R:Tb):∀(n:Nat) (c:List Int),(ZiN wf R n c).canLay0=ZFt
 | 0,c=>by show ZbC.canLay0=ZFt; decide +kernel
 | n+1,c=>by
  show(if Zi R c=Z 0 then ZbC else _:D).canLay0=ZFt;split
  ·decide +kernel
  ·unfold ZcZ
   split
   ·exact ZcL λx hx=>by
     rcases ZAy.mp hx with e | hx
     ·rw[e]; decide +kernel
     ·rcases ZAy.mp hx with e | hx
      ·rw[e]; rfl
      ·rw[ZAu.mp hx]; exact ZsN wf R n _
   ·exact ZcL λx hx=>by
     rcases ZAy.mp hx with e | hx
     ·rw[e]; decide +kernel
     ·rcases ZAy.mp hx with e | hx
      ·rw[e]; rfl
      ·rw[ZAu.mp hx]
       exact ZcL λx hx=>by
        obtain⟨q,_,rfl⟩:=ZAv.mp hx;exact ZcL λx hx=>by
         rcases ZAy.mp hx with e | hx
         ·rw[e]; rfl
         ·rw[ZAu.mp hx]; exact ZsN wf R n _
section
variable{w:Wk}{wf:Wf}{L:List (List Int)}{R:Tb}(G:Gd wf L)(F:Zkb w wf L R)(nd:(R.map (·.1)).Nodup)(up:(R.map (·.2)).Pairwise (·<=·))
include G F
theorem ZmB{k:Int}(hk:Zi R c=Z k)(h0:k≠0):c∈L/\Zeo wf R c∈wf c/\cbP (Zeo wf R c) R=Z k/\(wf c).find? (λy=>cbP y R==Z k)=Z (Zeo wf R c)/\Za7 cbP (wf c) R=Z k/\(∀q∈wyP (Zeo wf R c),∃j,Zi R q=Z j/\j<k)/\(Zeo wf R c).2≠[]:=by
 obtain⟨hc,n,rfl,hb,hmin⟩:=F.tab.ok c k hk;have hw:∃y∈wf c,cbP y R=Z (n:Int):=by
  cases hb with
  | there h=>exact absurd (.there h) (hmin 0 (by omega))
  | @way m j _ y hy hj h1 hp =>
   obtain⟨v,hv,hle⟩:=Zlu (M:=R) (n:=(m:Int)) (G.ne c hc y hy) λq hq=>by have hh:=F.all q (G.cl c hc y hy q hq) m (hp q hq);unfold Zw at hh;obtain⟨v,hv⟩:=ZAX.mp hh;obtain⟨_,i,rfl,hl⟩:=F.tab.ok q v hv;have:=hl.min (hp q hq);exact⟨_,hv,by omega⟩
   refine⟨y,hy,?_⟩;have e:cbP y R=Z (v+prY y):=by unfold cbP; rw[hv]; rfl
   obtain⟨i,ei,hbi⟩:=ZpI F.tab hc hy G e;rw[e];have:¬i<m+j:=λz=>hmin i z hbi;congr 1;omega
 obtain⟨y,hy,hcb⟩:=hw;have hge:∀z∈wf c,∀v,cbP z R=Z v->(n:Int)<=v:=λz hz v hv=>by obtain⟨i,rfl,hbi⟩:=ZpI F.tab hc hz G hv;have:¬i<n:=λq=>hmin i q hbi;omega
 have hf:∃z,(wf c).find? (λy=>cbP y R==Z (n:Int))=Z z:=by
  cases hq:(wf c).find? (λy=>cbP y R==Z (n:Int))with
  | some z=>exact⟨z,rfl⟩
  | none=>have:=List.find?_eq_none.mp hq y hy;rw[hcb]at this;exact absurd (beq_self_eq_true _) this
 obtain⟨z,hz⟩:=hf;have e:Zeo wf R c=z:=by unfold Zeo;rw[hk,hz];rfl
 rw[e];have hz1:=ZEA hz;have hz2:cbP z R=Z (n:Int):=by simpa using List.find?_some hz
 refine⟨hc,hz1,hz2,hz,?_,λq hq=>?_,λq=>?_⟩
 ·cases hm:Za7 cbP (wf c) R with
  | none=>unfold Za7 at hm;rw[ZCE]at hm;have:(n:Int)∈(wf c).filterMap λy=>cbP y R:=ZBs.mpr ⟨y,hy,hcb⟩;rw[hm]at this;cases this
  | some k=>obtain⟨⟨y',hy',h1⟩,h2⟩:=Zgy hm;have:=h2 y hy _ hcb;have:=hge y' hy' _ h1;congr 1;omega
 ·unfold cbP at hz2
  obtain⟨m,hm,e2⟩:=ZAn.mp hz2;obtain⟨_,hall⟩:=Zi4 hm;obtain⟨v,hv,hle⟩:=hall q hq;obtain⟨j,hj,h1⟩:=G.pr c hc z hz1;exact⟨v,hv,by omega⟩
 ·refine G.ne c hc z hz1 ?_
  unfold wyP;rw[q];rfl
include nd up
theorem ZjY:∀(n m:Nat) (pre post:List (List Int)) (c:List Int),R.map (·.1)=pre++c::post->pre.length<n->pre.length<m->ZiN wf R n c=ZiN wf R m c
 | 0,_,_,_,_,_,h,_=>by omega
 | _+1,0,_,_,_,_,_,h=>by omega
 | n+1,m+1,pre,post,c,e,h1,h2=>by
  show(if Zi R c=Z 0 then ZbC else _)=if Zi R c=Z 0 then ZbC else _
  by_cases h0:Zi R c=Z 0
  ·rw[if_pos h0,if_pos h0]
  ·rw[if_neg h0,if_neg h0]
   have hh:=(ZfE R c).mpr (by rw[e]; exact ZAL _ (ZAp ..));unfold Zw at hh;obtain⟨k,hk⟩:=ZAX.mp hh;obtain⟨_,_,_,_,_,hp,hne⟩:=ZmB G F hk λz=>h0 (by rw[hk,z]);refine Zrf hne λq hq=>?_;obtain⟨j,hj,hl⟩:=hp q hq;obtain⟨A,B,rfl⟩:=ZDu (ZmF nd up e hk hj hl);rw[ZAE,ZAB]at h1 h2;exact ZjY n m A (B++c::post) q (by rw[e]; simp) (by omega) (by omega)
theorem Zlg{k:Int}(hk:Zi R c=Z k):Zc0 wf R c=if k=0 then ZbC else ZcZ (Zc0 wf R) (Zeo wf R c):=by
 have hm:c∈R.map (·.1):=(ZfE R c).mp (by unfold Zw; rw[hk]; rfl);obtain⟨A,B,e⟩:=ZDu hm;have hl:R.length=A.length+(B.length+1):=by have:=congrArg ZA8 e;rw[ZAl,ZAE,ZAB]at this;exact this
 have:=ZjY G F nd up R.length (R.length+1) A B c e (by omega) (by omega);unfold Zc0;rw[this];show(if Zi R c=Z 0 then ZbC else ZcZ (ZiN wf R R.length) (Zeo wf R c))=_;rw[hk]
 by_cases h0:k=0
 ·rw[if_pos h0,if_pos (by rw[h0])]
 ·rw[if_neg h0,if_neg λz=>h0 (ZA9 z)]
end
end HG24
namespace HG24
open PySem HM
open HG
open HG4
open HG5
open HG6
open HG23
variable{c:List Int}{w:Wk}
theorem Zpv{l:Int}{q:List Int × List Int}(h:q∈ZC w [l] c):∃t,q.1=[t]:=by unfold ZC at h;obtain⟨k,hk,rfl⟩:=ZAv.mp h;have hg:=ZeH (Zz w [l]) c;obtain⟨s,_,e⟩:=ZAv.mp ((hg.mem _).mp ((ZbV _).mem_iff.mp hk));exact⟨Zkp w l s,e.symm⟩
theorem ZmS{p:Pr}(hc:c≠[]){y:Wy}(hy:y∈wfB w p c){S:List Int->D}{P:List (List Int)}(hl:y.2.length<1000)(h:∀q∈wyP y,q∈P):ZcD [wyD y,.dict (Zh (Z7 S P))]=Z (ZcZ S y):=by
 have hp:ZdW [.list (y.2.map ZK),.dict (Zh (Z7 S P))]=Z (Zdu S y.2):=ZsJ (by omega) h;show ZM (Zfm [Z (.pl (wyD y)),Z (.pl (.dict (Zh (Z7 S P)))),Z_])=_;unfold Zfm;refine ZH (P:=λq=>ZM q=_) (r':=[Z (.pl (wyD y)),Z (.pl (.dict (Zh (Z7 S P)))),Z (.pl (Zdu S y.2))]) ?_ ?_
 ·unfold Z0 Zn
  show ZCo _ (ZdW [.list (y.2.map ZK),.dict (Zh (Z7 S P))])=_;rw[hp];rfl
 rcases ZeI hy with⟨d,hd,rfl⟩ | ⟨l,hl',rfl,h1⟩
 ·have hg:gEq doS doS=Z (.bool ZFt):=by
   unfold gEq;rw[show Z2 doS=ZFt by decide +kernel,show ZA6 doS doS=ZFt by decide +kernel];rfl
  have hne:ZC w [] (Zat w c d)≠[]:=λz=>Zlo (w:=w) (ls:=[]) (Zl3 hc (Zcw hd).2.2) (by unfold Z4; rw[z]; rfl);rw[Zpk];show ZM (Zr (sIf _ _ _) _ [Z (.pl (wyD (doY w p c d))),Z (.pl (.dict (Zh (Z7 S P)))),Z (.pl (Zdu S (ZC w [] (Zat w c d))))])=_;have ht:tV (op2 gEq (eIx (bOf (eIx (Ze 0) (eC (.int 0)))) (eC (.int 0))) (eC (.str (ZAQ "do")))) [Z (.pl (wyD (doY w p c d))),Z (.pl (.dict (Zh (Z7 S P)))),Z (.pl (Zdu S (ZC w [] (Zat w c d))))]=Z ZFt:=ZfV rfl rfl hg;cases hs:ZC w [] (Zat w c d)with
  | nil=>exact absurd hs hne
  | cons q g =>
   rw[hs]at ht;have e1:eIx (bOf (eIx (Ze 0) (eC (.int 0)))) (eC (.int 1)) [Z (.pl (wyD (doY w p c d))),Z (.pl (.dict (Zh (Z7 S P)))),Z (.pl (Zdu S (q::g)))]=Z (dI d):=rfl;have e2:eIx (bOf (eIx (Ze 2) (eC (.int 0)))) (eC (.int 1)) [Z (.pl (wyD (doY w p c d))),Z (.pl (.dict (Zh (Z7 S P)))),Z (.pl (Zdu S (q::g)))]=Z (S q.2):=by have e0:eIx (Ze 2) (eC (.int 0)) [Z (.pl (wyD (doY w p c d))),Z (.pl (.dict (Zh (Z7 S P)))),Z (.pl (Zdu S (q::g)))]=Z (.tuple [tupI q.1,S q.2]):=Zy3 _ _;generalize eIx (Ze 2) (eC (.int 0))=E0 at e0 ⊢;simp[e0]
   unfold Zr sIf;rw[ht];generalize eIx (bOf (eIx (Ze 0) (eC (.int 0)))) (eC (.int 1))=E1 at e1 ⊢;generalize eIx (bOf (eIx (Ze 2) (eC (.int 0)))) (eC (.int 1))=E2 at e2 ⊢;simp[e1,e2,ZM]
 ·have hg:gEq ZaP doS=Z (.bool ZFu):=by
   unfold gEq;rw[show Z2 doS=ZFt by decide +kernel,show Z2 ZaP=ZFt by decide +kernel,show ZA6 ZaP doS=ZFu by decide +kernel];rfl
  rw[ZlV];show ZM (Zr (sIf _ _ _) _ [Z (.pl (wyD (Zah w p c l))),Z (.pl (.dict (Zh (Z7 S P)))),Z (.pl (Zdu S (ZC w [l] c)))])=_;have ht:tV (op2 gEq (eIx (bOf (eIx (Ze 0) (eC (.int 0)))) (eC (.int 0))) (eC (.str (ZAQ "do")))) [Z (.pl (wyD (Zah w p c l))),Z (.pl (.dict (Zh (Z7 S P)))),Z (.pl (Zdu S (ZC w [l] c)))]=Z ZFu:=ZfV rfl rfl hg;have hl2:(ZC w [l] c).length<1000:=hl;have e:=ZdQ (c:=ZE) (e:=Zaf (Za (eIx (Ze 0) (eC (.int 0))) (Za (Zb 1) Zk))) (r:=[Z (.pl (wyD (Zah w p c l))),Z (.pl (.dict (Zh (Z7 S P)))),Z (.pl (Zdu S (ZC w [l] c)))]) (λq:List Int × List Int=>tupI q.1) (λq=>S q.2) (λ_=>ZFt) (λq=>ZAU [dI (q.1.headD 0),S q.2]) (ZC w [l] c) (λ_ _=>rfl) λq hq _=>by obtain⟨t,et⟩:=Zpv hq;rw[et];rfl
  rw[ZBD.mpr λ_ _=>rfl]at e;have hf:Za2 (ZJ (bOf (Zb 2))) ZE (Zaf (Za (eIx (Ze 0) (eC (.int 0))) (Za (Zb 1) Zk))) [Z (.pl (wyD (Zah w p c l))),Z (.pl (.dict (Zh (Z7 S P)))),Z (.pl (Zdu S (ZC w [l] c)))]=Z (.ol ((ZC w [l] c).map λq=>ZAU [dI (q.1.headD 0),S q.2])):=by unfold Za2;show(if((ZC w [l] c).map λq=>ZAU [tupI q.1,S q.2]).length<big then _ else Z_)=_;rw[if_pos (by rw[ZAl]; show _<1000000; omega)];refine(congrArg (ZCo _) e).trans ?_;rfl
  have hv:Z1 (Za2 (ZJ (bOf (Zb 2))) ZE (Zaf (Za (eIx (Ze 0) (eC (.int 0))) (Za (Zb 1) Zk)))) [Z (.pl (wyD (Zah w p c l))),Z (.pl (.dict (Zh (Z7 S P)))),Z (.pl (Zdu S (ZC w [l] c)))]=Z (Za5 S (ZC w [l] c)):=by unfold Z1;rw[hf];rfl
  unfold Zr sIf;rw[ht];generalize Z1 (Za2 (ZJ (bOf (Zb 2))) ZE (Zaf (Za (eIx (Ze 0) (eC (.int 0))) (Za (Zb 1) Zk))))=E at hv ⊢;have e1:eIx (bOf (eIx (Ze 0) (eC (.int 0)))) (eC (.int 1)) [Z (.pl (wyD (Zah w p c l))),Z (.pl (.dict (Zh (Z7 S P)))),Z (.pl (Zdu S (ZC w [l] c)))]=Z (dI l):=rfl;generalize eIx (bOf (eIx (Ze 0) (eC (.int 0)))) (eC (.int 1))=E1 at e1 ⊢;simp[e1,hv,ZM]
end HG24
namespace HG24
open PySem HM
open HG
open HG4
open HG5
open HG6
open HG23
variable{L:List (List Int)}{p:Pr}{R:Tb}{w:Wk}
structure Tbl(w:Wk)(p:Pr)(L:List (List Int))(R:Tb):Prop where
 g:Gd (wfB w p) L
 f:Zkb w (wfB w p) L R
 cr:∀c∈L,OkC w c
 nd:(R.map (·.1)).Nodup
 up:(R.map (·.2)).Pairwise (·<=·)
 bl:w.beg∈L
theorem Tbl.keys(T:Tbl w p L R){c:List Int}(h:c∈R.map (·.1)):OkC w c:=by have hh:=(ZfE R c).mpr h;unfold Zw at hh;obtain⟨k,hk⟩:=ZAX.mp hh;exact T.cr c (T.f.tab.ok c k hk).1
theorem Tbl.len(T:Tbl w p L R):R.length<=2 ^ w.many:=by
 have:=Zjd T.nd λc hc=>(T.keys hc).1
 rwa [ZAl]at this
section
variable{w:Wk}(hv:Wk.V w)(h7:w.many<=7){p:Pr}(hp:p.V w)
include hv h7 hp
theorem Zvi{ap:AP}(p5:∀ds,ap 5 [] ds=Zed ds)(l6:∀cs ds,ap 6 cs ds=Zkv 1 2 (Zn ZaR (Za (Zb 1) (Za (Zb 2) (Za (Zb 0) Zk)))) cs ds)(A7:∀ds,ap 7 [] ds=ZcD ds):∃L R,Tbl w p L R/\ZcU ap [w.d,p.d]=Z (if Zw R w.beg then Zc0 (wfB w p) R w.beg else .none):=by
 have O:=Zuf hv h7 (p:=p);obtain⟨L,e1,J⟩:=Zs9 hv h7 hp l6;have cl:Zkz (wfB w p) L:=λc hc y hy q hq=>(J.cl c hc y hy q hq).elim id λz=>by simp at z
 have G:=gdB hp cl λc hc=>(J.cr c hc).2;have hbl:w.beg∈L:=(J.bg w.beg (ZAu.mpr rfl)).elim id λz=>by simp at z
 have hpb:∀c∈L,∀y∈wfB w p c,∀M:Tb,ap 5 [] [wyD y,.dict (Zh (encM M))]=Z (oI (cbP y M)):=λc hc y hy M=>by
  rw[p5];refine ZqY (by have:=O.ps c (J.cr c hc) y hy; omega) (λz=>?_) ?_ M
  ·refine G.ne c hc y hy ?_
   unfold wyP;rw[z];rfl
  ·obtain⟨a,b,k,h,_⟩:=Zm8 hy
   exact⟨a,b,k,h⟩
 obtain⟨R,e2,r⟩:=Zq7 hv (ap:=ap) (wf:=wfB w p) (t:=5) (cs:=[]) (cb:=cbP) J.nd (O.cs L J.nd J.cr) (λc hc=>(J.cr c hc).1) (λc hc=>by have:=O.ys c (J.cr c hc); omega) hpb;have F:=Ztc G r;obtain⟨nd,up⟩:=ZxG G J.nd r ZBU (J.nd.filter _) (λc hc=>⟨(ZAY.mp hc).1,by simp⟩) .nil (λv hv=>by simp at hv) λj hj x hx _ y hy v hv=>by
  unfold cbP ZbS at hv;rw[if_neg]at hv
  ·cases hv
  ·intro h
   obtain⟨q,hq⟩:=ZDk _ (G.ne x hx y hy);have:=ZAF.mp h q hq;cases this
 have T:Tbl w p L R:=⟨G,F,J.cr,nd,up,hbl⟩;have hRl:R.length<=128:=by have h1:=T.len;have h2:2 ^ w.many<=2 ^ 7:=ZDd (by decide) h7;have h3:2 ^ 7=128:=rfl;omega
 have hto:∀c,ZfS 400 (Zc0 (wfB w p) R c)=ZFt:=λc=>ZlR _ _ _ (by omega) (ZmL (wfB w p) R R.length c);have hst:=ZtR (ap:=ap) (wf:=wfB w p) (cb:=cbP) (L:=L) (M:=R) (t:=5) (u:=7) (S:=Zc0 (wfB w p) R) nd (λc hc=>by rw[Zlg G F nd up hc,if_pos rfl]) (λpre c post k e hk h0=>by obtain⟨hc,h1,h2,h3,h4,h5,h6⟩:=ZmB G F hk h0;refine⟨hc,by have:=O.ys c (J.cr c hc); omega,λy hy=>hpb c hc y hy R,k,Zeo (wfB w p) R c,h4,h3,?_,hto c⟩;rw[A7,ZmS (J.cr c hc).2 h1 (by have:=O.ps c (J.cr c hc) _ h1; omega) λq hq=>by obtain⟨j,hj,hl⟩:=h5 q hq;exact ZmF nd up e hk hj hl,Zlg G F nd up hk,if_neg h0]) (by omega);refine⟨L,R,T,?_⟩;have hc1:=ZsR hv;have hc2:=ZkF hv hp;have hb:=ZkY w;show ZM (Zer ap [Z (.pl w.d),Z (.pl p.d),Z_,Z_])=_;unfold Zer;refine ZH (P:=λq=>ZM q=_) (r':=[Z (.pl w.d),Z (.pl p.d),Z_,Z_]) (by simp[hc1]) ?_;refine ZH (P:=λq=>ZM q=_) (r':=[Z (.pl w.d),Z (.pl p.d),Z_,Z_]) (by simp[hc2]) ?_;refine ZH (P:=λq=>ZM q=_) (r':=[Z (.pl w.d),Z (.pl p.d),Z (.pl (.dict (Zh (Zq (wfB w p) L)))),Z_]) (by simp[e1]) ?_;refine ZH (P:=λq=>ZM q=_) (r':=[Z (.pl w.d),Z (.pl p.d),Z (.pl (.dict (Zh (Zq (wfB w p) L)))),Z (.pl (.dict (Zh (encM R))))]) (by simp[e2]) ?_;have hk:ZaT (tupI w.beg)=Z (Z3 w.beg):=Zar w.beg;have hlk:=Znc (Zc0 (wfB w p) R) (R.map (·.1)) w.beg;have hm:=ZfE R w.beg;simp only[ZD,Zh7,bOf,Zn,Za,Zk,Zb,eC];simp[hst,hb,dec_enc,hk,hlk]
 by_cases h:w.beg∈R.map (·.1)
 ·rw[hm.mpr h]
  simp at h;simp[h,ZM]
 ·have:Zw R w.beg=ZFu:=by
   cases q:Zw R w.beg with
   | false=>rfl
   | true=>exact absurd (hm.mp q) h
  rw[this];simp at h;simp[h,ZM]
end
end HG24
namespace HG24
open PySem HM
open HG
open HG4
open HG5
open HG6
open HG23
variable{x:D}{r:HM.Env}{c:List Int}{n:Nat}{a:SF}
theorem Zkt{x y:TF}(h1:x r=Z ZFu)(h2:y r=Z ZFu):tOr x y r=Z ZFu:=by unfold tOr;rw[h1];exact h2
theorem ZlX{c:TF}(h:c r=Z ZFu):sIf c a Zab r=Z (.nx r):=by unfold sIf;rw[h];rfl
theorem ZvP{c:TF}{b:SF}(h:c r=Z ZFt):sIf c a b r=a r:=by unfold sIf;rw[h]
theorem Zsh{a b:D}{v:Bool}(h:(Z2 a&&Z2 b)=ZFt)(e:ZA6 a b=v):gEq a b=Z (.bool v)/\gNe a b=Z (.bool (!v)):=by unfold gEq gNe;rw[h,e];exact⟨rfl,rfl⟩
abbrev ep(w:Wk)(p:Pr)(c:List Int)(s:D)(q4 q5 q6:Option B):HM.Env:=[Z (.pl w.d),Z (.pl p.d),Z (.pl (tupI c)),Z (.pl s),q4,q5,q6]
section
variable{w:Wk}(hv:Wk.V w)(h7:w.many<=7){p:Pr}(hp:p.V w)
theorem Zp3{k:D}{d:Int}(hk:ZA6 (.tuple [k,dI d,x]) ZbC=ZFu)(hd:0<=d)(hl:(ZAU [k,dI d,x]).canLay0=ZFt)(rest:SF)(P:Option Out->Prop)(h:P (rest (ep w p c (.tuple [k,dI d,x]) Z_ Z_ Z_))) :
  P (Zr (sIf (tV (op2 Zmy (Zb 3) (Zaf (Za (eC (.str (ZAQ "done"))) Zk)))) (ZD (eIf (tV (Zn Za1 (Za (Zb 0) (Za (Zb 2) Zk)))) (eC (.int 0)) (eC (.int (-1))))) Zab)
  (Zr (sIf (tOr (ZcW (tV (Zey (Zb 3) .tuple))) (tOr (tV (op2 gNe (Z6 (Ze 3)) (eC (.int 3)))) (tOr (ZcW (tV (Zn ZdD (Za (eIx (Ze 3) (eC (.int 1))) Zk)))) (tV (op2 gLt (eIx (Ze 3) (eC (.int 1))) (eC (.int 0))))))) (ZD (eC (.int (-1)))) Zab) rest) (ep w p c (.tuple [k,dI d,x]) Z_ Z_ Z_)):=by
 refine ZH (P:=P) (r':=ep w p c (.tuple [k,dI d,x]) Z_ Z_ Z_) (ZlX ?_) (ZH (P:=P) (r':=ep w p c (.tuple [k,dI d,x]) Z_ Z_ Z_) (ZlX ?_) h)
 ·refine ZfV (x:=.tuple [k,dI d,x]) (y:=ZbC) rfl rfl ?_
  unfold Zmy;rw[hl,show Z2 ZbC=ZFt by decide +kernel,hk];rfl
 ·refine Zkt rfl (Zkt rfl (Zkt rfl ?_))
  show Z (decide (d<0))=_;rw[decide_eq_false (by omega)]
include hv h7 hp
theorem Zvf(hc:OkC w c){d:Int}(hd:d∈doV w c)(hl:(ZAU [doS,dI d,x]).canLay0=ZFt){j:Nat}(hR:ZQ n [w.d,p.d,tupI (Zat w c d),x]=Z (.int j)):ZQ (n+1) [w.d,p.d,tupI c,.tuple [doS,dI d,x]]=Z (.int (j+dP p d)):=by
 obtain⟨d0,d1,d2⟩:=Zcw hd;have hled:=Zmg hv h7 hc.1 d0 d1;unfold ZsG at hled;rw[if_pos d2]at hled;have hpr:=(Zg8 (xs:=p.ds) d0 (by rw[hp.dl]; exact d1)).1;show ZM (ZbH (ZQ n) (ep w p c (.tuple [doS,dI d,x]) Z_ Z_ Z_))=_;unfold ZbH;refine Zp3 rfl d0 hl _ (λq=>ZM q=_) ?_;have ht:ZjH (tV (op2 gEq (eIx (Ze 3) (eC (.int 0))) (eC (.str (ZAQ "do"))))) (tV (op2 gLt (eIx (Ze 3) (eC (.int 1))) (Z6 (bOf (eIx (Ze 0) (eC (.int 1))))))) (ep w p c (.tuple [doS,dI d,x]) Z_ Z_ Z_)=Z ZFt:=by have h1:tV (op2 gEq (eIx (Ze 3) (eC (.int 0))) (eC (.str (ZAQ "do")))) (ep w p c (.tuple [doS,dI d,x]) Z_ Z_ Z_)=Z ZFt:=ZfV (x:=doS) (y:=doS) rfl rfl (Zsh (by decide +kernel) (by decide +kernel)).1;unfold ZjH;rw[h1];show Z (decide (d<(((w.deeds.map ZZ).length:Nat):Int)))=_;rw[ZAl,decide_eq_true d1]
 unfold Zr;rw[ZvP ht];have e1:Zn Zbm (Za (Zb 0) (Za (Zb 2) (Za (eIx (Ze 3) (eC (.int 1))) Zk))) (ep w p c (.tuple [doS,dI d,x]) Z_ Z_ Z_)=Z (tupI (Zat w c d)):=hled;have e2:Zn (ZQ n) (Za (Zb 0) (Za (Zb 1) (Za (Zb 4) (Za (eIx (Ze 3) (eC (.int 2))) Zk)))) (ep w p c (.tuple [doS,dI d,x]) (Z (.pl (tupI (Zat w c d)))) Z_ Z_)=Z (.int j):=hR;have e3:eIx (bOf (eIx (Ze 1) (eC (.int 0)))) (eIx (Ze 3) (eC (.int 1))) (ep w p c (.tuple [doS,dI d,x]) (Z (.pl (tupI (Zat w c d)))) (Z (.pl (.int j))) Z_)=Z (.int (dP p d)):=hpr;generalize Zn Zbm (Za (Zb 0) (Za (Zb 2) (Za (eIx (Ze 3) (eC (.int 1))) Zk)))=E1 at e1 ⊢;generalize Zn (ZQ n) (Za (Zb 0) (Za (Zb 1) (Za (Zb 4) (Za (eIx (Ze 3) (eC (.int 2))) Zk))))=E2 at e2 ⊢;generalize eIx (bOf (eIx (Ze 1) (eC (.int 0)))) (eIx (Ze 3) (eC (.int 1)))=E3 at e3 ⊢;have hj:¬((j:Int)<0):=by omega
 simp[ep]at e1 e2 e3;simp[ep,e1,e2,e3,hj,ZM]
omit h7 in
theorem ZsP(hc:OkC w c){l:Int}(hl':l∈alV w){S:List Int->D}(h2:1<(ZC w [l] c).length)(hl:(ZAU [ZaP,dI l,Za5 S (ZC w [l] c)]).canLay0=ZFt){f:List Int->Nat}(hR:∀q∈ZC w [l] c,ZQ n [w.d,p.d,tupI q.2,S q.2]=Z (.int (f q.2))){m:Int}(hm:((ZC w [l] c).map λq=>((f q.2:Nat):Int)).max?=Z m):ZQ (n+1) [w.d,p.d,tupI c,.tuple [ZaP,dI l,Za5 S (ZC w [l] c)]]=Z (.int (m+lP p l)):=by
 obtain⟨l0,l1⟩:=ZuC hl';have hpr:=(Zg8 (xs:=p.ls) l0 (by rw[hp.ll]; exact l1)).1;have hsp:ZaM [w.d,.tuple [dI l],tupI c]=Z (.list ((ZC w [l] c).map ZK)):=ZjM hv (ZpC l0 l1) hc.1;have hgl:(ZC w [l] c).length<1000:=by have:=split_len (w:=w) (ls:=[l]) (c:=c);have:=hc.1.len;have:=hv.m2;omega
 have hhd:=λq (hq:q∈ZC w [l] c)=>Zpv hq;generalize ZC w [l] c=g at *;show ZM (ZbH (ZQ n) (ep w p c (.tuple [ZaP,dI l,Za5 S g]) Z_ Z_ Z_))=_;unfold ZbH;refine Zp3 rfl l0 hl _ (λq=>ZM q=_) ?_;refine ZH (P:=λq=>ZM q=_) (r':=ep w p c (.tuple [ZaP,dI l,Za5 S g]) Z_ Z_ Z_) (ZlX ?_) ?_
 ·have h1:tV (op2 gEq (eIx (Ze 3) (eC (.int 0))) (eC (.str (ZAQ "do")))) (ep w p c (.tuple [ZaP,dI l,Za5 S g]) Z_ Z_ Z_)=Z ZFu:=ZfV (x:=ZaP) (y:=doS) rfl rfl (Zsh (by decide +kernel) (by decide +kernel)).1
  unfold ZjH;rw[h1]
 refine ZH (P:=λq=>ZM q=_) (r':=ep w p c (.tuple [ZaP,dI l,Za5 S g]) Z_ Z_ Z_) (ZlX ?_) ?_
 ·refine Zkt (ZfV (x:=ZaP) (y:=ZaP) rfl rfl (Zsh (v:=ZFt) (by decide +kernel) (by decide +kernel)).2) (Zkt ?_ rfl)
  show Z (decide ((((w.looks.map tupI).length:Nat):Int)<=l))=_;rw[ZAl,decide_eq_false (by omega)]
 refine ZH (P:=λq=>ZM q=_) (r':=ep w p c (.tuple [ZaP,dI l,Za5 S g]) Z_ Z_ (Z (.pl (.list (g.map ZK))))) ?_ ?_
 ·have e1:Zn ZaM (Za (Zb 0) (Za (Zaf (Za (eIx (Ze 3) (eC (.int 1))) Zk)) (Za (Zb 2) Zk))) (ep w p c (.tuple [ZaP,dI l,Za5 S g]) Z_ Z_ Z_)=Z (.list (g.map ZK)):=hsp
  unfold Z0;rw[e1];rfl
 refine ZH (P:=λq=>ZM q=_) (r':=ep w p c (.tuple [ZaP,dI l,Za5 S g]) Z_ Z_ (Z (.pl (.list (g.map ZK))))) (ZlX (Zkt ?_ ?_)) ?_
 ·show Z (decide ((((g.map ZK).length:Nat):Int)<2))=_
  rw[ZAl,decide_eq_false (by omega)]
 ·have a1:=Zew (c:=ZE) (e:=eIx (Ze 0) (eC (.int 0))) (I:=ZJ (bOf (eIx (Ze 3) (eC (.int 2))))) (r:=ep w p c (.tuple [ZaP,dI l,Za5 S g]) Z_ Z_ (Z (.pl (.list (g.map ZK))))) rfl (show(g.map λq=>ZAU [dI (q.1.headD 0),S q.2]).length<1000000 by rw[ZAl]; omega) (ZaF (λq:List Int × List Int=>ZAU [dI (q.1.headD 0),S q.2]) (λq=>dI (q.1.headD 0)) g λq _=>rfl)
  have b1:=ZdQ (c:=ZE) (e:=eIx (Ze 0) (eC (.int 0))) (r:=ep w p c (.tuple [ZaP,dI l,Za5 S g]) Z_ Z_ (Z (.pl (.list (g.map ZK))))) (λq:List Int × List Int=>tupI q.1) (λq=>tupI q.2) (λ_=>ZFt) (λq=>dI (q.1.headD 0)) g (λ_ _=>rfl) λq hq _=>by obtain⟨t,et⟩:=hhd q hq;rw[et];rfl
  rw[ZBD.mpr λ_ _=>rfl]at b1;have b2:Za2 (ZJ (bOf (Zb 6))) ZE (eIx (Ze 0) (eC (.int 0))) (ep w p c (.tuple [ZaP,dI l,Za5 S g]) Z_ Z_ (Z (.pl (.list (g.map ZK)))))=Z (.ol (g.map λq=>dI (q.1.headD 0))):=by unfold Za2;show(if(g.map ZK).length<big then _ else Z_)=_;rw[if_pos (by rw[ZAl]; show _<1000000; omega)];exact congrArg (ZCo _) b1
  refine ZfV (x:=.list (g.map λq=>dI (q.1.headD 0))) (y:=.list (g.map λq=>dI (q.1.headD 0))) ?_ ?_ (ZuW (n:=2) (ZtU λd hd=>?_) (by decide))
  ·unfold eOf
   rw[a1];rfl
  ·unfold eOf
   rw[b2];rfl
  ·obtain⟨q,_,rfl⟩:=ZAv.mp hd
   exact Zcn 1 _
 have hok:okR (g.length:Int)=ZFt:=ZcR (by omega);have hi:ZaU (Z6 (Ze 6)) (ep w p c (.tuple [ZaP,dI l,Za5 S g]) Z_ Z_ (Z (.pl (.list (g.map ZK)))))=Z ((ZAw g.length).map dN):=by
  have h0:Z6 (Ze 6) (ep w p c (.tuple [ZaP,dI l,Za5 S g]) Z_ Z_ (Z (.pl (.list (g.map ZK)))))=Z (.int g.length):=by show Z (ZA2 (((g.map ZK).length:Nat):Int))=_;rw[ZAl]
  unfold ZaU;rw[h0];dsimp only;rw[hok,if_pos rfl,ZBx,Zaj]
 have hg:Zak ZE (Zn (ZQ n) (Za (Zb 1) (Za (Zb 2) (Za (eIx (bOf (eIx (Ze 7) (Zb 0))) (eC (.int 1))) (Za (eIx (bOf (eIx (bOf (eIx (Ze 4) (eC (.int 2)))) (Zb 0))) (eC (.int 1))) Zk))))) (ep w p c (.tuple [ZaP,dI l,Za5 S g]) Z_ Z_ (Z (.pl (.list (g.map ZK))))) ((ZAw g.length).map dN)=Z ((g.map λq=>((f q.2:Nat):Int)).map dI):=by
  rw[ZaF dN (λi=>dI ((g[i]?.map λq=>((f q.2:Nat):Int)).getD 0))]
  ·congr 1
   refine List.ext_getElem (by simp) λi h1 h2=>?_;simp at h1;simp[h1]
  ·intro i hi
   have hi':=ZA5.mp hi;have e7:eIx (Ze 7) (Zb 0) (Z (.pl (dN i))::ep w p c (.tuple [ZaP,dI l,Za5 S g]) Z_ Z_ (Z (.pl (.list (g.map ZK)))))=Z (ZK g[i]):=Zcg (by simp[hi']);have e4:eIx (bOf (eIx (Ze 4) (eC (.int 2)))) (Zb 0) (Z (.pl (dN i))::ep w p c (.tuple [ZaP,dI l,Za5 S g]) Z_ Z_ (Z (.pl (.list (g.map ZK)))))=Z (.tuple [dI (g[i].1.headD 0),S g[i].2]):=by have:atD (g.map λq=>ZAU [dI (q.1.headD 0),S q.2]) (i:Int)=Z (.tuple [dI (g[i].1.headD 0),S g[i].2]):=Zcg (by simp[hi']);exact this
   have hr:=hR g[i] (ZBJ hi');generalize eIx (Ze 7) (Zb 0)=E7 at e7 ⊢;generalize eIx (bOf (eIx (Ze 4) (eC (.int 2)))) (Zb 0)=E4 at e4 ⊢;simp[ep]at e7 e4;simp[ep,e7,e4,ZK,hr,hi']
 have hf:=Zew hi (by rw[ZAl,ZBg]; omega) hg;refine ZH (P:=λq=>ZM q=_) (r':=ep w p c (.tuple [ZaP,dI l,Za5 S g]) Z_ (Z (.ol ((g.map λq=>((f q.2:Nat):Int)).map dI))) (Z (.pl (.list (g.map ZK))))) ?_ ?_
 ·unfold ZU
  rw[hf];rfl
 have hne:∃m',(g.map λq=>((f q.2:Nat):Int)).min?=Z m'/\0<=m':=by
  cases hq:(g.map λq=>((f q.2:Nat):Int)).min? with
  | none=>rw[ZCE]at hq;rw[hq]at hm;cases hm
  | some m'=>obtain⟨q,_,e⟩:=ZAv.mp (ZEo hq);exact⟨m',rfl,by omega⟩
 obtain⟨m',hm',h0⟩:=hne;have e1:Zl1 (Ze 5) (ep w p c (.tuple [ZaP,dI l,Za5 S g]) Z_ (Z (.ol ((g.map λq=>((f q.2:Nat):Int)).map dI))) (Z (.pl (.list (g.map ZK)))))=Z (.int m'):=by show(match Zax ((g.map λq=>((f q.2:Nat):Int)).map dI)with | some ns=>ns.min?.map λi=>ZA2 i | none=>Z_)=_;rw[Zby];dsimp only;rw[hm'];rfl
 have e2:Zd0 (Ze 5) (ep w p c (.tuple [ZaP,dI l,Za5 S g]) Z_ (Z (.ol ((g.map λq=>((f q.2:Nat):Int)).map dI))) (Z (.pl (.list (g.map ZK)))))=Z (.int m):=by show(match Zax ((g.map λq=>((f q.2:Nat):Int)).map dI)with | some ns=>ns.max?.map λi=>ZA2 i | none=>Z_)=_;rw[Zby];dsimp only;rw[hm];rfl
 have e3:eIx (bOf (eIx (Ze 1) (eC (.int 1)))) (eIx (Ze 3) (eC (.int 1))) (ep w p c (.tuple [ZaP,dI l,Za5 S g]) Z_ (Z (.ol ((g.map λq=>((f q.2:Nat):Int)).map dI))) (Z (.pl (.list (g.map ZK)))))=Z (.int (lP p l)):=hpr;have hj:¬(m'<0):=by omega
 generalize Zl1 (Ze 5)=E1 at e1 ⊢;generalize Zd0 (Ze 5)=E2 at e2 ⊢;generalize eIx (bOf (eIx (Ze 1) (eC (.int 1)))) (eIx (Ze 3) (eC (.int 1)))=E3 at e3 ⊢;generalize (g.map λq=>((f q.2:Nat):Int)).map dI=X at e1 e2 e3 ⊢;simp[e1,e2,e3,hj,ZM]
end
end HG24
namespace HG24
open PySem HM
open HG
open HG4
open HG5
open HG6
open HG23
section
variable{w:Wk}(hv:Wk.V w)(h7:w.many<=7){p:Pr}(hp:p.V w){L:List (List Int)}{R:Tb}(T:Tbl w p L R)
include T
theorem Zi3{c:List Int}{k:Int}(hk:Zi R c=Z k):((Zob R c:Nat):Int)=k:=by obtain⟨_,n,rfl,_⟩:=T.f.tab.ok c k hk;unfold Zob;rw[hk];rfl
theorem ZvG(c:List Int):∃ds,Zc0 (wfB w p) R c=.tuple ds:=by
 unfold Zc0;cases R.length with
 | zero=>exact⟨_,rfl⟩
 | succ n =>
  show ∃ds,(if Zi R c=Z 0 then ZbC else ZcZ _ _)=.tuple ds;split
  ·exact⟨_,rfl⟩
  ·unfold ZcZ
   split
   ·exact⟨_,rfl⟩
   ·exact⟨_,rfl⟩
include hv h7 hp
theorem Zo8:∀(n:Nat) (pre post:List (List Int)) (c:List Int) (k:Int),R.map (·.1)=pre++c::post->pre.length<n->Zi R c=Z k->ZQ n [w.d,p.d,tupI c,Zc0 (wfB w p) R c]=Z (.int k)
 | 0,_,_,_,_,_,h,_=>by omega
 | n+1,pre,post,c,k,e,hl,hk=>by
  have hcl:=(T.f.tab.ok c k hk).1;have hc:=T.cr c hcl;have hst:=Zlg T.g T.f T.nd T.up hk
  by_cases h0:k=0
  ·subst h0
   rw[if_pos rfl]at hst;rw[hst];have ht:Zaq w c=ZFt:=by
    obtain⟨_,m,em,hb,_⟩:=T.f.tab.ok c 0 hk;obtain rfl:m=0:=by omega
    generalize ez:(0:Nat)=z at hb;cases hb with
    | there h=>exact h
    | way _ _ h1 _=>omega
   have hth:=ZjO hv (c:=c) (by have:=hc.1.len; omega);rw[ht]at hth;show ZM (ZbH (ZQ n) (ep w p c ZbC Z_ Z_ Z_))=_;unfold ZbH Zr;rw[ZvP (ZfV (x:=ZbC) (y:=ZbC) rfl rfl (by unfold Zmy;rw[show ZbC.canLay0=ZFt by decide +kernel,show Z2 ZbC=ZFt by decide +kernel,show ZA6 ZbC ZbC=ZFt by decide +kernel];rfl))];have e1:Zn Za1 (Za (Zb 0) (Za (Zb 2) Zk)) (ep w p c ZbC Z_ Z_ Z_)=Z (.bool ZFt):=hth;generalize Zn Za1 (Za (Zb 0) (Za (Zb 2) Zk))=E at e1 ⊢;simp[e1,ZM]
  ·rw[if_neg h0]at hst
   obtain⟨_,h1,h2,_,_,h5,_⟩:=ZmB T.g T.f hk h0;have hlay:(Zc0 (wfB w p) R c).canLay0=ZFt:=ZsN (wfB w p) R R.length c;have ih:∀q j,Zi R q=Z j->j<k->ZQ n [w.d,p.d,tupI q,Zc0 (wfB w p) R q]=Z (.int j):=λq j hj hjk=>by obtain⟨A,B,rfl⟩:=ZDu (ZmF T.nd T.up e hk hj hjk);rw[ZAE,ZAB]at hl;exact Zo8 n A (B++c::post) q j (by rw[e]; simp) (by omega) hj
   rw[hst]at hlay ⊢;generalize Zeo (wfB w p) R c=y at *;unfold cbP at h2;obtain⟨m,hm,em⟩:=ZAn.mp h2;obtain⟨⟨q,hq,eq⟩,_⟩:=Zi4 hm;rcases ZeI h1 with⟨d,hd,rfl⟩ | ⟨l,hl',rfl,hlen⟩
   ·have hne:=Zl3 hc.2 (Zcw hd).2.2
    have hps:=parts_nil w hne;rw[Ztt,hps]at hq h5;rw[ZAu.mp hq]at eq;obtain⟨j,hj,hjk⟩:=h5 _ (ZAu.mpr rfl);have hhd:((ZC w [] (Zat w c d)).headD ([],[])).2=Zat w c d:=by
     unfold Z4 at hps;cases hs:ZC w [] (Zat w c d)with
     | nil=>rw[hs]at hps; cases hps
     | cons a as=>rw[hs,ZAt]at hps;exact(List.cons.inj hps).1
    rw[Zpk,hhd]at hlay ⊢;rw[hj]at eq;obtain rfl:=ZA9 eq;have hR:=ih _ _ hj hjk;rw[<-Zi3 T hj]at hR;rw[Zvf hv h7 hp hc hd hlay hR,Zi3 T hj,<-em,Zo4]
   ·rw[ZlV]at hlay ⊢
    have hR:∀q∈ZC w [l] c,ZQ n [w.d,p.d,tupI q.2,Zc0 (wfB w p) R q.2]=Z (.int (Zob R q.2)):=λq hq=>by obtain⟨j,hj,hjk⟩:=h5 q.2 (ZAv.mpr ⟨q,hq,rfl⟩);rw[Zi3 T hj];exact ih _ _ hj hjk
    have hmx:((ZC w [l] c).map λq=>((Zob R q.2:Nat):Int)).max?=Z m:=by
     unfold ZbS at hm;split at hm
     ·rename_i hall
      rw[ZoV hall,Zpr]at hm;unfold Z4 at hm;rw[ZAI]at hm;rw[<-hm];congr 1;refine ZBL λq hq=>?_;obtain⟨j,hj,_⟩:=h5 q.2 (ZAv.mpr ⟨q,hq,rfl⟩);rw[Zi3 T hj];show j=(Zi R q.2).getD 0;rw[hj];rfl
     ·cases hm
    rw[ZsP hv hp hc hl' hlen hlay hR hmx,<-em,Zlp]
end
theorem Zlc(ns:List Int)(h:ns.length<=63):ZgH ap [.list (ns.map dI)]=Z (.bool ZFt):=by
 have hv:=Wk.Ok.v (Zyc ns 1);have h5:(wkV ns 1).many<=5:=by have:(wkV ns 1).many=ZW ns 1:=rfl;have:=(Zku ns 1).2;omega
 have hw:=ZvK ns 1 h;have hc0:=ZeF ns 0;have hpr:=ZnX hv (Zy ns 0);have hp:=Zzg (wkV ns 1) (Zy ns 0);generalize wkV ns 1=w at *;generalize prV w (Zy ns 0)=p at *;have h7:w.many<=7:=by omega
 have hw':Zbl [.list (ns.map dI),.int 1]=Z w.d:=hw;have hc':Zaw [.list (ns.map dI),.int 0]=Z (.int (Zy ns 0)):=hc0;obtain⟨L,R,T,e1⟩:=Zvi (ap:=ap) hv h7 hp (λ_=>rfl) (λ_ _=>rfl) λ_=>rfl;obtain⟨L2,R2,e2,F2,hb2⟩:=ZpU hv h7 hp;have hd:Zi R2 w.beg=Zi R w.beg:=by
  rcases F2.at_ hb2 with⟨n,a1,a2⟩ | ⟨a1,a2⟩
  ·rcases T.f.at_ T.bl with⟨m,b1,b2⟩ | ⟨b1,b2⟩
   ·rw[a1,b1,a2.unique b2]
   ·exact absurd a2.1 (b2 n)
  ·rcases T.f.at_ T.bl with⟨m,b1,b2⟩ | ⟨b1,b2⟩
   ·exact absurd b2.1 (a2 m)
   ·rw[a1,b1]
 have hk:ZaT (tupI w.beg)=Z (Z3 w.beg):=Zar w.beg;have hlk:=ZbY R2 w.beg;rw[hd]at hlk;have hgo:((Zi (encM R2) (Z3 w.beg)).getD .none)=oI (Zi R w.beg):=by rw[hlk];cases Zi R w.beg<;>rfl
 have h3:Zh7 (bOf (Zn ZdH (Za (Zb 1) (Za (Zb 2) Zk)))) (eIx (Ze 1) (eC (.int 3))) [Z (.pl (.list (ns.map dI))),Z (.pl w.d),Z (.pl p.d),Z_,Z_]=Z (oI (Zi R w.beg)):=by have hb:eIx (Ze 1) (eC (.int 3)) [Z (.pl (.list (ns.map dI))),Z (.pl w.d),Z (.pl p.d),Z_,Z_]=Z (tupI w.beg):=rfl;generalize eIx (Ze 1) (eC (.int 3))=E at hb ⊢;simp[e2,hb,dec_enc,hk,hgo]
 show ZM (Zok ap [Z (.pl (.list (ns.map dI))),Z_,Z_,Z_,Z_])=_;unfold Zok;refine ZH (P:=λq=>ZM q=_) (r':=[Z (.pl (.list (ns.map dI))),Z (.pl w.d),Z_,Z_,Z_]) (by simp[hw']) ?_;refine ZH (P:=λq=>ZM q=_) (r':=[Z (.pl (.list (ns.map dI))),Z (.pl w.d),Z (.pl p.d),Z_,Z_]) (by simp[hc',hpr]) ?_;refine ZH (P:=λq=>ZM q=_) (r':=[Z (.pl (.list (ns.map dI))),Z (.pl w.d),Z (.pl p.d),Z (.pl (oI (Zi R w.beg))),Z_]) (by unfold Z0; rw[h3]; rfl) ?_;refine ZH (P:=λq=>ZM q=_) (r':=[Z (.pl (.list (ns.map dI))),Z (.pl w.d),Z (.pl p.d),Z (.pl (oI (Zi R w.beg))),Z (.pl (if Zw R w.beg then Zc0 (wfB w p) R w.beg else .none))]) (by simp[e1]) ?_;have hh:Zw R w.beg=(Zi R w.beg).isSome:=rfl;cases hq:Zi R w.beg with
 | none=>rw[hh,hq];rfl
 | some k =>
  rw[hh,hq];have hm:w.beg∈R.map (·.1):=(ZfE R w.beg).mp (by rw[hh,hq]; rfl);obtain⟨A,B,e⟩:=ZDu hm;have hl:A.length<40:=by have h1:=T.len;have h2:2 ^ w.many<=2 ^ 5:=ZDd (by decide) h5;have h3:2 ^ 5=32:=rfl;have h4:=congrArg ZA8 e;rw[ZAl,ZAE,ZAB]at h4;omega
  have hpe:=Zo8 hv h7 hp T 40 A B w.beg k e hl hq;obtain⟨ds,hds⟩:=ZvG T w.beg;rw[hds]at hpe;show ZM (Zr _ _ [Z (.pl (.list (ns.map dI))),Z (.pl w.d),Z (.pl p.d),Z (.pl (.int k)),Z (.pl (Zc0 (wfB w p) R w.beg))])=_;rw[hds];refine ZH (P:=λq=>ZM q=_) (r':=[Z (.pl (.list (ns.map dI))),Z (.pl w.d),Z (.pl p.d),Z (.pl (.int k)),Z (.pl (.tuple ds))]) rfl ?_;have hc:Zn (ZQ 40) (Za (Zb 1) (Za (Zb 2) (Za (eIx (Ze 1) (eC (.int 3))) (Za (Zb 4) Zk)))) [Z (.pl (.list (ns.map dI))),Z (.pl w.d),Z (.pl p.d),Z (.pl (.int k)),Z (.pl (.tuple ds))]=Z (.int k):=hpe;have hg:=Zez (Zcn 1 k) (by decide);generalize Zn (ZQ 40) (Za (Zb 1) (Za (Zb 2) (Za (eIx (Ze 1) (eC (.int 3))) (Za (Zb 4) Zk))))=E at hc ⊢;have hr:op2 gEq E (Zb 3) [Z (.pl (.list (ns.map dI))),Z (.pl w.d),Z (.pl p.d),Z (.pl (.int k)),Z (.pl (.tuple ds))]=Z (.bool ZFt):=by unfold op2;rw[hc];exact hg
  unfold ZD ZfF;rw[hr];rfl
end HG24
namespace HT
open PySem PySem.Spec PyProof.Rows L2 HP HM
open HG
open HG4
open HG5
open HG6
open HG23
open HG24
variable{c f f0:Addr}{osl:Array (Option Value)}{fd fd0:FuncData}{h:Heap}{ps:List Str}{an od:Option Addr}{st:Stmt}{n x:Str}{cdv ct doc oc pm:Value}
def top(i:Nat):Stmt:=PySem.Challenge.pw_halfseen_k24_bought_plans.main.body.getD i (.Pass ⟨0,0,0,0⟩)
abbrev ZgI:Stmt:=top 9
abbrev Zjx:Stmt:=top 10
abbrev ZgJ:Stmt:=top 11
abbrev Zgn:Stmt:=top 12
abbrev Zgo:Stmt:=top 13
abbrev ZeY:Stmt:=top 14
abbrev ZeZ:Stmt:=top 15
abbrev Zhz:Stmt:=top 16
abbrev ZgK:Stmt:=top 17
abbrev ZhA:Stmt:=top 18
abbrev ZhB:Stmt:=top 19
abbrev ZhC:Stmt:=top 20
abbrev Zit:Stmt:=top 21
abbrev Ziu:Stmt:=top 22
abbrev Zgp:Stmt:=top 23
abbrev ZdX:Stmt:=top 25
abbrev Zej:Stmt:=top 26
abbrev Zjy:Stmt:=top 27
abbrev Zhh:Stmt:=top 28
abbrev ZfK:Stmt:=top 29
abbrev ZcE:Stmt:=top 32
abbrev Ze0:Stmt:=top 33
abbrev Zc5:Stmt:=top 34
abbrev Zga:Stmt:=top 35
abbrev Zdc:Stmt:=top 36
abbrev ZfL:Stmt:=top 37
abbrev ZhD:Stmt:=top 38
abbrev ZcV:Stmt:=top 39
abbrev Ze1:Stmt:=top 40
abbrev Zgq:Stmt:=top 41
abbrev Zdp:Stmt:=top 45
abbrev Zd2:Stmt:=top 46
abbrev Zdq:Stmt:=top 47
abbrev Zcl:Stmt:=top 48
abbrev Zfn:Stmt:=top 49
abbrev ZfM:Stmt:=top 50
abbrev ZcF:Stmt:=top 51
abbrev ZL:Stmt:=top 52
abbrev Zes:Stmt:=top 53
abbrev ZhE:Stmt:=top 55
abbrev Ziv:Stmt:=top 56
abbrev ZgL:Stmt:=top 57
abbrev Ze2:Stmt:=top 58
abbrev ZhF:Stmt:=top 59
abbrev ZhG:Stmt:=top 60
abbrev Ze3:Stmt:=top 61
abbrev Ziw:Stmt:=top 62
abbrev ZdI:Stmt:=top 63
abbrev Ze4:Stmt:=top 64
abbrev Zc6:Stmt:=top 65
abbrev ZfN:Stmt:=top 66
abbrev ZcG:Stmt:=top 67
abbrev Zb5:Stmt:=top 68
abbrev ZgM:Stmt:=top 69
structure Def(K:ZAo)(mg:Str->Option Value)(x:Str)(st:Stmt)(ps:List Str):Prop where
 ex:∃f fd,Fun K x x st f fd/\mg x=Z (.ref f)/\Binds K fd ps []
structure Txt(K:ZAo)(mg:Str->Option Value):Prop where
 n_len:mg "len" = Z_
 n_tuple:mg "tuple" = Z_
 n_list:mg "list" = Z_
 n_set:mg "set" = Z_
 n_sorted:mg "sorted" = Z_
 n_range:mg "range" = Z_
 n_all:mg "all" = Z_
 n_isinstance:mg "isinstance" = Z_
 n_int:mg "int" = Z_
 n_bool:mg "bool" = Z_
 n_max:mg "max" = Z_
 n_min:mg "min" = Z_
 n_enumerate:mg "enumerate" = Z_
 c_MOST_STATES:∃t,mg "MOST_STATES" = Z (.int 8 t)
 c_MOST_DEEDS:∃t,mg "MOST_DEEDS" = Z (.int 5 t)
 c_MOST_LOOKS:∃t,mg "MOST_LOOKS" = Z (.int 4 t)
 c_MOST_SEEN:∃t,mg "MOST_SEEN" = Z (.int 9 t)
 c_LEAST_PRICE:∃t,mg "LEAST_PRICE" = Z (.int 1 t)
 c_MOST_PRICE:∃t,mg "MOST_PRICE" = Z (.int 20 t)
 c_DONE:∃a,mg "DONE" = Z (.ref a)/\Zp2 K a [.str "done"]
section
variable[FX]{P:Program}{w:World}{K:ZAo}{mg:Str->Option Value}{base:Heap}{k:Nat}
set_option maxHeartbeats 8000000
theorem scM{N:List Str}{sc:Scope}(a:sc.kind=.function:=by rfl)(b:sc.isCoroutine=ZFu:=by rfl)(c:sc.isGenerator=ZFu:=by rfl)(d:N.Nodup:=by decide +kernel)(e:N.take ps.length=ps:=by rfl)(f:∀x∈ps,sc.names.lookup x=Z .local\/sc.names.lookup x=Z .cell:=by decide +kernel)(g:∀y∈sc.names,y.2≠.free:=by decide +kernel):Zu N ps sc:=⟨a,b,c,d,e,f,g⟩
theorem Def.ok{x:Str}{st:Stmt}{N ps:List Str}{g:HM.SF}(D:Def K mg x st ps)(S:Zu N ps (Zf st))(body:∀(f:Addr) (cdv:Value) (A:Around) (outer:List PySem.Env) (s:Shared) (H:Hp) (E:XK),Zap k (A.deeper (envOfC x (Zf st) s.heap.objs.size f cdv))->XSs (Zge CX0 P w K mg base N x (Zf st) f cdv A outer s H E).nox (ZaZ st) g):Callee P w K mg base (k+1) x (HM.fnOf ps.length N.length g):=by obtain⟨f,fd,F,m,b⟩:=D.ex;exact Zke F S m b (body f)
theorem Cup{j:Nat}{M:List PyData->Option PyData}(C:Callee P w K mg base j x M)(h:j<=k:=by decide):Callee P w K mg base k x M:=C.mono h
theorem Zol:Zu ["_law_script","_law_k"] ["_law_script","_law_k"] (Zf ZhE):=scM
theorem Zom(T:Txt K mg)(D:Def K mg "_law_cell" ZhE ["_law_script","_law_k"]):Callee P w K mg base (k+1) "_law_cell" Zaw :=
 D.ok Zol λ_ cdv A outer s H E hr=>by
  exact(Zj (Zal (ZV cLt (Zc 1) (ZaI T.n_len (Zo 0))) (Zm (Zx (Zt (Zo 0) (Zc 1)))) ZT)
  (Zm (Zx Zg)))
theorem Zqx:Zu ["_law_cell_here","_law_prime","_law_many"] ["_law_cell_here","_law_prime","_law_many"] (Zf Ziv):=scM
theorem Zqy(T:Txt K mg)(D:Def K mg "_law_mix" Ziv ["_law_cell_here","_law_prime","_law_many"]):Callee P w K mg base (k+1) "_law_mix" ZN :=
 D.ok Zqx λ_ cdv A outer s H E hr=>by exact(Zm (Zx (ZG oMod (ZG oMod (ZG Zfd (Zc 0) Zg) (Zc 1)) (Zc 2))))
abbrev ZgW:List Str:=["_law_cell_here","_law_many","_law_least_here","_law_found"]
theorem Zgb:Zu ZgW ["_law_cell_here","_law_many","_law_least_here"] (Zf Ze2):=scM
theorem Znv(T:Txt K mg)(ZO:Callee P w K mg base k "_law_mix" ZN)(D:Def K mg "_law_crowd" Ze2 ["_law_cell_here","_law_many","_law_least_here"]):Callee P w K mg base (k+1) "_law_crowd" Zb1 :=
 D.ok Zgb λ_ cdv A outer s H E hr=>by
  exact(Zj (ZdU 3 Zgb.nd rfl rfl (N:="_law_state" :: ZgW) (ZA (sc:=Zf Ze2) (XN:=ZgW)) (Zbs T.n_range (Zc 1)) (λ_ _ _ _ _=>(ZcB (ZV cLt (Zp ZO hr (Zd (ZG Zbg (ZG Zbg (Zc 1) (ZG Zfd (ZG Zfd Zg (Zc 0)) (Zc 0))) (ZG Zfd Zg (Zc 0))) (Zd Zg (Zd Zg Zl)))) Zg))) (λ_ _ _ _ _=>(Zc 0)))
  (Zj (Zal (ZV cLt (ZaI T.n_len (Zo 3)) (Zc 2)) (Zm (Zau 3 Zgb.nd (ZbD (Zd (Zp ZO hr (Zd (Zc 0) (Zd Zg (Zd (Zc 1) Zl)))) Zl)))) ZT)
  (Zm (Zx (Zaa T.n_tuple (Zo 3))))))
theorem ZcH:Zu ["_law_cell_here","_law_many","_law_found","_law_state","_law_seed","_law_way","_law_row"] ["_law_cell_here","_law_many"] (Zf ZhF):=scM
theorem Zon(T:Txt K mg)(ZO:Callee P w K mg base k "_law_mix" ZN)(D:Def K mg "_law_deed" ZhF ["_law_cell_here","_law_many"]):Callee P w K mg base (k+1) "_law_deed" Zeb :=
 D.ok ZcH λ_ cdv A outer s H E hr=>by
  have hu:=Zdv hr;exact(Zj (Zau 2 ZcH.nd (ZbD Zl))
  (Zj (Zbv 3 ZcH.nd rfl rfl (Zbs T.n_range (Zc 1)) (Zj (ZS 4 ZcH.nd (ZG Zbg (ZG Zbg (Zc 0) (ZG Zfd (ZG Zfd Zg (Zc 3)) (Zc 3))) (ZG Zfd Zg (Zc 3))))
  (Zj (ZS 5 ZcH.nd (Zp ZO hr (Zd (Zc 4) (Zd Zg (Zd Zg Zl)))))
  (Zj (Zau 6 ZcH.nd (Zup (Zp ZO hr (Zd (Zc 4) (Zd Zg (Zd (Zc 1) Zl)))) Zdb))
  (Zj (Zal (ZV cLt (Zc 5) Zg) (Zm (ZeM hu 6 (Zp ZO hr (Zd (Zc 4) (Zd Zg (Zd (Zc 1) Zl)))) Zdb)) ZT)
  (Zj (Zdx 2 (Zaa T.n_tuple (ZaD (Zhe T.n_sorted rfl (Zo 6)))))
  (Zm (Zal (ZV (cEq hr) (Zc 5) Zg) (Zm (Zv1 2 ZgD (ZaH Zl))) ZT))))))))
  (Zm (Zx (Zaa T.n_tuple (Zo 2))))))
theorem Zb6:Zu ["_law_cell_here","_law_many","_law_left","_law_right","_law_state","_law_ahead","_law_behind","_law_slips"] ["_law_cell_here","_law_many"] (Zf ZhG):=scM
theorem Zoo(T:Txt K mg)(ZO:Callee P w K mg base k "_law_mix" ZN)(D:Def K mg "_law_walk" ZhG ["_law_cell_here","_law_many"]):Callee P w K mg base (k+1) "_law_walk" Zec :=
 D.ok Zb6 λ_ cdv A outer s H E hr=>by
  exact(Zj (Zau 2 Zb6.nd (ZbD Zl))
  (Zj (Zau 3 Zb6.nd (ZbD Zl))
  (Zj (Zbv 4 Zb6.nd rfl rfl (Zbs T.n_range (Zc 1)) (Zj (ZS 5 Zb6.nd (Zw7 T.n_max rfl (ZG ZvN (Zc 4) Zg) Zg))
  (Zj (ZS 6 Zb6.nd (Zw8 T.n_min rfl (ZG Zbg (Zc 4) Zg) (ZG ZvN (Zc 1) Zg)))
  (Zj (ZS 7 Zb6.nd (ZhZ (cEq hr) (Zp ZO hr (Zd (ZG Zbg (Zc 0) (ZG Zfd Zg (Zc 4))) (Zd Zg (Zd Zg Zl)))) Zg))
  (Zj (Zdx 2 (Zaa T.n_tuple (ZaD (Zjo T.n_sorted T.n_set rfl (ZaD (ZlB (ZaD (ZbD (Zd (Zc 5) Zl))) (ZaD (Zw9 (ZaD (ZbD (Zd (Zc 4) Zl))) (Zuo T.n_int (Zc 7))))))))))
  (Zm (Zdx 3 (ZaH (Zd (Zc 6) Zl)))))))))
  (Zm (Zx (ZaH (Zd (Zaa T.n_tuple (Zo 2)) (Zd (Zaa T.n_tuple (Zo 3)) Zl))))))))
abbrev Zg1:List Str:=["_law_script","_law_at","_law_cell_here","_law_many","_law_deeds","_law_k","_law_looks","_law_seed","_law_most","_law_begin","_law_goal"]
theorem Zag:Zu Zg1 ["_law_script","_law_at"] (Zf Ze3):=scM
theorem Znw(T:Txt K mg)(Zbb:Callee P w K mg base k "_law_cell" Zaw)(Ze5:Callee P w K mg base k "_law_crowd" Zb1)(ZO:Callee P w K mg base k "_law_mix" ZN)(ZhH:Callee P w K mg base k "_law_deed" Zeb)(ZhI:Callee P w K mg base k "_law_walk" Zec)(D:Def K mg "_law_works" Ze3 ["_law_script","_law_at"]):Callee P w K mg base (k+1) "_law_works" Zbl :=
 D.ok Zag λ_ cdv A outer s H E hr=>by
  exact(Zj (ZS 2 Zag.nd (Zp Zbb hr (Zd (Zc 0) (Zd (Zc 1) Zl))))
  (Zj (ZS 3 Zag.nd (ZG Zbg Zg (Zp ZO hr (Zd (Zc 2) (Zd Zg (Zd Zg Zl))))))
  (Zj (Zal (ZV cGt (ZaI T.n_len (Zo 0)) Zg) (Zm (ZS 3 Zag.nd (ZG Zbg Zg (Zp ZO hr (Zd (Zc 2) (Zd Zg (Zd Zg Zl))))))) ZT)
  (Zj (Zau 4 Zag.nd (ZbD Zl))
  (Zj (Zbv 5 Zag.nd rfl rfl (Zbs T.n_range (ZG Zbg Zg (Zp ZO hr (Zd (Zc 2) (Zd Zg (Zd Zg Zl)))))) (Zm (Zdx 4 (Zp ZhH hr (Zd (ZG Zbg (Zp Zbb hr (Zd (Zc 0) (Zd (ZG Zbg (ZG Zbg (Zc 1) Zg) (Zc 5)) Zl))) (ZG Zfd Zg (Zc 5))) (Zd (Zc 3) Zl))))))
  (Zj (Zal (ZV (cEq hr) (Zp ZO hr (Zd (Zc 2) (Zd Zg (Zd Zg Zl)))) Zg) (Zm (Zau 4 Zag.nd (ZlB (ZaD (Zjn T.n_list (ZR (Zp ZhI hr (Zd (Zp Zbb hr (Zd (Zc 0) (Zd (ZG Zbg (Zc 1) Zg) Zl))) (Zd (Zc 3) Zl)))))) (ZaD (Zxa (Zo 4) ZwT (Zv7 Zg)))))) ZT)
  (Zj (Zau 6 Zag.nd (ZbD Zl))
  (Zj (Zbv 5 Zag.nd rfl rfl (Zbs T.n_range (Zp ZO hr (Zd (Zc 2) (Zd Zg (Zd Zg Zl))))) (Zj (ZS 7 Zag.nd (ZG Zbg (Zp Zbb hr (Zd (Zc 0) (Zd (ZG Zbg (ZG Zbg (Zc 1) Zg) (Zc 5)) Zl))) (ZG Zfd Zg (Zc 5))))
  (Zj (ZS 8 Zag.nd (ZG Zbg Zg (Zp ZO hr (Zd (Zc 7) (Zd Zg (Zd Zg Zl))))))
  (Zm (Zdx 6 (Zaa T.n_tuple (ZaD (Zad rfl rfl (N:="_law_state" :: Zg1) (ZA (sc:=Zf Ze3) (XN:=Zg1)) (Zbs T.n_range (Zc 3)) (λ_ _ _ _ _=>Zas) (λ_ _ _ _ _=>(Zp ZO hr (Zd (ZG Zbg (Zc 8) (ZG Zfd (ZG Zfd Zg (Zc 0)) (Zc 0))) (Zd Zg (Zd (Zc 9) Zl)))))))))))))
  (Zj (ZS 9 Zag.nd (Zp Ze5 hr (Zd (Zp Zbb hr (Zd (Zc 0) (Zd (ZG Zbg (Zc 1) Zg) Zl))) (Zd (Zc 3) (Zd Zg Zl)))))
  (Zj (Zal (ZV (cEq hr) (Zp ZO hr (Zd (Zc 2) (Zd Zg (Zd Zg Zl)))) Zg) (Zm (ZS 9 Zag.nd (Zqv T.n_tuple T.n_range rfl (Zc 3)))) ZT)
  (Zj (ZS 10 Zag.nd (Zp Ze5 hr (Zd (Zp Zbb hr (Zd (Zc 0) (Zd (ZG Zbg (Zc 1) Zg) Zl))) (Zd (Zc 3) (Zd Zg Zl)))))
  (Zm (Zx (ZaH (Zd (Zc 3) (Zd (Zaa T.n_tuple (Zo 4)) (Zd (Zaa T.n_tuple (Zo 6)) (Zd (Zc 9) (Zd (Zc 10) Zl)))))))))))))))))))
abbrev Zda:List Str:=["_law_works_here","_law_cell_here","_law_deeds","_law_looks"]
theorem Zfo:Zu Zda ["_law_works_here","_law_cell_here"] (Zf Zc6):=scM
theorem Zmj(T:Txt K mg)(ZO:Callee P w K mg base k "_law_mix" ZN)(D:Def K mg "_law_prices" Zc6 ["_law_works_here","_law_cell_here"]):Callee P w K mg base (k+1) "_law_prices" Zeg :=
 D.ok Zfo λ_ cdv A outer s H E hr=>by
  exact(Zj (ZS 2 Zfo.nd (Zaa T.n_tuple (ZaD (Zad rfl rfl (N:="_law_k" :: Zda) (ZA (sc:=Zf Zc6) (XN:=Zda)) (Zbs T.n_range (ZaI T.n_len (ZR (Zt (Zo 0) Zg)))) (λ_ _ _ _ _=>Zas) (λ_ _ _ _ _=>(ZG Zbg Zg (Zp ZO hr (Zd (ZG Zbg (Zc 2) (ZG Zfd Zg (Zc 0))) (Zd Zg (Zd Zg Zl))))))))))
  (Zj (ZS 3 Zfo.nd (Zaa T.n_tuple (ZaD (Zad rfl rfl (N:="_law_k" :: Zda) (ZA (sc:=Zf Zc6) (XN:=Zda)) (Zbs T.n_range (ZaI T.n_len (ZR (Zt (Zo 0) Zg)))) (λ_ _ _ _ _=>Zas) (λ_ _ _ _ _=>(ZG Zbg Zg (Zp ZO hr (Zd (ZG Zbg (ZG Zbg (Zc 2) (ZG Zfd Zg (Zc 0))) Zg) (Zd Zg (Zd Zg Zl))))))))))
  (Zm (Zx (ZaH (Zd (Zc 2) (Zd (Zc 3) Zl)))))))
theorem Znx:Zu ["thing","least","most"] ["thing","least","most"] (Zf ZgI):=scM
theorem Zny(T:Txt K mg)(D:Def K mg "is_number" ZgI ["thing","least","most"]):Callee P w K mg base (k+1) "is_number" ZaJ :=
 D.ok Znx λ_ cdv A outer s H E hr=>by
  exact(Zj (Zal (Zin (ZeL (Zbi (ZkI T.n_isinstance T.n_bool (Zc 0))) (ZfY (Zci (Zbi (ZlA T.n_isinstance T.n_int (Zc 0))))))) (Zm (Zx Zdb)) ZT)
  (Zm (Zx (Zoc cLe cLe (Zc 1) (Zc 0) (Zc 2)))))
theorem Zek:Zu ["thing","many","least","number"] ["thing","many"] (Zf ZgJ):=scM
theorem Znz(T:Txt K mg)(ZaN:Callee P w K mg base k "is_number" ZaJ)(D:Def K mg "is_rising" ZgJ ["thing","many"]):Callee P w K mg base (k+1) "is_rising" ZaL :=
 D.ok Zek λ_ cdv A outer s H E hr=>by
  exact(Zj (Zal (Zci (Zbi (Zdw T.n_isinstance T.n_tuple (Zc 0)))) (Zm (Zx Zdb)) ZT)
  (Zj (ZS 2 Zek.nd Zg)
  (Zj (Zbv 3 Zek.nd rfl rfl (ZP (Zc 0)) (Zj (Zal (Zci (Zbi (Zp ZaN hr (Zd (Zc 3) (Zd (Zc 2) (Zd (ZG ZvN (Zc 1) Zg) Zl)))))) (Zm (Zx Zdb)) ZT)
  (Zm (ZS 2 Zek.nd (ZG Zbg (Zc 3) Zg)))))
  (Zm (Zx Zdb)))))
theorem Zop:Zu ["thing","many"] ["thing","many"] (Zf Zhz):=scM
theorem Zoq(T:Txt K mg)(Zbn:Callee P w K mg base k "is_rising" ZaL)(D:Def K mg "is_crowd" Zhz ["thing","many"]):Callee P w K mg base (k+1) "is_crowd" Zea :=
 D.ok Zop λ_ cdv A outer s H E hr=>by exact(Zm (Zx (Zd9 (Zp Zbn hr (Zd (Zc 0) (Zd (Zc 1) Zl))) (Zd8 (ZhZ cGt (ZaI T.n_len (Zo 0)) Zg)))))
theorem ZrT:Zu ["thing","least","most"] ["thing","least","most"] (Zf Zjx):=scM
theorem ZrU(T:Txt K mg)(D:Def K mg "is_row" Zjx ["thing","least","most"]):Callee P w K mg base (k+1) "is_row" ZaA :=
 D.ok ZrT λ_ cdv A outer s H E hr=>by exact(Zm (Zx (Zd9 (Zdw T.n_isinstance T.n_tuple (Zc 0)) (Zd8 (Zoc cLe cLe (Zc 1) (ZaI T.n_len (Zo 0)) (Zc 2))))))
theorem Zqz:Zu ["thing","many"] ["thing","many"] (Zf Zgn):=scM
theorem ZqA(T:Txt K mg)(Zac:Callee P w K mg base k "is_row" ZaA)(Zbn:Callee P w K mg base k "is_rising" ZaL)(D:Def K mg "is_deed" Zgn ["thing","many"]):Callee P w K mg base (k+1) "is_deed" ZcS :=
 D.ok Zqz λ_ cdv A outer s H E hr=>by exact(Zm (Zx (Zd9 (Zp Zac hr (Zd (Zc 0) (Zd (Zc 1) (Zd (Zc 1) Zl)))) (Zd8 (ZgE T.n_all rfl (ZaD (Zad rfl rfl (N:=["crowd","thing","many"]) (ZA (sc:=Zf Zgn) (XN:=["thing","many"])) (ZP (Zc 0)) (λ_ _ _ _ _=>Zas) (λ_ _ _ _ _=>(Zp Zbn hr (Zd (Zc 0) (Zd (Zc 2) Zl)))))))))))
theorem ZnA:Zu ["thing","many"] ["thing","many"] (Zf ZeY):=scM
theorem ZnB(T:Txt K mg)(Zac:Callee P w K mg base k "is_row" ZaA)(Zix:Callee P w K mg base k "is_deed" ZcS)(D:Def K mg "are_deeds" ZeY ["thing","many"]):Callee P w K mg base (k+1) "are_deeds" Zdy :=
 D.ok ZnA λ_ cdv A outer s H E hr=>by exact(Zm (Zx (Zd9 (Zp Zac hr (Zd (Zc 0) (Zd Zg (Zd (Zgz T.c_MOST_DEEDS) Zl)))) (Zd8 (ZgE T.n_all rfl (ZaD (Zad rfl rfl (N:=["deed","thing","many"]) (ZA (sc:=Zf ZeY) (XN:=["thing","many"])) (ZP (Zc 0)) (λ_ _ _ _ _=>Zas) (λ_ _ _ _ _=>(Zp Zix hr (Zd (Zc 0) (Zd (Zc 2) Zl)))))))))))
theorem ZqB:Zu ["thing","many"] ["thing","many"] (Zf Zgo):=scM
theorem ZqC(T:Txt K mg)(Zac:Callee P w K mg base k "is_row" ZaA)(ZaN:Callee P w K mg base k "is_number" ZaJ)(D:Def K mg "is_look" Zgo ["thing","many"]):Callee P w K mg base (k+1) "is_look" ZcT :=
 D.ok ZqB λ_ cdv A outer s H E hr=>by exact(Zm (Zx (Zd9 (Zp Zac hr (Zd (Zc 0) (Zd (Zc 1) (Zd (Zc 1) Zl)))) (Zd8 (ZgE T.n_all rfl (ZaD (Zad rfl rfl (N:=["told","thing","many"]) (ZA (sc:=Zf Zgo) (XN:=["thing","many"])) (ZP (Zc 0)) (λ_ _ _ _ _=>Zas) (λ_ _ _ _ _=>(Zp ZaN hr (Zd (Zc 0) (Zd Zg (Zd (Zgz T.c_MOST_SEEN) Zl))))))))))))
theorem ZnC:Zu ["thing","many"] ["thing","many"] (Zf ZeZ):=scM
theorem ZnD(T:Txt K mg)(Zac:Callee P w K mg base k "is_row" ZaA)(Ziy:Callee P w K mg base k "is_look" ZcT)(D:Def K mg "are_looks" ZeZ ["thing","many"]):Callee P w K mg base (k+1) "are_looks" Zdz :=
 D.ok ZnC λ_ cdv A outer s H E hr=>by exact(Zm (Zx (Zd9 (Zp Zac hr (Zd (Zc 0) (Zd Zg (Zd (Zgz T.c_MOST_LOOKS) Zl)))) (Zd8 (ZgE T.n_all rfl (ZaD (Zad rfl rfl (N:=["look","thing","many"]) (ZA (sc:=Zf ZeZ) (XN:=["thing","many"])) (ZP (Zc 0)) (λ_ _ _ _ _=>Zas) (λ_ _ _ _ _=>(Zp Ziy hr (Zd (Zc 0) (Zd (Zc 2) Zl)))))))))))
theorem Zjf:Zu ["thing","many"] ["thing"] (Zf ZgK):=scM
theorem ZnE(T:Txt K mg)(ZhJ:Callee P w K mg base k "is_crowd" Zea)(Zbn:Callee P w K mg base k "is_rising" ZaL)(Zac:Callee P w K mg base k "is_row" ZaA)(ZaN:Callee P w K mg base k "is_number" ZaJ)(ZgN:Callee P w K mg base k "are_deeds" Zdy)(ZgO:Callee P w K mg base k "are_looks" Zdz)(D:Def K mg "are_works" ZgK ["thing"]):Callee P w K mg base (k+1) "are_works" ZdA :=
 D.ok Zjf λ_ cdv A outer s H E hr=>by
  exact(Zj (Zal (Zin (ZeL (Zci (Zbi (Zp Zac hr (Zd (Zc 0) (Zd Zg (Zd Zg Zl)))))) (ZfY (Zci (Zbi (Zp ZaN hr (Zd (Zt (Zo 0) Zg) (Zd Zg (Zd (Zgz T.c_MOST_STATES) Zl))))))))) (Zm (Zx Zdb)) ZT)
  (Zj (ZS 1 Zjf.nd (Zt (Zo 0) Zg))
  (Zj (Zal (Zin (ZeL (Zci (Zbi (Zp ZgN hr (Zd (Zt (Zo 0) Zg) (Zd (Zc 1) Zl))))) (ZfY (Zci (Zbi (Zp ZgO hr (Zd (Zt (Zo 0) Zg) (Zd (Zc 1) Zl)))))))) (Zm (Zx Zdb)) ZT)
  (Zm (Zx (Zd9 (Zp ZhJ hr (Zd (Zt (Zo 0) Zg) (Zd (Zc 1) Zl))) (Zd8 (Zp Zbn hr (Zd (Zt (Zo 0) Zg) (Zd (Zc 1) Zl))))))))))
theorem ZqD:Zu ["works"] ["works"] (Zf Ziu):=scM
theorem ZqE(T:Txt K mg)(ZgP:Callee P w K mg base k "are_works" ZdA)(D:Def K mg "checked" Ziu ["works"]):Callee P w K mg base (k+1) "checked" ZeO :=
 D.ok ZqD λ_ cdv A outer s H E hr=>by
  exact(Zj (Zal (Zci (Zbi (Zp ZgP hr (Zd (Zc 0) Zl)))) (Zm Zk0) ZT)
  (Zm (Zx (Zc 0))))
theorem Zk3:Zu ["thing","many"] ["thing","many"] (Zf Zdp):=scM
theorem Zk4(T:Txt K mg)(Zac:Callee P w K mg base k "is_row" ZaA)(ZaN:Callee P w K mg base k "is_number" ZaJ)(D:Def K mg "is_price_row" Zdp ["thing","many"]):Callee P w K mg base (k+1) "is_price_row" ZbO :=
 D.ok Zk3 λ_ cdv A outer s H E hr=>by exact(Zm (Zx (Zd9 (Zp Zac hr (Zd (Zc 0) (Zd (Zc 1) (Zd (Zc 1) Zl)))) (Zd8 (ZgE T.n_all rfl (ZaD (Zad rfl rfl (N:=["price","thing","many"]) (ZA (sc:=Zf Zdp) (XN:=["thing","many"])) (ZP (Zc 0)) (λ_ _ _ _ _=>Zas) (λ_ _ _ _ _=>(Zp ZaN hr (Zd (Zc 0) (Zd (Zgz T.c_LEAST_PRICE) (Zd (Zgz T.c_MOST_PRICE) Zl))))))))))))
theorem Zor:Zu ["works"] ["works"] (Zf ZhA):=scM
theorem Zos(T:Txt K mg)(D:Def K mg "deeds_of" ZhA ["works"]):Callee P w K mg base (k+1) "deeds_of" Za9 :=
 D.ok Zor λ_ cdv A outer s H E hr=>by exact(Zm (Zx (Zt (Zo 0) Zg)))
theorem Zot:Zu ["works"] ["works"] (Zf ZhB):=scM
theorem Zou(T:Txt K mg)(D:Def K mg "looks_of" ZhB ["works"]):Callee P w K mg base (k+1) "looks_of" Zct :=
 D.ok Zot λ_ cdv A outer s H E hr=>by exact(Zm (Zx (Zt (Zo 0) Zg)))
theorem Zjz:Zu ["works","prices"] ["works","prices"] (Zf Zd2):=scM
theorem ZjA(T:Txt K mg)(Zac:Callee P w K mg base k "is_row" ZaA)(Zdr:Callee P w K mg base k "is_price_row" ZbO)(Za4:Callee P w K mg base k "deeds_of" Za9)(Zdd:Callee P w K mg base k "looks_of" Zct)(D:Def K mg "checked_prices" Zd2 ["works","prices"]):Callee P w K mg base (k+1) "checked_prices" Zcz :=
 D.ok Zjz λ_ cdv A outer s H E hr=>by
  exact(Zj (Zal (Zci (Zbi (Zp Zac hr (Zd (Zc 1) (Zd Zg (Zd Zg Zl)))))) (Zm Zk0) ZT)
  (Zj (Zal (Zin (ZeL (Zci (Zbi (Zp Zdr hr (Zd (Zt (Zo 1) Zg) (Zd (ZaI T.n_len (ZR (Zp Za4 hr (Zd (Zc 0) Zl)))) Zl))))) (ZfY (Zci (Zbi (Zp Zdr hr (Zd (Zt (Zo 1) Zg) (Zd (ZaI T.n_len (ZR (Zp Zdd hr (Zd (Zc 0) Zl)))) Zl)))))))) (Zm Zk0) ZT)
  (Zm (Zx (Zc 1)))))
theorem Zjg:Zu ["rows"] ["rows"] (Zf ZcE):=scM
theorem Zmk(T:Txt K mg)(Fn:Fun K "crowds_in" "crowds_in" ZcE f fd)(hm:mg "crowds_in" = Z (.ref f))(hb:Binds K fd ["rows"] []):ZeK P w K mg base (k+1) "crowds_in" Zao :=
 ZsU Fn Zjg hm hb rfl (λr b h=>Zvx _ _ _ r b h) λcdv A outer s H E hr=>by exact(Zad rfl rfl (N:=["row","rows"]) (ZA (sc:=Zf ZcE) (XN:=["rows"])) (ZP (Zc 0)) (λ_ _ _ _ _=>Zas) (λ_ _ _ _ _=>(Zt (Zo 0) Zg)))
theorem ZnF(T:Txt K mg)(D:Def K mg "crowds_in" ZcE ["rows"]):Callee P w K mg base (k+1) "crowds_in" Zao :=
 D.ok Zjg λ_ cdv A outer s H E hr=>by exact(Zm (Zx (Zcb (Zad rfl rfl (N:=["row","rows"]) (ZA (sc:=Zf ZcE) (XN:=["rows"])) (ZP (Zc 0)) (λ_ _ _ _ _=>Zas) (λ_ _ _ _ _=>(Zt (Zo 0) Zg))))))
theorem Zgm:Zu ["rows","costs","known"] ["rows","costs"] (Zf ZcV):=scM
theorem ZkC(T:Txt K mg)(ZdJ:Callee P w K mg base k "crowds_in" Zao)(D:Def K mg "cost_at_worst" ZcV ["rows","costs"]):Callee P w K mg base (k+1) "cost_at_worst" Zbx :=
 D.ok Zgm λ_ cdv A outer s H E hr=>by
  have hu:=Zdv hr;exact(Zj (ZdU 2 Zgm.nd rfl rfl (N:=["part","rows","costs","known"]) (ZA (sc:=Zf ZcV) (XN:=["rows","costs","known"])) (ZP (Zp ZdJ hr (Zd (Zc 0) Zl))) (λ_ _ _ _ _=>(ZcB (Zxc hu (Zc 0) (Zo 2)))) (λ_ _ _ _ _=>(ZdV hu (Zo 2) (Zc 0))))
  (Zm (Zx (Zlz (ZV (cEq hr) (ZaI T.n_len (Zo 2)) (ZaI T.n_len (Zo 0))) (Zmi T.n_max rfl (Zo 2)) Zb0))))
theorem ZjB:Zu ["way","costs","most"] ["way","costs"] (Zf ZfM):=scM
theorem Zov(T:Txt K mg)(Zet:Callee P w K mg base k "cost_at_worst" Zbx)(D:Def K mg "price_by" ZfM ["way","costs"]):Callee P w K mg base (k+1) "price_by" Zed :=
 D.ok ZjB λ_ cdv A outer s H E hr=>by
  exact(Zj (ZS 2 ZjB.nd (Zp Zet hr (Zd (Zt (Zo 0) Zg) (Zd (Zc 1) Zl))))
  (Zm (Zx (Zlz (ZV ZmQ (Zc 2) Zb0) Zb0 (ZG Zbg (Zc 2) (Zt (ZR (Zt (Zo 0) Zg)) Zg))))))
theorem ZqF:Zu ["rows","steps"] ["rows","steps"] (Zf Zgq):=scM
theorem ZqG(T:Txt K mg)(D:Def K mg "plan_of" Zgq ["rows","steps"]):Callee P w K mg base (k+1) "plan_of" ZdW :=
 D.ok ZqF λ_ cdv A outer s H E hr=>by have hu:=Zdv hr;exact(Zm (Zx (Zaa T.n_tuple (ZaD (Zio rfl rfl (N:=["seen","part","rows","steps"]) (ZA (sc:=Zf Zgq) (XN:=["rows","steps"])) (ZP (Zc 0)) (λ_ _ _ _ _=>Zas) (λ_ _ _ _ _=>(ZaH (Zd (Zc 0) (Zd (ZdV hu (Zo 3) (Zc 1)) Zl)))))))))
theorem Zhi:Zu ["way","steps","rows"] ["way","steps"] (Zf ZcF):=scM
theorem ZlG(T:Txt K mg)(Ziz:Callee P w K mg base k "plan_of" ZdW)(D:Def K mg "bought_step" ZcF ["way","steps"]):Callee P w K mg base (k+1) "bought_step" ZcD :=
 D.ok Zhi λ_ cdv A outer s H E hr=>by
  exact(Zj (ZS 2 Zhi.nd (Zp Ziz hr (Zd (Zt (Zo 0) Zg) (Zd (Zc 1) Zl))))
  (Zj (Zal (ZV (cEq hr) (Zt (ZR (Zt (Zo 0) Zg)) Zg) ZfX) (Zm (Zx (ZaH (Zd ZfX (Zd (Zt (ZR (Zt (Zo 0) Zg)) Zg) (Zd (Zt (ZR (Zt (Zo 2) Zg)) Zg) Zl)))))) ZT)
  (Zm (Zx (ZaH (Zd ZfX (Zd (Zt (ZR (Zt (Zo 0) Zg)) Zg) (Zd (Zaa T.n_tuple (ZaD (Zio rfl rfl (N:=["seen","step","way","steps","rows"]) (ZA (sc:=Zf ZcF) (XN:=["way","steps","rows"])) (ZP (Zc 2)) (λ_ _ _ _ _=>Zas) (λ_ _ _ _ _=>(ZaH (Zd (Zt (Zo 0) Zg) (Zd (Zc 1) Zl))))))) Zl))))))))
theorem ZqH:Zu ["works","looks","state"] ["works","looks","state"] (Zf Zgp):=scM
theorem ZqI(T:Txt K mg)(Zdd:Callee P w K mg base k "looks_of" Zct)(D:Def K mg "seen_in" Zgp ["works","looks","state"]):Callee P w K mg base (k+1) "seen_in" ZeP :=
 D.ok ZqH λ_ cdv A outer s H E hr=>by exact(Zm (Zx (Zaa T.n_tuple (ZaD (Zad rfl rfl (N:=["look","works","looks","state"]) (ZA (sc:=Zf Zgp) (XN:=["works","looks","state"])) (ZP (Zc 1)) (λ_ _ _ _ _=>Zas) (λ_ _ _ _ _=>(Zt (ZR (Zt (ZR (Zp Zdd hr (Zd (Zc 1) Zl))) (Zc 0))) (Zc 3))))))))
abbrev Zj0:List Str:=["works","looks","crowd","found","state"]
theorem ZiA:Zu Zj0 ["works","looks","crowd"] (Zf Zhh):=scM
theorem ZrV(T:Txt K mg)(ZiB:Callee P w K mg base k "seen_in" ZeP)(D:Def K mg "parted" Zhh ["works","looks","crowd"]):Callee P w K mg base (k+1) "parted" ZbE :=
 D.ok ZiA λ_ cdv A outer s H E hr=>by
  have hu:=Zdv hr;exact(Zj (Zau 3 ZiA.nd ZsV)
  (Zj (Zbv 4 ZiA.nd rfl rfl (ZP (Zc 2)) (Zm (Zus hu 3 (Zp ZiB hr (Zd (Zc 0) (Zd (Zc 1) (Zd (Zc 4) Zl)))) (Zc 4) ⟨rfl,rfl,rfl,rfl⟩)))
  (Zm (Zx (Zcb (Zad rfl rfl (N:="seen" :: Zj0) (ZA (sc:=Zf Zhh) (XN:=Zj0)) (ZP (Zcb (Zhe T.n_sorted rfl (Zo 3)))) (λ_ _ _ _ _=>Zas) (λ_ _ _ _ _=>(ZaH (Zd (Zc 0) (Zd (Zaa T.n_tuple (ZsW hu 4 (Zc 0))) Zl))))))))))
theorem Zhj:Zu ["works","crowd","deed","leads"] ["works","crowd","deed"] (Zf ZdX):=scM
theorem ZlH(T:Txt K mg)(Za4:Callee P w K mg base k "deeds_of" Za9)(D:Def K mg "can_be_done" ZdX ["works","crowd","deed"]):Callee P w K mg base (k+1) "can_be_done" ZcC :=
 D.ok Zhj λ_ cdv A outer s H E hr=>by
  exact(Zj (ZS 3 Zhj.nd (Zt (ZR (Zp Za4 hr (Zd (Zc 0) Zl))) (Zc 2)))
  (Zm (Zx (ZgE T.n_all rfl (ZaD (Zad rfl rfl (N:=["state","works","crowd","deed","leads"]) (ZA (sc:=Zf ZdX) (XN:=["works","crowd","deed","leads"])) (ZP (Zc 1)) (λ_ _ _ _ _=>Zas) (λ_ _ _ _ _=>(ZhZ cGt (ZaI T.n_len (ZR (Zt (Zo 4) (Zc 0)))) Zg))))))))
theorem Zml:Zu ["works","crowd"] ["works","crowd"] (Zf Zej):=scM
theorem Zmm(T:Txt K mg)(Zfp:Callee P w K mg base k "can_be_done" ZcC)(Za4:Callee P w K mg base k "deeds_of" Za9)(D:Def K mg "deeds_with" Zej ["works","crowd"]):Callee P w K mg base (k+1) "deeds_with" Zc2 :=
 D.ok Zml λ_ cdv A outer s H E hr=>by exact(Zm (Zx (Zcb (Zad rfl rfl (N:=["deed","works","crowd"]) (ZA (sc:=Zf Zej) (XN:=["works","crowd"])) (Zbs T.n_range (ZaI T.n_len (ZR (Zp Za4 hr (Zd (Zc 0) Zl))))) (λ_ _ _ _ _=>(ZcB (Zbi (Zp Zfp hr (Zd (Zc 1) (Zd (Zc 2) (Zd (Zc 0) Zl))))))) (λ_ _ _ _ _=>(Zc 0))))))
theorem Ze6:Zu ["works","crowd","deed","leads","found","state","target"] ["works","crowd","deed"] (Zf Zjy):=scM
theorem ZrW(T:Txt K mg)(Za4:Callee P w K mg base k "deeds_of" Za9)(D:Def K mg "led_to" Zjy ["works","crowd","deed"]):Callee P w K mg base (k+1) "led_to" ZeD :=
 D.ok Ze6 λ_ cdv A outer s H E hr=>by
  have hu:=Zdv hr;exact(Zj (ZS 3 Ze6.nd (Zt (ZR (Zp Za4 hr (Zd (Zc 0) Zl))) (Zc 2)))
  (Zj (Zau 4 Ze6.nd ZyH)
  (Zj (Zbv 5 Ze6.nd rfl rfl (ZP (Zc 1)) (Zm (Zbv 6 Ze6.nd rfl rfl (ZP (Zt (Zo 3) (Zc 5))) (Zm (ZeM hu 4 (Zc 6) Zdb)))))
  (Zm (Zx (Zaa T.n_tuple (ZaD (Zhe T.n_sorted rfl (Zo 4)))))))))
theorem ZnG:Zu ["works","looks","crowd"] ["works","looks","crowd"] (Zf Ze1):=scM
theorem ZnH(T:Txt K mg)(ZeE:Callee P w K mg base k "parted" ZbE)(Zgc:Callee P w K mg base k "deeds_with" Zc2)(ZjC:Callee P w K mg base k "led_to" ZeD)(D:Def K mg "ways_with" Ze1 ["works","looks","crowd"]):Callee P w K mg base (k+1) "ways_with" Zb4 :=
 D.ok ZnG λ_ cdv A outer s H E hr=>by exact(Zm (Zx (Zcb (Zad rfl rfl (N:=["deed","works","looks","crowd"]) (ZA (sc:=Zf Ze1) (XN:=["works","looks","crowd"])) (ZP (Zp Zgc hr (Zd (Zc 0) (Zd (Zc 2) Zl)))) (λ_ _ _ _ _=>Zas) (λ_ _ _ _ _=>(ZaH (Zd (Zc 0) (Zd (Zp ZeE hr (Zd (Zc 1) (Zd (Zc 2) (Zd (Zp ZjC hr (Zd (Zc 1) (Zd (Zc 3) (Zd (Zc 0) Zl)))) Zl)))) Zl))))))))
theorem Zk5:Zu ["works","prices","crowd"] ["works","prices","crowd"] (Zf Zdq):=scM
theorem Zk6(T:Txt K mg)(ZgQ:Callee P w K mg base k "ways_with" Zb4)(D:Def K mg "deeds_to_buy" Zdq ["works","prices","crowd"]):Callee P w K mg base (k+1) "deeds_to_buy" Zdn :=
 D.ok Zk5 λ_ cdv A outer s H E hr=>by exact(Zm (Zx (Zcb (Zio rfl rfl (N:=["deed","rows","works","prices","crowd"]) (ZA (sc:=Zf Zdq) (XN:=["works","prices","crowd"])) (ZP (Zp ZgQ hr (Zd (Zc 0) (Zd (ZaH Zl) (Zd (Zc 2) Zl))))) (λ_ _ _ _ _=>Zas) (λ_ _ _ _ _=>(ZaH (Zd (ZaH (Zd ZfX (Zd (Zc 0) (Zd (Zt (ZR (Zt (Zo 3) Zg)) (Zc 0)) Zl)))) (Zd (Zc 1) Zl))))))))
abbrev Zcq:List Str:=["works","prices","crowd","found"]
theorem ZgR:Zu Zcq ["works","prices","crowd"] (Zf Zcl):=scM
theorem Zk7(T:Txt K mg)(ZeE:Callee P w K mg base k "parted" ZbE)(D:Def K mg "looks_to_buy" Zcl ["works","prices","crowd"]):Callee P w K mg base (k+1) "looks_to_buy" Zdo :=
 D.ok ZgR λ_ cdv A outer s H E hr=>by
  exact(Zj (Zoi 3 ZgR.nd rfl rfl (N:="look" :: "price" :: Zcq) (ZA (sc:=Zf Zcl) (XN:=Zcq)) (Zv3 T.n_enumerate (Zt (Zo 1) Zg)) (λ_ _ _ _ _=>Zas) (λ_ _ _ _ _=>(ZaH (Zd (ZaH (Zd ZfX (Zd (Zc 0) (Zd (Zc 1) Zl)))) (Zd (Zp ZeE hr (Zd (Zc 2) (Zd (ZaH (Zd (Zc 0) Zl)) (Zd (Zc 4) Zl)))) Zl)))))
  (Zm (Zcj 3 (Zx (Zcb (Zad rfl rfl (N:="way" :: Zcq) (ZA (sc:=Zf Zcl) (XN:=Zcq)) (ZP (Zc 3)) (λ_ _ _ _ _=>(ZcB (ZV cGt (ZaI T.n_len (ZR (Zt (Zo 0) Zg))) Zg))) (λ_ _ _ _ _=>(Zc 0))))))))
theorem ZlI:Zu ["works","prices","crowd"] ["works","prices","crowd"] (Zf Zfn):=scM
theorem ZlJ(T:Txt K mg)(Ze7:Callee P w K mg base k "deeds_to_buy" Zdn)(Ze8:Callee P w K mg base k "looks_to_buy" Zdo)(D:Def K mg "ways_to_buy" Zfn ["works","prices","crowd"]):Callee P w K mg base (k+1) "ways_to_buy" ZaR :=
 D.ok ZlI λ_ cdv A outer s H E hr=>by exact(Zm (Zx (Zcb (Zv4 (ZR (Zp Ze7 hr (Zd (Zc 0) (Zd (Zc 1) (Zd (Zc 2) Zl))))) (ZR (Zp Ze8 hr (Zd (Zc 0) (Zd (Zc 1) (Zd (Zc 2) Zl)))))))))
theorem Zb7:Zu ["crowds","ways_for","reach","waiting","crowd","way"] ["crowds","ways_for"] (Zf Ze0):=scM
theorem Zk8(T:Txt K mg)(ZdJ:Callee P w K mg base k "crowds_in" Zao)(ZgS:ZeK P w K mg base k "crowds_in" Zao)(CV:ZcQ P w K mg base k ap)(D:Def K mg "reached_from" Ze0 ["crowds","ways_for"]):Callee P w K mg base (k+1) "reached_from" (Zck ap) :=
 D.ok Zb7 λ_ cdv A outer s H E hr=>by
  have hu:=Zdv hr;exact(Zj (Zau 2 Zb7.nd ZlC)
  (Zj (Zau 3 Zb7.nd (Zjn T.n_list (Zo 0)))
  (Zj (Zip 100000 rfl (ZV cGt (ZaI T.n_len (Zo 3)) Zg) (Zj (Zxd 4 3 Zb7.nd)
  (Zm (Zal (Zhf hu (Zc 4) (Zo 2)) (Zj (ZeM hu 2 (Zc 4) (Zk2 CV hr 1 (Zd (Zc 4) Zl)))
  (Zm (Zbv 5 Zb7.nd rfl rfl (ZP (ZdV hu (Zo 2) (Zc 4))) (Zm (Zs1 3 (ZaD (Zut ZgS hr (Zd (Zt (Zo 5) Zg) Zl)))))))) ZT))))
  (Zm (Zcj 2 (Zx (Zc 2)))))))
theorem Zow:Zu ["works"] ["works"] (Zf ZhC):=scM
theorem Zox(T:Txt K mg)(D:Def K mg "begin_of" ZhC ["works"]):Callee P w K mg base (k+1) "begin_of" Zcu :=
 D.ok Zow λ_ cdv A outer s H E hr=>by exact(Zm (Zx (Zt (Zo 0) Zg)))
theorem Zjl:Zu ["works","prices"] ["works","prices"] (Zf ZL):=scM
theorem ZyB:ZsL ["works","prices"] (Zf ZL) (ZmX ZL) ["works","prices"] [0,1]=ZFt:=by decide +kernel
theorem Zjm(T:Txt K mg)(Ze9:Callee P w K mg base k "reached_from" (Zck ap))(Zde:Callee P w K mg base k "begin_of" Zcu)(ZcI:Callee P w K mg base k "ways_to_buy" ZaR){Tl:Addr}(hc:ZB3 K c Tl=ZFt)(ht:(Tl,("reach_by_buying.<locals>.<lambda>":Str))∈FX.tl)(hq:∀q,(Tl,q)∈FX.tl->q=("reach_by_buying.<locals>.<lambda>":Str))(bm:BMod base mg)(good:∀F p cs,Clo K F p (Zxf ZL) (Zvr ZL) (ZmX ZL) ["works","prices"] cs->FX.fv 6 cs F p)(Fn:Zr8 K "reach_by_buying" "reach_by_buying" ZL f fd c)(hm:mg "reach_by_buying" = Z (.ref f))(hb:Binds K fd ["works","prices"] []):Callee P w K mg base (k+1) "reach_by_buying" (ZbG ap) :=
 Zsz Fn Zjl hm hb λA outer s H E hr=>by exact(Zm (Zx (ZrQ Ze9 hr (Zva ZyB hc ht hq bm good) (Zcb (ZbD (Zd (Zp Zde hr (Zd (Zc 0) Zl)) Zl))))))
abbrev Zc9:List Str:=["ways","costs","cost_by","told"]
theorem Zh4:Zu Zc9 ["ways","costs","cost_by"] (Zf Zc5):=scM
theorem Zmn(T:Txt K mg)(CV:ZcQ P w K mg base k ap)(D:Def K mg "least_cost" Zc5 ["ways","costs","cost_by"]):Callee P w K mg base (k+1) "least_cost" (Zbd ap) :=
 D.ok Zh4 λ_ cdv A outer s H E hr=>by
  exact(Zj (ZdU 3 Zh4.nd rfl rfl (N:="way" :: Zc9) (ZA (sc:=Zf Zc5) (XN:=Zc9)) (ZP (Zc 0)) (λ_ _ _ _ _=>Zas) (λ_ _ _ _ _=>(Zk2 CV hr 3 (Zd (Zc 0) (Zd (Zc 2) Zl)))))
  (Zm (Zcj 3 (Zx (Zrj T.n_min rfl (ZaD (Zad rfl rfl (N:="cost" :: Zc9) (ZA (sc:=Zf Zc5) (XN:=Zc9)) (ZP (Zc 3)) (λ_ _ _ _ _=>(ZcB (ZV ZsS (Zc 0) Zb0))) (λ_ _ _ _ _=>(Zc 0)))))))))
theorem ZdY:Zu ["reach","costs","cost_by","found","crowd","cost"] ["reach","costs","cost_by"] (Zf Zga):=scM
theorem Zmc(T:Txt K mg)(Zce:Callee P w K mg base k "least_cost" (Zbd ap))(Fn:Fun K "next_costs" "next_costs" Zga f fd)(hm:mg "next_costs" = Z (.ref f))(hb:Binds K fd ["reach","costs","cost_by"] []):ZeG P w K mg base (k+1) "next_costs" (Zbu ap) :=
 Zsw Fn ZdY hm hb λcdv A outer s H E hr=>by
  have hu:=Zdv hr;exact(Zo9 (Zau 3 ZdY.nd ZlC)
  (Zo9 (Zh0 0 (Zbv 4 ZdY.nd rfl rfl (Zh1 0) (Zm (Zal (Zhf hu (Zc 4) (Zo 1)) (Zj (ZS 5 ZdY.nd (Zp Zce hr (Zd (ZdV hu (Zo 0) (Zc 4)) (Zd (Zc 1) (Zd (Zc 2) Zl)))))
  (Zm (Zal (ZV ZsS (Zc 5) Zb0) (Zm (ZeM hu 3 (Zc 4) (Zc 5))) ZT))) ZT))))
  (Zv8 3)))
theorem ZqJ:Zu ["works"] ["works"] (Zf Zit):=scM
theorem ZqK(T:Txt K mg)(D:Def K mg "goal_of" Zit ["works"]):Callee P w K mg base (k+1) "goal_of" ZeT :=
 D.ok ZqJ λ_ cdv A outer s H E hr=>by exact(Zm (Zx (Zt (Zo 0) Zg)))
theorem Zoy:Zu ["works","crowd"] ["works","crowd"] (Zf ZfK):=scM
theorem Zoz(T:Txt K mg)(ZiC:Callee P w K mg base k "goal_of" ZeT)(D:Def K mg "is_there" ZfK ["works","crowd"]):Callee P w K mg base (k+1) "is_there" ZbX :=
 D.ok Zoy λ_ cdv A outer s H E hr=>by exact(Zm (Zx (ZgE T.n_all rfl (ZaD (Zad rfl rfl (N:=["state","works","crowd"]) (ZA (sc:=Zf ZfK) (XN:=["works","crowd"])) (ZP (Zc 1)) (λ_ _ _ _ _=>Zas) (λ_ _ _ _ _=>(Zxb (Zc 0) (ZR (Zp ZiC hr (Zd (Zc 1) Zl))))))))))
abbrev ZfW:List Str:=["works","reach","cost_by","costs","cost","found","crowd","offered"]
theorem ZbI:Zu ZfW ["works","reach","cost_by"] (Zf Zdc):=scM
theorem ZoA(T:Txt K mg)(ZhK:Callee P w K mg base k "is_there" ZbX)(Gf_next_costs:ZeG P w K mg base k "next_costs" (Zbu ap))(D:Def K mg "costs_of" Zdc ["works","reach","cost_by"]):Callee P w K mg base (k+1) "costs_of" (ZfH ap) :=
 D.ok ZbI λ_ cdv A outer s H E hr=>by
  have hu:=Zdv hr;exact(Zj (Zau 3 ZbI.nd ZlC)
  (Zj (ZS 4 ZbI.nd Zg)
  (Zj (Zh0 1 (ZdU 5 ZbI.nd rfl rfl (N:=["crowd","works","reach","cost_by","costs","cost","found"," ","offered"]) (ZA (sc:=Zf Zdc) (XN:=ZfW)) (Zh1 1) (λ_ _ _ _ _=>(ZcB (Zbi (Zp ZhK hr (Zd (Zc 1) (Zd (Zc 0) Zl)))))) (λ_ _ _ _ _=>(Zc 0))))
  (Zj (Zip 100000 rfl (ZV cGt (ZaI T.n_len (Zo 5)) Zg) (Zj (Zcj 5 (Zbv 6 ZbI.nd rfl rfl (ZP (Zc 5)) (Zm (ZeM hu 3 (Zc 6) (Zc 4)))))
  (Zj (Zau 7 ZbI.nd (Zuv Gf_next_costs hr (Zk1 (Zc 1) (Zof (Zo 3) (Zk1 (Zc 2) (Zs0 Zl))))))
  (Zj (Zcj 7 (Zh0 7 (ZS 4 ZbI.nd (Zrj T.n_min rfl (ZaD (Zad rfl rfl (N:=["crowd","works","reach","cost_by","costs","cost","found"," ","offered"]) (ZA (sc:=Zf Zdc) (XN:=ZfW)) (Zh1 7) (λ_ _ _ _ _=>Zas) (λ_ _ _ _ _=>(ZdV hu (Zo 8) (Zc 0)))))))))
  (Zm (Zcj 7 (Zh0 7 (ZdU 5 ZbI.nd rfl rfl (N:=["crowd","works","reach","cost_by","costs","cost","found"," ","offered"]) (ZA (sc:=Zf Zdc) (XN:=ZfW)) (Zh1 7) (λ_ _ _ _ _=>(ZcB (ZV (cEq hr) (ZdV hu (Zo 8) (Zc 0)) (Zc 5)))) (λ_ _ _ _ _=>(Zc 0))))))))))
  (Zm (Zcj 3 (Zx (Zc 3))))))))
abbrev ZhY:List Str:=["ways","costs","cost_by","least"]
theorem ZjD:Zu ZhY ["ways","costs","cost_by"] (Zf ZfL):=scM
theorem ZoB(T:Txt K mg)(Zce:Callee P w K mg base k "least_cost" (Zbd ap))(CV:ZcQ P w K mg base k ap)(D:Def K mg "best_way" ZfL ["ways","costs","cost_by"]):Callee P w K mg base (k+1) "best_way" (ZbB ap) :=
 D.ok ZjD λ_ cdv A outer s H E hr=>by
  exact(Zj (ZS 3 ZjD.nd (Zp Zce hr (Zd (Zc 0) (Zd (Zc 1) (Zd (Zc 2) Zl)))))
  (Zm (Zx (Zt (ZaD (Zad rfl rfl (N:="way" :: ZhY) (ZA (sc:=Zf ZfL) (XN:=ZhY)) (ZP (Zc 0)) (λ_ _ _ _ _=>(ZcB (ZV (cEq hr) (Zk2 CV hr 3 (Zd (Zc 0) (Zd (Zc 2) Zl))) (Zc 4)))) (λ_ _ _ _ _=>(Zc 0)))) Zg))))
theorem ZgT:Zu ["reach","costs","cost_by","step_by","steps","crowd"] ["reach","costs","cost_by","step_by"] (Zf ZhD):=scM
theorem ZoC(T:Txt K mg)(ZhL:Callee P w K mg base k "best_way" (ZbB ap))(CV:ZcQ P w K mg base k ap)(D:Def K mg "steps_of" ZhD ["reach","costs","cost_by","step_by"]):Callee P w K mg base (k+1) "steps_of" (ZfJ ap) :=
 D.ok ZgT λ_ cdv A outer s H E hr=>by
  have hu:=Zdv hr;exact(Zj (Zau 4 ZgT.nd ZlC)
  (Zj (Zh0 1 (Zbv 5 ZgT.nd rfl rfl (Zh1 1) (Zm (Zal (ZV (cEq hr) (ZdV hu (Zo 1) (Zc 5)) Zg) (Zm (ZeM hu 4 (Zc 5) (Zuu T.c_DONE))) (Zm (ZeM hu 4 (Zc 5) (Zs2 CV hr 3 (Zk1 (Zp ZhL hr (Zd (ZdV hu (Zo 0) (Zc 5)) (Zd (ZyI 1) (Zd (Zc 2) Zl)))) (Zof (Zo 4) (Zs0 Zl))))))))))
  (Zm (Zcj 4 (Zx (Zc 4))))))
theorem Zd3:Zu ["works","prices","reach","costs"] ["works","prices"] (Zf Zes):=scM
theorem ZkD(T:Txt K mg)(ZiD:Callee P w K mg base k "checked" ZeO)(Zd4:Callee P w K mg base k "checked_prices" Zcz)(ZdK:Callee P w K mg base k "reach_by_buying" (ZbG ap))(ZhM:Callee P w K mg base k "costs_of" (ZfH ap))(Zde:Callee P w K mg base k "begin_of" Zcu)(ZhN:Callee P w K mg base k "steps_of" (ZfJ ap))(Vff_price_by:GFn mg "price_by" 5)(Vff_bought_step:GFn mg "bought_step" 7)(D:Def K mg "a_bought_plan" Zes ["works","prices"]):Callee P w K mg base (k+1) "a_bought_plan" (ZcU ap) :=
 D.ok Zd3 λ_ cdv A outer s H E hr=>by
  have hu:=Zdv hr;exact(Zj (Zrh (Zp ZiD hr (Zd (Zc 0) Zl)))
  (Zj (Zrh (Zp Zd4 hr (Zd (Zc 0) (Zd (Zc 1) Zl))))
  (Zj (ZS 2 Zd3.nd (Zp ZdK hr (Zd (Zc 0) (Zd (Zc 1) Zl))))
  (Zj (ZS 3 Zd3.nd (Zp ZhM hr (Zd (Zc 0) (Zd (Zc 2) (Zd (Zoh Vff_price_by) Zl)))))
  (Zm (Zx (Zog hu (ZR (Zp ZhN hr (Zd (Zc 2) (Zd (Zc 3) (Zd (Zoh Vff_price_by) (Zd (Zoh Vff_bought_step) Zl)))))) (Zp Zde hr (Zd (Zc 0) Zl)) ⟨rfl,rfl,rfl,rfl⟩)))))))
theorem ZfO:Zu ["_law_works_here","_law_crowd_here","_law_deed_here","_law_found","_law_state"] ["_law_works_here","_law_crowd_here","_law_deed_here"] (Zf Ziw):=scM
theorem ZqL(T:Txt K mg)(D:Def K mg "_law_led" Ziw ["_law_works_here","_law_crowd_here","_law_deed_here"]):Callee P w K mg base (k+1) "_law_led" Zbm :=
 D.ok ZfO λ_ cdv A outer s H E hr=>by
  exact(Zj (Zau 3 ZfO.nd (ZbD Zl))
  (Zj (Zbv 4 ZfO.nd rfl rfl (ZP (Zc 1)) (Zj (Zal (ZV (cEq hr) (Zt (ZR (Zt (ZR (Zt (Zo 0) Zg)) (Zc 2))) (Zc 4)) (ZaH Zl)) (Zm (Zx Zb0)) ZT)
  (Zm (Zau 3 ZfO.nd (ZlB (Zo 3) (ZaD (Zjn T.n_list (ZR (Zt (ZR (Zt (ZR (Zt (Zo 0) Zg)) (Zc 2))) (Zc 4))))))))))
  (Zm (Zx (Zaa T.n_tuple (ZaD (Zjo T.n_sorted T.n_set rfl (Zo 3))))))))
abbrev Zfa:List Str:=["_law_works_here","_law_looks","_law_crowd_here","_law_found","_law_state","_law_seen"]
theorem Zel:Zu Zfa ["_law_works_here","_law_looks","_law_crowd_here"] (Zf ZdI):=scM
theorem ZnI(T:Txt K mg)(D:Def K mg "_law_split" ZdI ["_law_works_here","_law_looks","_law_crowd_here"]):Callee P w K mg base (k+1) "_law_split" ZaM :=
 D.ok Zel λ_ cdv A outer s H E hr=>by
  have hu:=Zdv hr;exact(Zj (Zau 3 Zel.nd ZsV)
  (Zj (Zbv 4 Zel.nd rfl rfl (ZP (Zc 2)) (Zj (ZS 5 Zel.nd (Zaa T.n_tuple (ZaD (Zad rfl rfl (N:="_law_look" :: Zfa) (ZA (sc:=Zf ZdI) (XN:=Zfa)) (ZP (Zc 1)) (λ_ _ _ _ _=>Zas) (λ_ _ _ _ _=>(Zt (ZR (Zt (ZR (Zt (Zo 1) Zg)) (Zc 0))) (Zc 5)))))))
  (Zj (Zal (Zuq hu (Zc 5) (Zo 3)) (Zm (ZsX hu 3 (Zc 5))) ZT)
  (Zm (Zur hu 3 (Zc 5) (Zc 4))))))
  (Zm (Zx (Zcb (Zad rfl rfl (N:=["_law_seen","_law_works_here","_law_looks","_law_crowd_here","_law_found","_law_state"," "]) (ZA (sc:=Zf ZdI) (XN:=Zfa)) (ZP (Zcb (Zhe T.n_sorted rfl (Zo 3)))) (λ_ _ _ _ _=>Zas) (λ_ _ _ _ _=>(ZaH (Zd (Zc 0) (Zd (Zaa T.n_tuple (ZsW hu 4 (Zc 0))) Zl))))))))))
abbrev ZhP:List Str:=["_law_works_here","_law_prices_here","_law_crowd_here","_law_found","_law_deed_here","_law_other","_law_look","_law_some"]
theorem ZcJ:Zu ZhP ["_law_works_here","_law_prices_here","_law_crowd_here"] (Zf ZfN):=scM
theorem ZoD(T:Txt K mg)(Zcm:Callee P w K mg base k "_law_led" Zbm)(ZbJ:Callee P w K mg base k "_law_split" ZaM)(D:Def K mg "_law_ways" ZfN ["_law_works_here","_law_prices_here","_law_crowd_here"]):Callee P w K mg base (k+1) "_law_ways" Zcv :=
 D.ok ZcJ λ_ cdv A outer s H E hr=>by
  exact(Zj (Zau 3 ZcJ.nd (ZbD Zl))
  (Zj (Zbv 4 ZcJ.nd rfl rfl (Zbs T.n_range (ZaI T.n_len (ZR (Zt (Zo 0) Zg)))) (Zj (ZS 5 ZcJ.nd (Zp Zcm hr (Zd (Zc 0) (Zd (Zc 2) (Zd (Zc 4) Zl)))))
  (Zm (Zal (ZV ZsS (Zc 5) Zb0) (Zm (Zdx 3 (ZaH (Zd (Zt (ZR (Zt (Zo 1) Zg)) (Zc 4)) (Zd (Zcb (ZbD (Zd (Zc 5) Zl))) Zl))))) ZT))))
  (Zj (Zbv 6 ZcJ.nd rfl rfl (Zbs T.n_range (ZaI T.n_len (ZR (Zt (Zo 0) Zg)))) (Zj (Zqu 7 ZcJ.nd rfl rfl (N:="_law_seen" :: "_law_part" :: ZhP) (ZA (sc:=Zf ZfN) (XN:=ZhP)) (ZP (Zp ZbJ hr (Zd (Zc 0) (Zd (ZaH (Zd (Zc 6) Zl)) (Zd (Zc 2) Zl))))) (λ_ _ _ _ _=>Zas) (λ_ _ _ _ _=>(Zc 1)))
  (Zm (Zal (ZV cGt (ZaI T.n_len (Zo 7)) Zg) (Zm (Zcj 7 (Zdx 3 (ZaH (Zd (Zt (ZR (Zt (Zo 1) Zg)) (Zc 6)) (Zd (Zc 7) Zl)))))) ZT))))
  (Zm (Zcj 3 (Zx (Zc 3)))))))
abbrev Zg5:List Str:=["_law_works_here","_law_crowd_here"]
theorem ZnJ:Zu Zg5 ["_law_works_here","_law_crowd_here"] (Zf Ze4):=scM
theorem ZnK(T:Txt K mg)(D:Def K mg "_law_there" Ze4 ["_law_works_here","_law_crowd_here"]):Callee P w K mg base (k+1) "_law_there" Za1 :=
 D.ok ZnJ λ_ cdv A outer s H E hr=>by exact(Zm (Zx (ZhZ (cEq hr) (Zcb (Zad rfl rfl (N:="_law_state" :: Zg5) (ZA (sc:=Zf Ze4) (XN:=Zg5)) (ZP (Zc 1)) (λ_ _ _ _ _=>(ZcB (ZsY (Zc 0) (ZR (Zt (Zo 1) Zg))))) (λ_ _ _ _ _=>(Zc 0)))) (Zcb (ZbD Zl)))))
abbrev Zb9:List Str:=["_law_works_here","_law_prices_here","_law_crowds","_law_at","_law_price_here","_law_some","_law_costs","_law_crowd_here","_law_best","_law_whole_here"]
theorem Zan:Zu Zb9 ["_law_works_here","_law_prices_here"] (Zf ZcG):=scM
theorem ZnL(T:Txt K mg)(ZfP:Callee P w K mg base k "_law_ways" Zcv)(ZbK:Callee P w K mg base k "_law_there" Za1)(D:Def K mg "_law_least" ZcG ["_law_works_here","_law_prices_here"]):Callee P w K mg base (k+1) "_law_least" ZdH :=
 D.ok Zan λ_ cdv A outer s H E hr=>by
  have hu:=Zdv hr;exact(Zj (Zau 2 Zan.nd (ZbD (Zd (Zt (Zo 0) Zg) Zl)))
  (Zj (ZS 3 Zan.nd Zg)
  (Zj (Zip 100000 rfl (ZV cLt (Zc 3) (ZaI T.n_len (Zo 2))) (Zj (Zri 4 5 Zan.nd rfl rfl (ZP (Zp ZfP hr (Zd (Zc 0) (Zd (Zc 1) (Zd (Zt (Zo 2) (Zc 3)) Zl))))) (Zm (Zau 2 Zan.nd (ZlB (Zo 2) (ZaD (Zad rfl rfl (N:="_law_part" :: Zb9) (ZA (sc:=Zf ZcG) (XN:=Zb9)) (ZP (Zc 5)) (λ_ _ _ _ _=>(ZcB (ZsZ hr (Zc 0) (Zo 3)))) (λ_ _ _ _ _=>(Zc 0))))))))
  (Zm (ZS 3 Zan.nd (ZG Zbg (Zc 3) Zg)))))
  (Zj (Zau 6 Zan.nd ZlC)
  (Zj (Zcj 2 (Zbv 7 Zan.nd rfl rfl (ZP (Zc 2)) (Zm (Zal (Zbi (Zp ZbK hr (Zd (Zc 0) (Zd (Zc 7) Zl)))) (Zm (ZeM hu 6 (Zc 7) Zg)) ZT))))
  (Zm (Zip 100000 rfl (Zbi Zdb) (Zj (ZS 8 Zan.nd Zb0)
  (Zj (Zcj 2 (Zbv 7 Zan.nd rfl rfl (ZP (Zc 2)) (Zm (Zal (Zhf hu (Zc 7) (Zo 6)) (Zm (Zri 4 5 Zan.nd rfl rfl (ZP (Zp ZfP hr (Zd (Zc 0) (Zd (Zc 1) (Zd (Zc 7) Zl))))) (Zm (Zal (ZV (cEq hr) (Zcb (Zad rfl rfl (N:="_law_part" :: Zb9) (ZA (sc:=Zf ZcG) (XN:=Zb9)) (ZP (Zc 5)) (λ_ _ _ _ _=>(ZcB (Zhf hu (Zc 0) (Zo 7)))) (λ_ _ _ _ _=>(Zc 0)))) (Zcb (ZbD Zl))) (Zj (ZS 9 Zan.nd (ZG Zbg (Zc 4) (Zmi T.n_max rfl (ZaD (Zad rfl rfl (N:="_law_part" :: Zb9) (ZA (sc:=Zf ZcG) (XN:=Zb9)) (ZP (Zc 5)) (λ_ _ _ _ _=>Zas) (λ_ _ _ _ _=>(ZdV hu (Zo 7) (Zc 0))))))))
  (Zm (Zal (Zin (ZeL (ZV ZmQ (Zc 8) Zb0) (ZfY (ZV cLt (Zc 9) (Zt (Zo 8) Zg))))) (Zm (ZS 8 Zan.nd (ZaH (Zd (Zc 9) (Zd (Zc 7) Zl))))) ZT))) ZT)))) ZT))))
  (Zj (Zal (ZV ZmQ (Zc 8) Zb0) (Zm (Zcj 6 (Zx (Zc 6)))) ZT)
  (Zm (ZeM hu 6 (Zt (Zo 8) Zg) (Zt (Zo 8) Zg)))))))))))))
theorem ZnM:Zu ["_law_found"] ["_law_found"] (Zf ZgL):=scM
theorem ZnN(T:Txt K mg)(D:Def K mg "_law_whole" ZgL ["_law_found"]):Callee P w K mg base (k+1) "_law_whole" ZdD :=
 D.ok ZnM λ_ cdv A outer s H E hr=>by exact(Zm (Zx (Zd9 (ZlA T.n_isinstance T.n_int (Zc 0)) (Zd8 (Zw6 (ZkI T.n_isinstance T.n_bool (Zc 0)))))))
abbrev Zca:List Str:=["_law_works_here","_law_prices_here","_law_crowd_here","_law_plan","_law_other","_law_rest","_law_some"]
theorem Zcf:Zu Zca ["_law_works_here","_law_prices_here","_law_crowd_here","_law_plan"] (Zf Zb5):=scM
theorem ZjE(T:Txt K mg){R:List PyData->Option PyData}(ZbJ:Callee P w K mg base k "_law_split" ZaM)(Zcm:Callee P w K mg base k "_law_led" Zbm)(ZcK:Callee P w K mg base k "_law_price" R)(ZbK:Callee P w K mg base k "_law_there" Za1)(ZdL:Callee P w K mg base k "_law_whole" ZdD)(Fn:Fun K "_law_price" "_law_price" Zb5 f fd)(hm:mg "_law_price" = Z (.ref f))(hb:Binds K fd ["_law_works_here","_law_prices_here","_law_crowd_here","_law_plan"] []):Callee P w K mg base (k+1) "_law_price" (HM.fnOf 4 7 (ZbH R)) :=
 Zke Fn Zcf hm hb λcdv A outer s H E hr=>by
  exact(Zj (Zal (ZV (ZzW hr) (Zc 3) (ZaH (Zd ZfX Zl))) (Zm (Zx (Zlz (Zbi (Zp ZbK hr (Zd (Zc 0) (Zd (Zc 2) Zl)))) Zg ZgD))) ZT)
  (Zj (Zal (Zin (ZeL (Zci (Zbi (Zdw T.n_isinstance T.n_tuple (Zc 3)))) (ZeL (ZV (cNe hr) (ZaI T.n_len (Zo 3)) Zg) (ZeL (Zci (Zbi (Zp ZdL hr (Zd (Zt (Zo 3) Zg) Zl)))) (ZfY (ZV cLt (Zt (Zo 3) Zg) Zg)))))) (Zm (Zx ZgD)) ZT)
  (Zj (Zal (Zin (Zw5 (ZV (cEq hr) (Zt (Zo 3) Zg) ZfX) (Zv0 (ZV cLt (Zt (Zo 3) Zg) (ZaI T.n_len (ZR (Zt (Zo 0) Zg))))))) (Zj (ZS 4 Zcf.nd (Zp Zcm hr (Zd (Zc 0) (Zd (Zc 2) (Zd (Zt (Zo 3) Zg) Zl)))))
  (Zj (Zal (ZV ZmQ (Zc 4) Zb0) (Zm (Zx ZgD)) ZT)
  (Zj (ZS 5 Zcf.nd (Zp ZcK hr (Zd (Zc 0) (Zd (Zc 1) (Zd (Zc 4) (Zd (Zt (Zo 3) Zg) Zl))))))
  (Zm (Zcj 5 (Zx (Zlz (ZV cLt (Zc 5) Zg) (Zc 5) (ZG Zbg (Zc 5) (Zt (ZR (Zt (Zo 1) Zg)) (Zt (Zo 3) Zg)))))))))) ZT)
  (Zj (Zal (Zin (ZeL (ZV (cNe hr) (Zt (Zo 3) Zg) ZfX) (ZeL (ZV cGe (Zt (Zo 3) Zg) (ZaI T.n_len (ZR (Zt (Zo 0) Zg)))) (ZfY (Zci (Zbi (Zdw T.n_isinstance T.n_tuple (Zt (Zo 3) Zg)))))))) (Zm (Zx ZgD)) ZT)
  (Zj (ZS 6 Zcf.nd (Zp ZbJ hr (Zd (Zc 0) (Zd (ZaH (Zd (Zt (Zo 3) Zg) Zl)) (Zd (Zc 2) Zl)))))
  (Zj (Zal (Zin (ZeL (ZV cLt (ZaI T.n_len (Zo 6)) Zg) (ZfY (ZV (cNe hr) (Zcb (Zad rfl rfl (N:="_law_row" :: Zca) (ZA (sc:=Zf Zb5) (XN:=Zca)) (ZP (Zt (Zo 3) Zg)) (λ_ _ _ _ _=>Zas) (λ_ _ _ _ _=>(Zt (Zo 0) Zg)))) (Zcb (Zio rfl rfl (N:="_law_seen" :: "_law_part" :: Zca) (ZA (sc:=Zf Zb5) (XN:=Zca)) (ZP (Zc 6)) (λ_ _ _ _ _=>Zas) (λ_ _ _ _ _=>(Zt (Zo 0) Zg)))))))) (Zm (Zx ZgD)) ZT)
  (Zj (ZdU 5 Zcf.nd rfl rfl (N:="_law_k" :: Zca) (ZA (sc:=Zf Zb5) (XN:=Zca)) (Zbs T.n_range (ZaI T.n_len (Zo 6))) (λ_ _ _ _ _=>Zas) (λ_ _ _ _ _=>(Zp ZcK hr (Zd (Zc 1) (Zd (Zc 2) (Zd (Zt (ZR (Zt (Zo 7) (Zc 0))) Zg) (Zd (Zt (ZR (Zt (ZR (Zt (Zo 4) Zg)) (Zc 0))) Zg) Zl)))))))
  (Zm (Zx (Zlz (ZV cLt (Zv2 T.n_min rfl (Zo 5)) Zg) ZgD (ZG Zbg (Zmi T.n_max rfl (Zo 5)) (Zt (ZR (Zt (Zo 1) Zg)) (Zt (Zo 3) Zg)))))))))))))
theorem ZnO(T:Txt K mg)(ZbJ:Callee P w K mg base k "_law_split" ZaM)(Zcm:Callee P w K mg base k "_law_led" Zbm)(ZbK:Callee P w K mg base k "_law_there" Za1)(ZdL:Callee P w K mg base k "_law_whole" ZdD)(Fn0:Fun K "_law_price" "_law_price" Zb5 f0 fd0)(hm0:mg "_law_price" = Z (.ref f0))(hb0:Binds K fd0 ["_law_works_here","_law_prices_here","_law_crowd_here","_law_plan"] [])(n:Nat):Callee P w K mg base (k+1*n+1) "_law_price" (ZQ n):=by
 induction n with
 | zero=>exact Zke (g:=HM.Zii) Fn0 Zcf hm0 hb0 λ_ _ _ _ _ _ _=>λ_ _ h=>nomatch h
 | succ n ih=>have e:=ZjE (k:=k+1*n+1) (R:=ZQ n) T (ZbJ.mono (by omega)) (Zcm.mono (by omega)) (ih.mono (by omega)) (ZbK.mono (by omega)) (ZdL.mono (by omega)) Fn0 hm0 hb0;exact e.mono (by omega)
theorem Zh5:Zu ["_law_script","_law_works_here","_law_prices_here","_law_due","_law_found"] ["_law_script"] (Zf ZgM):=scM
theorem Zv5(T:Txt K mg)(ZgU:Callee P w K mg base k "_law_works" Zbl)(Zgd:Callee P w K mg base k "_law_prices" Zeg)(Zeu:Callee P w K mg base k "a_bought_plan" (ZcU ap))(Zbb:Callee P w K mg base k "_law_cell" Zaw)(ZgV:Callee P w K mg base k "_law_least" ZdH)(ZcK:Callee P w K mg base k "_law_price" (ZQ 40))(Fn:Fun K "law" "law" ZgM f fd):ZdM P w K mg base CX0 (k+1) f fd ["_law_script"] (spD K 1 (ZgH ap)) :=
 Zry Fn Zh5 λcdv A outer s H E hr=>by
  have hu:=Zdv hr;exact(Zj (ZS 1 Zh5.nd (Zp ZgU hr (Zd (Zc 0) (Zd Zg Zl))))
  (Zj (ZS 2 Zh5.nd (Zp Zgd hr (Zd (Zc 1) (Zd (Zp Zbb hr (Zd (Zc 0) (Zd Zg Zl))) Zl))))
  (Zj (ZS 3 Zh5.nd (Zog hu (ZR (Zp ZgV hr (Zd (Zc 1) (Zd (Zc 2) Zl)))) (Zt (Zo 1) Zg) ⟨rfl,rfl,rfl,rfl⟩))
  (Zj (ZS 4 Zh5.nd (Zp Zeu hr (Zd (Zc 1) (Zd (Zc 2) Zl))))
  (Zj (Zal (ZV ZmQ (Zc 3) Zb0) (Zm (Zx (ZhZ ZmQ (Zc 4) Zb0))) ZT)
  (Zm (Zx (Zd9 (Zdw T.n_isinstance T.n_tuple (Zc 4)) (Zd8 (ZhZ (cEq hr) (Zp ZcK hr (Zd (Zc 1) (Zd (Zc 2) (Zd (Zt (Zo 1) Zg) (Zd (Zc 4) Zl))))) (Zc 3)))))))))))
def FvI(K:ZAo)(t:Nat)(cs:List PyData)(F:Hp)(a:Addr):Prop :=
 (t=5/\cs=[]/\ZCp K ZA7 "price_by" = Z (Z (.ref a)))\/(t=7/\cs=[]/\ZCp K ZA7 "bought_step" = Z (Z (.ref a)))\/(t=6/\Clo K F a (Zxf ZL) (Zvr ZL) (ZmX ZL) ["works","prices"] cs)
theorem ZxS:Zlq (ZmX ZL) "crowd" ["works","prices"]:=⟨rfl,rfl,rfl,by decide +kernel,rfl,by decide +kernel,by decide +kernel⟩
theorem ZxB(T:Txt K mg)(ZcI:Callee P w K mg base k "ways_to_buy" ZaR)(qual:Str)(f:Addr)(cd:Value)(clos:List (Str × Addr))(A:Around)(outer:List PySem.Env)(s:Shared)(H:Hp)(hr:Zap k (A.deeper (ZDs qual (ZmX ZL) s.heap.objs.size f cd clos))) :
  XE (Zn5 P w K mg base ["crowd","works","prices"] qual (ZmX ZL) f cd clos A outer s H) (Zvr ZL) (Zn ZaR (Za (Zb 1) (Za (Zb 2) (Za (Zb 0) Zk)))):=by
 have hu:=Zdv hr;exact(Zp ZcI hr (Zd (Zc 1) (Zd (Zc 2) (Zd (Zc 0) Zl))))
theorem ZyM(T:Txt K mg)(V:∀t cs F a,FX.fv t cs F a->FvI K t cs F a)(Fn0:Fun K "price_by" "price_by" ZfM f0 fd0)(hm0:mg "price_by" = Z (.ref f0))(hn0:∀a,ZCp K ZA7 "price_by" = Z (Z (.ref a))->mg "price_by" = Z (.ref a))(ZhO:Callee P w K mg base (k+1) "price_by" Zed){f1:Addr}{fd1:FuncData}(Fn1:Fun K "bought_step" "bought_step" ZcF f1 fd1)(hm1:mg "bought_step" = Z (.ref f1))(hn1:∀a,ZCp K ZA7 "bought_step" = Z (Z (.ref a))->mg "bought_step" = Z (.ref a))(Zfq:Callee P w K mg base (k+1) "bought_step" ZcD)(Lf_ways_to_buy:Callee P w K mg base k "ways_to_buy" ZaR):ZcQ P w K mg base (k+1) ap:=by
 constructor
 ·intro t cs F a h A outer s H e0 sub
  rcases V t cs F a h with⟨rfl,rfl,hn⟩ | ⟨rfl,rfl,hn⟩ | ⟨rfl,hC⟩
  ·exact ZrP Fn0 hm0 (hn0 a hn) e0
  ·exact ZrP Fn1 hm1 (hn1 a hn) e0
  ·exact Zxp hC e0 sub
 ·intro t cs F a h A outer s H e0 sub us vs ds d Q hr tb nt rv rs hap kk
  rcases V t cs F a h with⟨rfl,rfl,hn⟩ | ⟨rfl,rfl,hn⟩ | ⟨rfl,hC⟩
  ·exact ZpD ZhO (hn0 a hn) e0 sub hr tb nt rv rs hap kk
  ·exact ZpD Zfq (hn1 a hn) e0 sub hr tb nt rv rs hap kk
  ·exact ZwR ZxS (λ_ _ _ _ _ _=>rfl) (ZxB T Lf_ways_to_buy) hC e0 sub hr tb nt rv rs hap kk
def tlI:List (Addr × Str):=[(273,"reach_by_buying.<locals>.<lambda>")]
@[reducible] def fxI(K:ZAo):FX where
 tl:=tlI
 fv:=FvI K
 sw:=λhF hob h=>by
  rcases h with h | h | h
  ·exact ZBc (h)
  ·exact ZAT (ZBc (h))
  ·exact ZAT (ZAT ((⟨h.1,h.2.sw hF hob⟩)))
 drop:=λh=>by
  rcases h with h | h | h
  ·exact ZBc (h)
  ·exact ZAT (ZBc (h))
  ·exact ZAT (ZAT ((⟨h.1,h.2.drop⟩)))
 mono:=λh s=>by
  rcases h with h | h | h
  ·exact ZBc (h)
  ·exact ZAT (ZBc (h))
  ·exact ZAT (ZAT ((⟨h.1,h.2.mono s⟩)))
theorem Zyp{kV:Value}(X:K.In h)(G:h.Ns ZA7 mg)(a:ZCp K ZA7 x=Z (Z (.ref f)))
  (l:K.lookup f=Z ⟨oc,od,.func (ZBO x x (Zch st) (ZaZ st) (Zf st) .none kV doc pm an cdv ct),osl⟩) (c:ZCv K cdv x=ZFt) (kp:ZBS K (.ref f)=ZFt)
  (b:∀(kV doc pm:Value) (an:Option Addr) (cdv ct:Value) (us:List Value),us.length=ps.length->bindArgs (ZBO x x (Zch st) (ZaZ st) (Zf st) .none kV doc pm an cdv ct) ⟨us,[]⟩=pure (ps.zip us)):Def K mg x st ps :=
 ⟨f,_,ZpG l c kp,ZDf X G a,(ZpG l c kp).binds b⟩
structure ZxH(K:ZAo)(mg:Str->Option Value)(x:Str)(st:Stmt)(ps:List Str)(c T:Addr):Prop where
 ex:∃f fd,Zr8 K x x st f fd c/\mg x=Z (.ref f)/\Binds K fd ps []/\ZB3 K c T=ZFt
theorem Zwp{T:Addr}{kV:Value}(X:K.In h)(G:h.Ns ZA7 mg)(a:ZCp K ZA7 x=Z (Z (.ref f)))
  (l:K.lookup f=Z ⟨oc,od,.func (ZBO x x (Zch st) (ZaZ st) (Zf st) .none kV doc pm an cdv ct),osl⟩) (cc:ZCv K cdv x=ZFt) (kp:ZBS K (.ref f)=ZFt)
  (b:∀(kV doc pm:Value) (an:Option Addr) (cdv ct:Value) (us:List Value),us.length=ps.length->bindArgs (ZBO x x (Zch st) (ZaZ st) (Zf st) .none kV doc pm an cdv ct) ⟨us,[]⟩=pure (ps.zip us)) (e:cdv=.ref c) (hc:ZB3 K c T=ZFt):ZxH K mg x st ps c T:=by
 subst e;exact⟨f,_,Zwm l cc kp,ZDf X G a,.all (b kV doc pm an _ ct),hc⟩
def NsV(K:ZAo)(mg:Str->Option Value)(x:Str):Prop:=(∀a,ZCp K ZA7 x=Z (Z (.ref a))->mg x=Z (.ref a))/\∃f,ZCp K ZA7 x=Z (Z (.ref f))
theorem Zx5(X:K.In h)(G:h.Ns ZA7 mg)(a:ZCp K ZA7 x=Z (Z (.ref f))):NsV K mg x:=⟨λ_ e=>ZDf X G e,f,a⟩
end
structure Ds(K:ZAo)(mg:Str->Option Value):Prop where
 ZqM:Def K mg "_law_cell" ZhE ["_law_script","_law_k"]
 ZrX:Def K mg "_law_mix" Ziv ["_law_cell_here","_law_prime","_law_many"]
 ZoE:Def K mg "_law_crowd" Ze2 ["_law_cell_here","_law_many","_law_least_here"]
 ZqN:Def K mg "_law_deed" ZhF ["_law_cell_here","_law_many"]
 ZqO:Def K mg "_law_walk" ZhG ["_law_cell_here","_law_many"]
 ZoF:Def K mg "_law_works" Ze3 ["_law_script","_law_at"]
 ZnP:Def K mg "_law_prices" Zc6 ["_law_works_here","_law_cell_here"]
 ZoG:Def K mg "is_number" ZgI ["thing","least","most"]
 ZoH:Def K mg "is_rising" ZgJ ["thing","many"]
 ZqP:Def K mg "is_crowd" Zhz ["thing","many"]
 Zs3:Def K mg "is_row" Zjx ["thing","least","most"]
 ZrY:Def K mg "is_deed" Zgn ["thing","many"]
 ZoI:Def K mg "are_deeds" ZeY ["thing","many"]
 ZrZ:Def K mg "is_look" Zgo ["thing","many"]
 ZoJ:Def K mg "are_looks" ZeZ ["thing","many"]
 ZoK:Def K mg "are_works" ZgK ["thing"]
 Zr0:Def K mg "checked" Ziu ["works"]
 ZlK:Def K mg "is_price_row" Zdp ["thing","many"]
 ZqQ:Def K mg "deeds_of" ZhA ["works"]
 ZqR:Def K mg "looks_of" ZhB ["works"]
 ZkE:Def K mg "checked_prices" Zd2 ["works","prices"]
 ZjF:Def K mg "crowds_in" ZcE ["rows"]
 Zk9:Def K mg "cost_at_worst" ZcV ["rows","costs"]
 ZkQ:Def K mg "price_by" ZfM ["way","costs"]
 Zr1:Def K mg "plan_of" Zgq ["rows","steps"]
 Zh6:Def K mg "bought_step" ZcF ["way","steps"]
 Zr2:Def K mg "seen_in" Zgp ["works","looks","state"]
 Zs4:Def K mg "parted" Zhh ["works","looks","crowd"]
 Zmo:Def K mg "can_be_done" ZdX ["works","crowd","deed"]
 ZnQ:Def K mg "deeds_with" Zej ["works","crowd"]
 Zs5:Def K mg "led_to" Zjy ["works","crowd","deed"]
 ZoL:Def K mg "ways_with" Ze1 ["works","looks","crowd"]
 ZlL:Def K mg "deeds_to_buy" Zdq ["works","prices","crowd"]
 ZlM:Def K mg "looks_to_buy" Zcl ["works","prices","crowd"]
 Zmp:Def K mg "ways_to_buy" Zfn ["works","prices","crowd"]
 ZlN:Def K mg "reached_from" Ze0 ["crowds","ways_for"]
 ZqS:Def K mg "begin_of" ZhC ["works"]
 ZjG:ZxH K mg "reach_by_buying" ZL ["works","prices"] 277 273
 ZnR:Def K mg "least_cost" Zc5 ["ways","costs","cost_by"]
 ZnS:Def K mg "next_costs" Zga ["reach","costs","cost_by"]
 Zr3:Def K mg "goal_of" Zit ["works"]
 ZqT:Def K mg "is_there" ZfK ["works","crowd"]
 ZqU:Def K mg "costs_of" Zdc ["works","reach","cost_by"]
 ZqV:Def K mg "best_way" ZfL ["ways","costs","cost_by"]
 ZqW:Def K mg "steps_of" ZhD ["reach","costs","cost_by","step_by"]
 Zla:Def K mg "a_bought_plan" Zes ["works","prices"]
 Zr4:Def K mg "_law_led" Ziw ["_law_works_here","_law_crowd_here","_law_deed_here"]
 ZoM:Def K mg "_law_split" ZdI ["_law_works_here","_law_looks","_law_crowd_here"]
 ZqX:Def K mg "_law_ways" ZfN ["_law_works_here","_law_prices_here","_law_crowd_here"]
 ZoN:Def K mg "_law_there" Ze4 ["_law_works_here","_law_crowd_here"]
 ZoO:Def K mg "_law_least" ZcG ["_law_works_here","_law_prices_here"]
 ZoP:Def K mg "_law_whole" ZgL ["_law_found"]
 ZoQ:Def K mg "_law_price" Zb5 ["_law_works_here","_law_prices_here","_law_crowd_here","_law_plan"]
 Nf_price_by:NsV K mg "price_by"
 Nf_bought_step:NsV K mg "bought_step"
section
variable[FX]{P:Program}{w:World}{K:ZAo}{mg:Str->Option Value}{base:Heap}{k:Nat}
theorem Zyi(T:Txt K mg)(hV:∀t cs F a,FX.fv t cs F a↔FvI K t cs F a)(hTL:FX.tl=tlI)(Dd:Ds K mg)(bm:BMod base mg){f:Addr}{fd:FuncData}(Fn:Fun K "law" "law" ZgM f fd):ZdM P w K mg base CX0 43 f fd ["_law_script"] (spD K 1 (ZgH ap)):=by
 have Vff_price_by:GFn mg "price_by" 5:=by obtain⟨h1,g,h2⟩:=Dd.Nf_price_by;exact⟨g,h1 g h2,λF=>(hV _ _ _ _).mpr (ZBc (⟨rfl,rfl,h2⟩))⟩
 have Vff_bought_step:GFn mg "bought_step" 7:=by obtain⟨h1,g,h2⟩:=Dd.Nf_bought_step;exact⟨g,h1 g h2,λF=>(hV _ _ _ _).mpr (ZAT (ZBc (⟨rfl,rfl,h2⟩)))⟩
 have Zbb:Callee P w K mg base 1 _ _:=Zom T Dd.ZqM;have ZO:Callee P w K mg base 1 _ _:=Zqy T Dd.ZrX;have Ze5:Callee P w K mg base 2 _ _:=Znv T (Cup ZO) Dd.ZoE;have ZhH:Callee P w K mg base 2 _ _:=Zon T (Cup ZO) Dd.ZqN;have ZhI:Callee P w K mg base 2 _ _:=Zoo T (Cup ZO) Dd.ZqO;have ZgU:Callee P w K mg base 3 _ _:=Znw T (Cup Zbb) (Cup Ze5) (Cup ZO) (Cup ZhH) (Cup ZhI) Dd.ZoF;have Zgd:Callee P w K mg base 2 _ _:=Zmj T (Cup ZO) Dd.ZnP;have ZaN:Callee P w K mg base 1 _ _:=Zny T Dd.ZoG;have Zbn:Callee P w K mg base 2 _ _:=Znz T (Cup ZaN) Dd.ZoH;have ZhJ:Callee P w K mg base 3 _ _:=Zoq T (Cup Zbn) Dd.ZqP;have Zac:Callee P w K mg base 1 _ _:=ZrU T Dd.Zs3;have Zix:Callee P w K mg base 3 _ _:=ZqA T (Cup Zac) (Cup Zbn) Dd.ZrY;have ZgN:Callee P w K mg base 4 _ _:=ZnB T (Cup Zac) (Cup Zix) Dd.ZoI;have Ziy:Callee P w K mg base 2 _ _:=ZqC T (Cup Zac) (Cup ZaN) Dd.ZrZ;have ZgO:Callee P w K mg base 3 _ _:=ZnD T (Cup Zac) (Cup Ziy) Dd.ZoJ;have ZgP:Callee P w K mg base 5 _ _:=ZnE T (Cup ZhJ) (Cup Zbn) (Cup Zac) (Cup ZaN) (Cup ZgN) (Cup ZgO) Dd.ZoK;have ZiD:Callee P w K mg base 6 _ _:=ZqE T (Cup ZgP) Dd.Zr0;have Zdr:Callee P w K mg base 2 _ _:=Zk4 T (Cup Zac) (Cup ZaN) Dd.ZlK;have Za4:Callee P w K mg base 1 _ _:=Zos T Dd.ZqQ;have Zdd:Callee P w K mg base 1 _ _:=Zou T Dd.ZqR;have Zd4:Callee P w K mg base 3 _ _:=ZjA T (Cup Zac) (Cup Zdr) (Cup Za4) (Cup Zdd) Dd.ZkE;have ZdJ:Callee P w K mg base 1 _ _:=ZnF T Dd.ZjF;have ZgS:ZeK P w K mg base 1 "crowds_in" Zao:=by obtain⟨f,fd,F,m,b⟩:=Dd.ZjF.ex;exact Zmk T  F m b
 have Zet:Callee P w K mg base 2 _ _:=ZkC T (Cup ZdJ) Dd.Zk9;have ZhO:Callee P w K mg base 3 _ _:=Zov T (Cup Zet) Dd.ZkQ;have Ziz:Callee P w K mg base 1 _ _:=ZqG T Dd.Zr1;have Zfq:Callee P w K mg base 2 _ _:=ZlG T (Cup Ziz) Dd.Zh6;have ZiB:Callee P w K mg base 2 _ _:=ZqI T (Cup Zdd) Dd.Zr2;have ZeE:Callee P w K mg base 3 _ _:=ZrV T (Cup ZiB) Dd.Zs4;have Zfp:Callee P w K mg base 2 _ _:=ZlH T (Cup Za4) Dd.Zmo;have Zgc:Callee P w K mg base 3 _ _:=Zmm T (Cup Zfp) (Cup Za4) Dd.ZnQ;have ZjC:Callee P w K mg base 2 _ _:=ZrW T (Cup Za4) Dd.Zs5;have ZgQ:Callee P w K mg base 4 _ _:=ZnH T (Cup ZeE) (Cup Zgc) (Cup ZjC) Dd.ZoL;have Ze7:Callee P w K mg base 5 _ _:=Zk6 T (Cup ZgQ) Dd.ZlL;have Ze8:Callee P w K mg base 4 _ _:=Zk7 T (Cup ZeE) Dd.ZlM;have ZcI:Callee P w K mg base 6 _ _:=ZlJ T (Cup Ze7) (Cup Ze8) Dd.Zmp;obtain⟨f0,fd0,F0,m0,b0⟩:=Dd.ZkQ.ex;obtain⟨f1,fd1,F1,m1,b1⟩:=Dd.Zh6.ex;have CV:ZcQ P w K mg base 7 ap:=ZyM (k:=6) T (λt cs F a h=>(hV t cs F a).mp h) F0 m0 Dd.Nf_price_by.1 (Cup ZhO) F1 m1 Dd.Nf_bought_step.1 (Cup Zfq) (Cup ZcI);have Ze9:Callee P w K mg base 8 _ _:=Zk8 T (Cup ZdJ) (ZgS.mono (by decide)) (CV.mono (by decide)) Dd.ZlN;have Zde:Callee P w K mg base 1 _ _:=Zox T Dd.ZqS;have ZdK:Callee P w K mg base 9 "reach_by_buying" (ZbG ap):=by obtain⟨f,fd,F,m,b,hc⟩:=Dd.ZjG.ex;exact Zjm T (Cup Ze9) (Cup Zde) (Cup ZcI) hc (by rw[hTL]; decide) (by rw[hTL]; intro q h; simpa [tlI]using h) bm (λF p cs h=>(hV _ _ _ _).mpr (ZAT (ZAT ((⟨rfl,h⟩))))) F m b
 have Zce:Callee P w K mg base 8 _ _:=Zmn T (CV.mono (by decide)) Dd.ZnR;have Gf_next_costs:ZeG P w K mg base 9 "next_costs" (Zbu ap):=by obtain⟨f,fd,F,m,b⟩:=Dd.ZnS.ex;exact Zmc T (Cup Zce) F m b
 have ZiC:Callee P w K mg base 1 _ _:=ZqK T Dd.Zr3;have ZhK:Callee P w K mg base 2 _ _:=Zoz T (Cup ZiC) Dd.ZqT;have ZhM:Callee P w K mg base 10 _ _:=ZoA T (Cup ZhK) (Gf_next_costs.mono (by decide)) Dd.ZqU;have ZhL:Callee P w K mg base 9 _ _:=ZoB T (Cup Zce) (CV.mono (by decide)) Dd.ZqV;have ZhN:Callee P w K mg base 10 _ _:=ZoC T (Cup ZhL) (CV.mono (by decide)) Dd.ZqW;have Zeu:Callee P w K mg base 11 _ _:=ZkD T (Cup ZiD) (Cup Zd4) (Cup ZdK) (Cup ZhM) (Cup Zde) (Cup ZhN) Vff_price_by Vff_bought_step Dd.Zla;have Zcm:Callee P w K mg base 1 _ _:=ZqL T Dd.Zr4;have ZbJ:Callee P w K mg base 1 _ _:=ZnI T Dd.ZoM;have ZfP:Callee P w K mg base 2 _ _:=ZoD T (Cup Zcm) (Cup ZbJ) Dd.ZqX;have ZbK:Callee P w K mg base 1 _ _:=ZnK T Dd.ZoN;have ZgV:Callee P w K mg base 3 _ _:=ZnL T (Cup ZfP) (Cup ZbK) Dd.ZoO;have ZdL:Callee P w K mg base 1 _ _:=ZnN T Dd.ZoP;obtain⟨f0,fd0,F0,m0,b0⟩:=Dd.ZoQ.ex;have ZcK:Callee P w K mg base 42 "_law_price" (ZQ 40):=ZnO (k:=1) T (Cup ZbJ) (Cup Zcm) (Cup ZbK) (Cup ZdL) F0 m0 b0 40;exact Zv5 (k:=42) T (Cup ZgU) (Cup Zgd) (Cup Zeu) (Cup Zbb) (Cup ZgV) (Cup ZcK) Fn
end
theorem all_mk{l:ZEX}{w:World}{K:ZAo}{mg:Str->Option Value}{fa f4:Addr}{od4 an4:Option Addr}{sl4:Array (Option Value)}{oc4 kV4 dc4 pm4 cd4 ct4:Value}(X:K.In h)(G:h.Ns ZA7 mg)(hfa:mg "law" = Z (.ref fa))
  (T:Txt K mg) (Dd:Ds K mg) (a4:ZCp K ZA7 "law" = Z (Z (.ref f4)))
  (l4:K.lookup f4=Z ⟨oc4,od4,.func (ZBO "law" "law" (Zch ZgM) (ZaZ ZgM) (Zf ZgM) .none kV4 dc4 pm4 an4 cd4 ct4),sl4⟩) (c4:ZCv K cd4 "law" = ZFt) (k4:ZBS K (.ref f4)=ZFt) :
  ∃fd:FuncData,(∀(s:Shared) (v:Value),BindsTo s fd ⟨[v],[]⟩ [("_law_script",v)])/\∀base:Heap,K.In base->base.Ns ZA7 mg->BMod base mg->ZdM l.prog w K mg base CX0 43 fa fd ["_law_script"] (@spD (fxI K) K 1 (ZgH ap)):=by
 have e:=hfa.symm.trans (ZDf X G a4);cases e;have fx0:FX:=FX0;exact⟨_,λs v=>.of_eq rfl,λbase _ _ bm=>@Zyi (fxI K) _ _ _ _ _ T (λ_ _ _ _=>Iff.rfl) rfl Dd bm _ _ (ZpG (st:=ZgM) l4 c4 k4)⟩
theorem walk{l:ZEX}{q:Program}{loose:List Str}{XP:(Str->Option Value)->Heap->Prop}{YP:World->Heap->Prop}{d:DefRec}{K:Params->ZAo}(hn:l.most=Z 63)(hdf:d.params.defaults=[])
  (Zlc:∀ns:List Int,ns.length<=63->(ZgH ap) [.list (HM.ofInts ns)]=Z (.bool ZFt)) (hY:∀(w:World) (h:Heap),YP w h->(K w.params).In h) (hYT:∀(w:World) (h:Heap),YP w h->∀q∈([(277,273)]:List (Addr × Addr)),h.get? q.2=Z (ZC8 #[]))
  (hT:∀(w:World),∀q∈([(277,273)]:List (Addr × Addr)),ZB3 (K w.params) q.1 q.2=ZFt/\(K w.params).lookup q.2=Z_)
  (F:∀(w:World) (mg:Str->Option Value) (fa:Addr) (h:Heap),(K w.params).In h->h.Ns ZA7 mg->mg d.name=Z (.ref fa) ->
   ∃fd:FuncData,(∀(s:Shared) (u:Value),BindsTo s fd ⟨[u],[]⟩ [("_law_script",u)])/\∀base:Heap,(K w.params).In base->base.Ns ZA7 mg->BMod base mg->ZdM l.prog w (K w.params) mg base CX0 43 fa fd ["_law_script"] (@spD (fxI (K w.params)) (K w.params) 1 (ZgH ap))) :
  PySem.W.WalkO q loose XP YP l.row.toRowW d [] (λf vs=>PySem.call f vs) :=
 ZvI (n:=63) (k:=43) (x:="_law_script") (sp:=λw=>@spD (fxI (K w.params)) (K w.params) 1 (ZgH ap)) (tabs:=[(277,273)]) hn (by decide) hdf ⟨rfl,by decide,by decide⟩ hY hYT hT F λw H a ns hl hO hS=>@Zx1 (fxI (K w.params)) _ _ _ _ _ _ hO (λT q h=>by
  have:∀p∈tlI,p.1∈([(277,273)]:List (Addr × Addr)).map (·.2):=by decide
  exact this _ h) hS (Zlc ns hl)
section
variable{P:Program}{w:World}{K:ZAo}{mg:Str->Option Value}{base:Heap}{k:Nat}
abbrev ZzA{K:ZAo}(_:K.In h)(mg:Str->Option Value):Prop:=Ds K mg
abbrev ZyT{K:ZAo}(_:K.In h)(mg:Str->Option Value):Prop:=Txt K mg
theorem int_mk{mg:Str->Option Value}{v:Value}{k:Int}(h:mg n=Z v)(e:∃t,v=.int k t):∃t,mg n=Z (.int k t):=by obtain⟨t,rfl⟩:=e;exact⟨t,h⟩
abbrev Zx4{K:ZAo}(_:K.In h)(a:Addr)(ds:List L2.V):Prop:=HP.Zp2 K a ds
theorem ZxK{K:ZAo}{mg:Str->Option Value}{y:Str}{a:Addr}{o:Obj}(h:mg n=Z (.ref a))(l:K.lookup a=Z o)(e:∃t m d,o={ cls:=.type "tuple",data:=.seq #[.str y t] m,dict:=d }):∃a,mg n=Z (.ref a)/\HP.Zp2 K a [.str y]:=by obtain⟨t,m,d,rfl⟩:=e;exact⟨a,h,_,_,_,l,rfl,rfl,(show 1<=sizeLine by decide),.cons ⟨t,rfl⟩ .nil⟩
end
end HT
namespace PySem.W.Fast
theorem tw11468871293112312047:True:=⟨⟩
theorem tw12846921449890218032:True:=⟨⟩
theorem tw13323327515962121305:True:=⟨⟩
theorem tw13399471173523158801:True:=⟨⟩
theorem tw13568042927874677516:True:=⟨⟩
theorem tw13671170220821082846:True:=⟨⟩
theorem tw15194595138052577047:True:=⟨⟩
theorem tw15315384112451505170:True:=⟨⟩
theorem tw15360353438463642732:True:=⟨⟩
theorem tw1674801356688722502:True:=⟨⟩
theorem tw17231126735485758561:True:=⟨⟩
theorem tw17464522017258539391:True:=⟨⟩
theorem tw17574846799137547999:True:=⟨⟩
theorem tw17694387989657932809:True:=⟨⟩
theorem tw17844557032219865969:True:=⟨⟩
theorem tw18249347023200836345:True:=⟨⟩
theorem tw18436010367021763694:True:=⟨⟩
theorem tw389823502201450187:True:=⟨⟩
theorem tw4635606315429184290:True:=⟨⟩
theorem tw47975747529099974:True:=⟨⟩
theorem tw4915572355567601075:True:=⟨⟩
theorem tw5424727607696825993:True:=⟨⟩
theorem tw6302786202003625877:True:=⟨⟩
theorem tw6471453612194319163:True:=⟨⟩
theorem tw6751939473164113757:True:=⟨⟩
theorem tw7368551331019277862:True:=⟨⟩
theorem tw8256029463764175567:True:=⟨⟩
theorem tw9419919846222794635:True:=⟨⟩
theorem tw9866016511964965805:True:=⟨⟩
end PySem.W.Fast
open PySem PySem.W PyProof.Rows
set_option maxRecDepth 100000 in
set_option maxHeartbeats 0 in
theorem PySem.Challenge.cw_halfseen_k24_bought_plans_holds : PySem.Challenge.rw_halfseen_k24_bought_plans.Holds := by
 w_on; o_law; k_head; (case hw=>w_witness2)
 k_fill
 refine HT.walk (l:=PySem.Challenge.rw_halfseen_k24_bought_plans) rfl rfl HG24.Zlc (λw h Y=>PySem.W.km_in_of Y) (λw h Y q hq=>PySem.W.km_tabs_of Y _ (by clear Y; revert q; decide)) ?Tab ?F
 case Tab=>intro w q hq;cases ZAu.mp hq;exact⟨by kernel_rfl,by kernel_rfl⟩
 case F =>
  intro w mg fa h KX G hmg;have fx0:HP.FX:=HP.FX0;have c_DONE:∃a,mg "DONE" = Z (.ref a)/\HT.Zx4 KX a [.str "done"]:=by
   refine' HT.ZxK (ZDf KX G ?z) ?l ?e
   (case z=>k_is)
   (case l=>k_is)
   (case e=>exact⟨_,_,_,rfl⟩)
  have T:HT.ZyT KX mg:=by
   refine⟨?_,?_,?_,?_,?_,?_,?_,?_,?_,?_,?_,?_,?_,?_,?_,?_,?_,?_,?_,c_DONE⟩
   all_goals first
    | (refine PySem.W.mg_none_of KX G ?z; (case z=>k_is))
    | (refine' HT.int_mk (ZDf KX G ?z) ?e; (case z=>k_is); (case e=>exact⟨_,rfl⟩))
  have Dd:HT.ZzA KX mg:=by
   refine⟨?_,?_,?_,?_,?_,?_,?_,?_,?_,?_,?_,?_,?_,?_,?_,?_,?_,?_,?_,?_,?_,?_,?_,?_,?_,?_,?_,?_,?_,?_,?_,?_,?_,?_,?_,?_,?_,?_,?_,?_,?_,?_,?_,?_,?_,?_,?_,?_,?_,?_,?_,?_,?_,?_,?_⟩
   all_goals first
    | (refine' HT.Zyp KX G ?a ?l ?c ?k ?b; (case a=>k_is); (case l=>k_is); (case c=>k_is); (case k=>k_is); (case b=>first | exact λ_ _ _ _ _ _ us hl=>(match us,hl with | [_],_=>rfl) | exact λ_ _ _ _ _ _ us hl=>(match us,hl with | [_,_],_=>rfl) | exact λ_ _ _ _ _ _ us hl=>(match us,hl with | [_,_,_],_=>rfl) | exact λ_ _ _ _ _ _ us hl=>(match us,hl with | [_,_,_,_],_=>rfl)))
    | (refine' HT.Zwp KX G ?a ?l ?c ?k ?b ?e ?h; (case a=>k_is); (case l=>k_is); (case c=>k_is); (case k=>k_is); (case h=>kernel_rfl); (case e=>exact rfl); (case b=>first | exact λ_ _ _ _ _ _ us hl=>(match us,hl with | [_],_=>rfl) | exact λ_ _ _ _ _ _ us hl=>(match us,hl with | [_,_],_=>rfl) | exact λ_ _ _ _ _ _ us hl=>(match us,hl with | [_,_,_],_=>rfl) | exact λ_ _ _ _ _ _ us hl=>(match us,hl with | [_,_,_,_],_=>rfl)))
    | (refine' HT.Zx5 KX G ?z; (case z=>k_is))
  refine' HT.all_mk KX G hmg T Dd ?a4 ?l4 ?c4 ?k4
  (case a4=>k_is); (case l4=>k_is); (case c4=>k_is); (case k4=>k_is)