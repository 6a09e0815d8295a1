import PyProof.Rows.All
import Wide.All
import OpenK.AllK
import Wide.FinOn
import Lean
import PyProof.EqAt
import PyProof.EqKinds
import PyProof.TupleCall
import PyProof.P3Statements
import PyProof.P3Eq
import PyProof.NeData
import PyProof.IsiPairs
import PyProof.IsiHeapPairs
import KE.LcSums
import PyProof.IsiNone
import PyProof.DictRoadsH
import PyProof.Rows.SetFrom
import PyProof.DictWalks
import PyProof.Rows.MinMaxN
import PyProof.Rows.SumAny
import PyProof.WalkInts
import PySem.Challenge.RW_halfseen_k06_plans_found
set_option Elab.async false
set_option linter.all false
set_option maxRecDepth 100000
open PySem.W renaming Frag->Zzp,fnOf->ZAN,keepIn->ZAU,codeHdIn->ZA7,nsIn->ZBv,codeIn->ZBA,tabObj->ZB6,mg_of->ZCe,envX->ZCn,kla_obj->ZC3,methodObj->ZDs,OpenLaw->ZDZ,cellsFrom_some->ZD0,codeHd_of_K->ZEm,callWith_K->ZEp,FnAt->ZEr,callWith_F->ZEs
open PySem renaming wpAny_bind->Zzq,wpAny_pure->Zzv,starEach->ZzC,mainGlobals->Zz7,bootBuiltins->ZAt,compareOp->ZAu,wpAny_newObj_type->ZAw,behindInMarks->ZAD,wpAny_holding->ZAE,wpAny_mono->ZAK,wpAny_truthy_bool->ZAL,codeAny_builtin->ZAQ,wpAny_call_entry->ZAR,sizeLine_eq->ZAT,mem_of_lookup->ZA0,sysModules->ZA1,foldedSetIterable->ZBb,wpAny_Call_Name_kw->ZBm,codeAny_mono->ZBr,lookup_relabel_local->ZBu,wpAny_typeNameOfWhole_keyiter->ZBx,swapsWith->ZBC,tupleKind_room_in1->ZBD,wpAny_passesOwn->ZBE,wpAny_ite_split->ZBF,attributeBase->ZBI,plainId_quiet->ZBK,wpAny_typeNameOf_keyiter->ZBS,wpAny_askSetting->ZCc,sliceBounds->ZCf,tupleKind->ZCi,assignEach->ZCp,wpAny_setField->ZCu,wpAny_tryCatch->ZCv,wpAny_dictEntries->ZCy,wpAny_setState_of->ZCA,keywordEach->ZCG,binaryOp->ZCO,wpAny_execs_nil->ZCV,letOwnedTupleGo->ZCW,wpAny_newFunctionEnv->ZC1,wpAny_setEntries_of->ZC8,wpAny_fieldsOf->ZDd,firstArgMember->ZDe,codeAmong->ZDh,wpAny_attempt->ZDn,wpAny_pyIter_list->ZDu,wpAny_pyIter_slot->ZDw,builtinsNs->ZDy,wpAny_call->ZDz,call_meets->ZDA,intKind_is->ZDD,backToKw->ZDH,wpAny_isInstance->ZDJ,pickOrder->ZDV,wpAny_dictEpoch->ZDW,wpAny_updateSeq->ZDY,subscripted->ZD1,wpAny_of_eq->ZD5,wpAny_letGo->ZD6
open List renaming length_map->Zzr,mem_cons_self->Zzt,mem_cons_of_mem->Zzu,map_cons->Zzw,mem_map->Zzx,all_eq_true->Zzz,range->ZzA,getElem?_eq_getElem->ZzD,getElem?_eq_some_iff->ZzF,length_cons->ZzG,mem_cons->ZzH,mem_singleton->ZzI,length_append->ZzL,size_toArray->ZzN,map_map->ZzO,mem_range->ZzP,getElem?_map->ZzR,mem_append_right->ZzT,mem_of_getElem?->ZzU,mem_append->ZzX,map_append->Zz0,getElem?_set_ne->Zz2,replicate->Zz3,getElem?_append_left->Zz4,mem_filter->Zz5,append_nil->Zz8,mem_append_left->Zz9,getElem?_cons_succ->ZAa,pairwise_cons->ZAc,getElem?_append_right->ZAf,any_eq_true->ZAg,nodup_cons->ZAh,length->ZAi,length_replicate->ZAj,getElem?_set_self->ZAl,find?_cons->ZAn,length_filter_le->ZAq,foldl_cons->ZAv,mem_filterMap->ZAA,all_cons->ZAF,length_set->ZAG,filterMap_cons->ZAI,map_congr_left->ZAJ,append_assoc->ZAM,length_singleton->ZAO,filter_cons->ZAS,getD->ZAZ,length_take->ZA3,getElem_mem->ZA4,any_cons->ZA8,nodup_nil->ZA9,contains_eq_mem->ZBa,nodup_append->ZBc,replicate_succ->ZBd,filter_eq_self->ZBe,map_nil->ZBf,lookup_cons->ZBj,mem_of_find?_eq_some->ZBo,nil_append->ZBs,length_range->ZBw,getElem_of_mem->ZBz,min?_eq_some_iff->ZBH,flatten_cons->ZBL,mem_flatMap->ZBR,getElem?_replicate->ZBU,getElem?_cons_zero->ZBV,eq_nil_of_length_eq_zero->ZB1,set_getElem_self->ZB4,length_drop->ZB8,pairwise_append->ZCa,mergeSort_perm->ZCg,pairwise_mergeSort->ZCx,pairwise_map->ZCE,find?_isSome->ZCF,filter_eq_nil_iff->ZCJ,max?_eq_some_iff->ZCT,max?_eq_none_iff->ZCU,set_set->ZCY,find?_some->ZC6,find?_eq_some_iff_append->ZC7,length_pos_iff->ZC9,map_eq_nil_iff->ZDa,map->ZDb,range'->ZDg,ne_nil_of_mem->ZDl,nodup_iff_pairwise_ne->ZDq,exists_cons_of_ne_nil->ZDr,find?_append->ZDv,drop_eq_getElem_cons->ZDB,pairwise_iff_getElem->ZDC,getElem?_take_of_lt->ZDG,set_eq_of_length_le->ZDI,cons_append->ZDL,all_nil->ZDM,length_filterMap_le->ZDN,filter_cons_of_pos->ZDQ,filter_cons_of_neg->ZDR,of_mem_zip->ZDS,length_nil->ZDT,pairwise_lt_range->ZD7,getElem?_eq_none->ZD8,dropLast_eq_take->ZEd,find?_map->ZEe,min?_eq_none_iff->ZEf
open Option renaming map_eq_some_iff->Zzs,isSome_iff_exists->ZzZ,isSome_map->ZAY,map->ZBi,isSome->ZCd,bind_eq_some_iff->ZCw,map_eq_none_iff->ZD4
open PySem.Heap renaming get?_push_of_some->Zzy,lt_size->ZzJ,get?_push_size->ZzM,get?_update_self->ZAC,get?_update_other->ZAV,SameBut->ZBq,size_push->ZB5,get?_push_ne->ZCD,size_update->ZCQ
open Nat renaming le_refl->ZzB,ne_of_lt->ZzQ,lt_of_lt_of_le->ZzW,le_trans->ZAd,zero_le->ZAP,lt_irrefl->ZBh,le_of_lt->ZBp,lt_trans->ZBt,lt_succ_self->ZBQ,lt_succ_of_lt->ZB3,le_of_not_lt->ZB9,ne_of_gt->ZCj,blt_eq->ZCs,le_of_eq->ZC0,pow_le_pow_right->ZC5,min_le_left->ZDU
open PySem.SetTable renaming below->ZzE,insertAt->ZzS,insertAt_perm->ZBg,tooFull->ZCb,toList_insertAt->ZCm,fits->ZCL,fill->ZCM,turns->ZD9,bits->ZEh
open Bool renaming and_eq_true->ZzK,false_ne_true->ZAb,or_eq_true->ZA2,false_eq_true->ZBn,false_or->ZCK,eq_iff_iff->ZC2,true_and->ZEj
open Array renaming length_toList->ZzV,getElem?_toList->ZAp,getD->ZBB,toList_push->ZBM,getElem?_eq_getElem->ZBN,getElem?_eq_none->ZCH,perm_iff_toList_perm->ZDo
open Or renaming inr->ZzY,inl->ZAe
open PySem.PyData renaming tuple->Zz1,int->Zz6,eqv->ZAr,bool->ZAX,canLayAll0->ZB2,depthAll->ZC4,eqvAll->ZDp
open PySem.Str renaming ofString->ZAk
open False renaming elim->ZAm
open PySem.Value renaming ref->ZAo,none->ZAy,int->ZBl,type->ZCo
open Option.some renaming inj->ZAs
open Ne renaming symm->ZAx
open PySem.Around renaming under_plainId->ZAz,frames_deeper->ZEg
open PySem.Heap.SameBut renaming update->ZAB,refl->ZEt
open List.Nodup renaming length_le_of_subset->ZAH
open PySem.F renaming plain_min_loop->ZAW,called_set->ZA5,plainAttrs_list->ZBy,plain_list_iadd->ZBW,slot_list_append->ZCk,type_list_append->ZCl,entry_min_loop->ZCI,slot_dict_get->ZCR,slot_dict_setdefault->ZDc,plain_proto_collect->ZDj,args_dict_get_3->ZDO,plainAttrs_dict->ZDP,entry_dict_get->ZD2,plain_set_new->ZEa,slot_set_iter->ZEb
open PySem.Obj renaming data_mapFields->ZA6,mapSeq->ZCq,putSet->ZCt,isFreed_of_fields->ZCS,cls_mapFields->ZDx,mapFields->ZEi
open Sum renaming inl->ZBk,inr->ZDF
open PyProof.Rows.KeyOrd renaming kle_of_not_klt->ZBG,kle_refl->ZBZ,kle_of_klt->ZCC,kle_trans->ZCP,kle_antisymm->ZEk
open PySem.NameKind renaming free->ZBJ
open Classical renaming byContradiction->ZBO
open PySem.Builtin.List renaming listTooLong->ZBP,listLengthHint->ZDi,listExtendWith->ZDk
open PySem.Builtin.Range renaming rangeSize->ZBT,small->ZEl
open PySem.Paired renaming length->ZBX
open PySem.Calls renaming spliced_cons->ZBY,callWith_builtin->ZB0,evalArgs_plain->ZCX,Name_function_global->ZDm,spliced_nil->ZDt,call_function_entry->ZDE
open PyProof.Rows renaming callWith_type1->ZB7,entry_list_sort->ZDX
open Int renaming toNat_of_nonneg->ZCh,toNat_natCast->ZCB
open True renaming intro->ZCr
open PySem.SetTable.below renaming go->ZCz
open Function renaming comp->ZCN
open ForInStep renaming yield->ZCZ
open PySem.Builtin.Dict_items renaming ownsTuple->ZDf
open PySem.Builtin.Tuple renaming tupleExact->ZDK
open PySem.SeqAt renaming neOverData->ZD3
open PySem.Builtin.Dict renaming showsAll->ZEc
open PySem.SeqAt.EqAt renaming int_str->ZEn,str_int->ZEo
open PySem.Expr renaming Call->ZEq
namespace L2
open PySem PySem.Spec PyProof.Rows
abbrev Key:=Sum Int Str
def Ziq:Key->Value->Bool
 | .inl k,v=>Value.isInt k v
 | .inr x,v=>Value.isStrOf x v
def Zy4(w:World):Key->Int
 | .inl k=>hashInt k
 | .inr x=>hashStr w x
theorem Zbq:∀{k:Key} {v:Value},Ziq k v=true->(∃i t,k=ZBk i/\v=ZBl i t)\/(∃x t,k=ZDF x/\v=Value.str x t)
 | .inl i,v,h=>by obtain⟨t,e⟩:=Value.isInt_shape (k:=i) (v:=v) h;exact .inl ⟨i,t,rfl,e⟩
 | .inr x,v,h=>by obtain⟨t,e⟩:=Value.isStrOf_shape (x:=x) (v:=v) h;exact .inr ⟨x,t,rfl,e⟩
theorem ZtH(i:Int)(t:Tok):Ziq (.inl i) (.int i t)=true:=by simp[Ziq,Value.isInt]
theorem ZtB(x:Str)(t:Tok):Ziq (.inr x) (.str x t)=true:=by simp[Ziq,Value.isStrOf]
theorem ZwJ(a b:Int):decide ((ZBk a:Key)=ZBk b)=(a==b):=by
 by_cases e:a=b
 ·subst e; simp
 ·have h:¬(ZBk a:Key)=ZBk b:=λq=>e (Sum.inl.inj q)
  rw[decide_eq_false h];exact(beq_eq_false_iff_ne.mpr e).symm
theorem Zw0(a b:Str):decide ((ZDF a:Key)=ZDF b)=decide (a=b):=by
 by_cases e:a=b
 ·subst e; simp
 ·have h:¬(ZDF a:Key)=ZDF b:=λq=>e (Sum.inr.inj q)
  rw[decide_eq_false h,decide_eq_false e]
theorem ZwG(a:Int)(b:Str):decide ((ZBk a:Key)=ZDF b)=false:=decide_eq_false (λq=>nomatch q)
theorem ZxA(a:Str)(b:Int):decide ((ZDF a:Key)=ZBk b)=false:=decide_eq_false (λq=>nomatch q)
def Zay(prog:Program)(w:World):PySem.KeyKind prog w Key where
 is:=Ziq
 hash:=Zy4 w
 inj:=λv a b ha hb=>by
  rcases Zbq ha with⟨i,t,rfl,rfl⟩ | ⟨x,t,rfl,rfl⟩
  ·rcases Zbq hb with⟨j,u,rfl,e⟩ | ⟨y,u,rfl,e⟩
   ·injection e with e1 _; rw[e1]
   ·exact nomatch e
  ·rcases Zbq hb with⟨j,u,rfl,e⟩ | ⟨y,u,rfl,e⟩
   ·exact nomatch e
   ·injection e with e1 _; rw[e1]
 byValue:=λk v h=>by rcases Zbq h with⟨i,t,rfl,rfl⟩ | ⟨x,t,rfl,rfl⟩<;>rfl
 pyHash:=λhv h=>by
  rcases Zbq hv with⟨i,t,rfl,rfl⟩ | ⟨x,t,rfl,rfl⟩
  ·exact wpAny_pyHash_int h
  ·exact wpAny_pyHash_str h
 eqBool:=λhu hv h=>by
  rcases Zbq hu with⟨i,t,rfl,rfl⟩ | ⟨x,t,rfl,rfl⟩
  ·rcases Zbq hv with⟨j,u,rfl,rfl⟩ | ⟨y,u,rfl,rfl⟩
   ·rw[ZwJ]at h; exact wpAny_eqBool_int h
   ·rw[ZwG]at h; exact ZEn i t y u _ _ _ _ h
  ·rcases Zbq hv with⟨j,u,rfl,rfl⟩ | ⟨y,u,rfl,rfl⟩
   ·rw[ZxA]at h; exact ZEo x t j u _ _ _ _ h
   ·rw[Zw0]at h; exact wpAny_eqBool_str h
 «strs»:=λk x t v h=>by
  rcases Zbq h with⟨i,u,rfl,e⟩ | ⟨y,u,rfl,e⟩
  ·exact nomatch e
  ·injection e with e1 _
   subst e1;cases v<;>rfl
theorem Zr5(prog:Program)(w:World)(k:Key)(v:Value):(Zay prog w).is k v=Ziq k v:=rfl
theorem Zqr(prog:Program)(w:World)(i:Int)(t:Tok):(Zay prog w).is (.inl i) (.int i t)=true:=ZtH i t
theorem Zqv(prog:Program)(w:World)(x:Str)(t:Tok):(Zay prog w).is (.inr x) (.str x t)=true:=ZtB x t
end L2
namespace L2
open PySem PySem.Spec PyProof.Rows
inductive V where
 | non | bl (b:Bool) | int (i:Int) | str (x:Str) | byt (b:Array UInt8) | flt (b:UInt64) | ref (a:Addr) | ty (n:String)
 deriving DecidableEq
def RelV:V->Value->Prop
 | .non,u=>u=ZAy
 | .bl b,u=>u=Value.bool b
 | .int i,u=>∃t,u=ZBl i t
 | .str x,u=>∃t,u=Value.str x t
 | .byt b,u=>∃t,u=Value.bytes b t
 | .flt b,u=>∃t,u=Value.float b t
 | .ref a,u=>u=ZAo a
 | .ty n,u=>u=ZCo n
abbrev Vals:List V->List Value->Prop:=Paired RelV
theorem Vals.length{xs:List V}{us:List Value}(r:Vals xs us):xs.length=us.length:=ZBX r
theorem Vals.get:∀{xs:List V} {us:List Value} {i:Nat} {x:V},Vals xs us->xs[i]?=some x->∃u,us[i]?=some u/\RelV x u
 | _,_,_,_,.nil,e=>by simp at e
 | _,_,0,_,.cons r _,e=>by simp at e; subst e; exact⟨_,rfl,r⟩
 | _,_,i+1,x,.cons _ t,e=>by obtain⟨u,h1,h2⟩:=Vals.get (i:=i) (x:=x) t (by simpa using e);exact⟨u,by simpa using h1,h2⟩
theorem Vals.set{x:V}{u:Value}(r:RelV x u):∀{xs:List V} {us:List Value} (i:Nat),Vals xs us->Vals (xs.set i x) (us.set i u)
 | _,_,_,.nil=>.nil
 | _,_,0,.cons _ t=>.cons r t
 | _,_,i+1,.cons q t=>.cons q (Vals.set r i t)
theorem Vals.append:∀{xs ys:List V} {us ws:List Value},Vals xs us->Vals ys ws->Vals (xs++ys) (us++ws)
 | _,_,_,_,.nil,s=>s
 | _,_,_,_,.cons r t,s=>.cons r (Vals.append t s)
theorem Vals.take:∀{xs:List V} {us:List Value} (n:Nat),Vals xs us->Vals (xs.take n) (us.take n)
 | _,_,0,_=>.nil
 | _,_,_+1,.nil=>.nil
 | _,_,n+1,.cons r t=>.cons r (Vals.take n t)
theorem Vals.drop:∀{xs:List V} {us:List Value} (n:Nat),Vals xs us->Vals (xs.drop n) (us.drop n)
 | _,_,0,r=>r
 | _,_,_+1,.nil=>.nil
 | _,_,n+1,.cons _ t=>Vals.drop n t
def ZfW:Option V->Option Value->Prop
 | some v,some u=>RelV v u
 | none,none=>True
 | _,_=>False
def KV{κ:Type}:List (κ × V)->List (κ × Value)->Prop:=Paired λ(p:κ × V) (q:κ × Value)=>p.1=q.1/\RelV p.2 q.2
def kV:Key->V
 | .inl i=>.int i
 | .inr x=>.str x
inductive HO where
 | lst (xs:List V)
 | tup (xs:List V)
 | dK (kvs:List (Key × V)) | dT (kvs:List (List Key × V))
 | set (S:Int->Bool) (n:Nat)
 | ins (C dx:Addr) (fs:List (Str × V))
 | own (x:Addr)
 | xd (fs:List (Str × V))
 | met (f x:Addr)
 | rng (lo hi:Int)
 | frz (o:Obj) (u:HO)
 | tbl (ps:Array Value)
 | ext (φ:Heap->Prop)
abbrev Hp:=Addr->Option HO
def upd(H:Hp)(a:Addr)(o:HO):Hp:=λb=>if b=a then some o else H b
theorem ZH{H:Hp}{a:Addr}{o:HO}:upd H a o a=some o:=by unfold upd; rw[if_pos rfl]
theorem ZD{H:Hp}{a b:Addr}{o:HO}(h:b≠a):upd H a o b=H b:=by unfold upd; rw[if_neg h]
theorem Zvn{H:Hp}{a b:Addr}{o u:HO}(h:H a=some o)(h':H b=some u)(d:o≠u):a≠b:=by intro e; subst e; rw[h]at h'; exact d (ZAs h')
theorem ZaB{H:Hp}{a b:Addr}{o:HO}(h:H a=some o)(h':H b=none):a≠b:=by intro e; subst e; rw[h]at h'; cases h'
section
variable(P:Program)(w:World)
def Zah(H:Hp)(h:Heap)(a:Addr):HO->Prop
 | .lst xs=>xs.length<=sizeLine/\∃(its:List Value) (n:Nat),Vals xs its/\h.get? a=some { cls:=.type "list",data:=.seq its.toArray n }
 | .tup xs=>xs.length<=sizeLine/\∃its:List Value,Vals xs its/\IsTup h a its.toArray
 | .dK kvs=>kvs.length<=sizeLine/\(a==ZA1)=false/\∃vs,KV kvs vs/\h.DictOf (Zay P w) a vs
 | .dT kvs=>kvs.length<=sizeLine/\(a==ZA1)=false/\∃xs:List (List Key × Addr × Value),
   Paired (λ(p:List Key × V) (q:List Key × Addr × Value)=>p.1=q.1/\H q.2.1=some (.tup (p.1.map kV))/\RelV p.2 q.2.2) kvs xs /\
   ∃o es ep,h.get? a=some o/\o.ExactDict/\o.data=.dict es ep/\es.toList=xs.map (entryOfKey (ZCi (Zay P w)))/\(xs.map (·.1)).Nodup
 | .set S n=>h.SetOf (intKind P w) a S n
 | .ins C dx fs=>H dx=some (.own a)/\fs.length<=1000/\dx≠a/\h.get? a=some (PySem.W.instObj C dx) /\
   ∃mA,h.Ns1 dx mA/\(∀f,ZfW (fs.lookup f) (mA f))/\PySem.Within mA (fs.map (·.1))
 | .own _=>∃o,h.get? a=some o
 | .xd fs=>∃mA,h.Ns1 a mA/\∀f,ZfW (fs.lookup f) (mA f)
 | .rng lo hi=>∃t u v,h.get? a=some { cls:=.type "range",data:=.fields #[.int lo t,.int hi u,.int 1 v] }
 | .frz o u=>h.get? a=some o/\Zah H h a u
 | .tbl ps=>h.get? a=some { cls:=.none,data:=.fields ps }
 | .met f x=>h.get? a=some (ZDs (.ref f) (.ref x))
 | .ext φ=>φ h/\(∃o,h.get? a=some o)/\∀h1 h2:Heap,φ h1->(∀o,h1.get? a=some o->h2.get? a=some o)->φ h2
def HOk(H:Hp)(h:Heap):Prop:=∀a o,H a=some o->Zah P w H h a o
end
section
variable{P:Program}{w:World}{H H':Hp}{h h':Heap}{a:Addr}{o:HO}
theorem Zah.lt(x:Zah P w H h a o):a<h.objs.size:=by
 cases o with
 | lst xs=>obtain⟨_,_,_,_,e⟩:=x; exact ZzJ e
 | tup xs=>obtain⟨_,_,_,p⟩:=x; exact p.lt
 | dK kvs=>obtain⟨_,_,_,_,o,_,_,e,_⟩:=x; exact ZzJ e
 | dT kvs=>obtain⟨_,_,_,_,o,_,_,e,_⟩:=x; exact ZzJ e
 | set S n=>obtain⟨o,_,_,_,e,_⟩:=x; exact ZzJ e
 | ins C dx fs=>obtain⟨_,_,_,e,_⟩:=x; exact ZzJ e
 | own y=>obtain⟨_,e⟩:=x; exact ZzJ e
 | xd fs=>obtain⟨_,⟨_,_,_,e,_⟩,_⟩:=x; exact ZzJ e
 | rng lo hi=>obtain⟨_,_,_,e⟩:=x; exact ZzJ e
 | frz ob u=>obtain⟨e,_⟩:=x; exact ZzJ e
 | tbl ps=>exact ZzJ (show h.get? a=some _ from x)
 | met f y=>exact ZzJ (show h.get? a=some _ from x)
 | ext φ=>obtain⟨_,⟨_,e⟩,_⟩:=x; exact ZzJ e
theorem Paired.mapP{α β:Type}{F G:α->β->Prop}:∀{l₁:List α} {l₂:List β},Paired F l₁ l₂->(∀a b,F a b->G a b)->Paired G l₁ l₂
 | _,_,.nil,_=>.nil
 | _,_,.cons r t,f=>.cons (f _ _ r) (Paired.mapP t f)
theorem Zah.stay(x:Zah P w H h a o)(k:∀b u,(b=a\/H b=some (.own a))->h.get? b=some u->h'.get? b=some u)
  (ho:∀b,H b=some (.own a)->H' b=some (.own a)) (ht:∀b xs,H b=some (.tup xs)->H' b=some (.tup xs)):Zah P w H' h' a o:=by
 induction o with
 | lst xs=>obtain⟨z,its,n,r,e⟩:=x; exact⟨z,its,n,r,k _ _ (.inl rfl) e⟩
 | tup xs=>obtain⟨z,its,r,ob,e,c⟩:=x; exact⟨z,its,r,ob,k _ _ (.inl rfl) e,c⟩
 | dK kvs=>obtain⟨z,y,vs,r,ob,es,ep,e,c⟩:=x; exact⟨z,y,vs,r,ob,es,ep,k _ _ (.inl rfl) e,c⟩
 | dT kvs=>obtain⟨z,y,xs,r,ob,es,ep,e,c⟩:=x;exact⟨z,y,xs,Paired.mapP r λp q z=>⟨z.1,ht _ _ z.2.1,z.2.2⟩,ob,es,ep,k _ _ (.inl rfl) e,c⟩
 | set S n=>obtain⟨ob,es,ep,t,e,c⟩:=x; exact⟨ob,es,ep,t,k _ _ (.inl rfl) e,c⟩
 | ins C dx fs=>obtain⟨d,z,ne,e,mA,⟨od,es,ep,e2,c⟩,r⟩:=x;exact⟨ho _ d,z,ne,k _ _ (.inl rfl) e,mA,⟨od,es,ep,k _ _ (.inr d) e2,c⟩,r⟩
 | own y=>obtain⟨ob,e⟩:=x; exact⟨ob,k _ _ (.inl rfl) e⟩
 | xd fs=>obtain⟨mA,⟨od,es,ep,e,c⟩,r⟩:=x; exact⟨mA,⟨od,es,ep,k _ _ (.inl rfl) e,c⟩,r⟩
 | rng lo hi=>obtain⟨t,u,v,e⟩:=x; exact⟨t,u,v,k _ _ (.inl rfl) e⟩
 | frz ob u ih=>obtain⟨e,q⟩:=x; exact⟨k _ _ (.inl rfl) e,ih q⟩
 | tbl ps=>have e:h.get? a=some { cls:=.none,data:=.fields ps }:=x;show h'.get? a=some { cls:=.none,data:=.fields ps };exact k a _ (.inl rfl) e
 | met f y=>have e:h.get? a=some (ZDs (.ref f) (.ref y)):=x;show h'.get? a=some (ZDs (.ref f) (.ref y));exact k a _ (.inl rfl) e
 | ext φ=>obtain⟨p,⟨o,e⟩,st⟩:=x; exact⟨st _ _ p λo q=>k _ _ (.inl rfl) q,⟨o,k _ _ (.inl rfl) e⟩,st⟩
theorem HOk.lt(x:HOk P w H h)(e:H a=some o):a<h.objs.size:=(x a o e).lt
theorem HOk.fresh(x:HOk P w H h)(e:h.objs.size<=a):H a=none:=by
 cases q:H a with
 | none=>rfl
 | some u=>exact absurd (ZzW (x.lt q) e) (ZBh _)
theorem HOk.kept(x:HOk P w H h)(k:∀b u,h.get? b=some u->h'.get? b=some u):HOk P w H h':=λa o e=>(x a o e).stay (λb u _ q=>k b u q) (λ_ q=>q) λ_ _ q=>q
theorem HOk.laid(x:HOk P w H h)(k:∀b u,h.get? b=some u->h'.get? b=some u)(hp:h.objs.size<=a)(new:Zah P w (upd H a o) h' a o):HOk P w (upd H a o) h':=λb u e=>by
 have hn:=x.fresh hp
 by_cases hb:b=a
 ·subst hb; rw[ZH]at e; cases e; exact new
 ·rw[ZD hb]at e
  exact(x b u e).stay (λc v _ q=>k c v q) (λc q=>by rw[ZD (ZaB q hn)]; exact q) λc xs q=>by rw[ZD (ZaB q hn)]; exact q
end
def Rd(H:Hp)(a:Addr)(u:HO):Prop:=H a=some u\/∃o,H a=some (.frz o u)
theorem Rd.ok{P:Program}{w:World}{H:Hp}{h:Heap}{a:Addr}{u:HO}(r:Rd H a u)(x:HOk P w H h):Zah P w H h a u:=by
 rcases r with r | ⟨o,r⟩
 ·exact x a u r
 ·obtain⟨_,q⟩:=x a _ r
  exact q
def Mut:Option HO->Prop
 | some (.lst _)=>True
 | some (.dK _)=>True
 | some (.dT _)=>True
 | some (.set _ _)=>True
 | some (.ins _ _ _)=>True
 | some (.ext _)=>True
 | _=>False
section
variable{P:Program}{w:World}{H:Hp}{h h':Heap}{x e:Addr}{o':HO}
theorem HOk.write(ok:HOk P w H h)(mu:Mut (H x))(he:e=x\/H e=some (.own x))(k:∀b u,b≠e->h.get? b=some u->h'.get? b=some u)(heo:∃u,h'.get? e=some u)
  (new:Zah P w (upd H x o') h' x o'):HOk P w (upd H x o') h':=λb u q=>by
 have nown:∀c y,H c=some (.own y)->c≠x:=λc y r z=>by subst z; rw[r]at mu; exact mu
 have ntup:∀c xs,H c=some (.tup xs)->c≠x:=λc xs r z=>by subst z; rw[r]at mu; exact mu
 by_cases hb:b=x
 ·subst hb; rw[ZH]at q; cases q; exact new
 ·rw[ZD hb]at q
  by_cases hbe:b=e
  ·have q':H b=some (.own x):=by
    rcases he with z | z
    ·exact absurd (hbe.trans z) hb
    ·rw[hbe]; exact z
   rw[q]at q'; cases q';obtain⟨v,hv⟩:=heo;exact⟨v,by rw[hbe]; exact hv⟩
  ·refine(ok b u q).stay (λc v hc r=>k c v ?_ r) (λc r=>by rw[ZD (nown c b r)]; exact r) λc xs r=>by rw[ZD (ntup c xs r)]; exact r
   rcases hc with rfl | hc
   ·exact hbe
   ·rintro rfl
    rcases he with z | z
    ·exact nown c b hc z
    ·rw[hc]at z; cases z; exact hb rfl
end
structure Un(fs ex:List Addr)(H H':Hp)(h h':Heap):Prop where
 keep:∀b o,h.get? b=some o->H b=none->b ∉ fs->b ∉ ex->h'.get? b=some o
 slot:∀b o,h.get? b=some o->H b=none->b∈fs->b ∉ ex->∃sl,h'.get? b=some { o with slots:=sl }
 free:∀b o,h.get? b=some o->H b=none->b ∉ ex->H' b=none
 there:∀b o,h.get? b=some o->b ∉ ex->∃o',h'.get? b=some o'
 tups:∀b xs,H b=some (.tup xs)->H' b=some (.tup xs)
 frzs:∀b o u,H b=some (.frz o u)->H' b=some (.frz o u)
 tbls:∀b ps,H b=some (.tbl ps)->∃more,H' b=some (.tbl (ps++more))
section
variable{fs fs' ex ex':List Addr}{H H1 H2:Hp}{h h1 h2 h':Heap}{a x e:Addr}{o:HO}
theorem Un.any(u:Un fs ex H H1 h h1){b:Addr}{ob:Obj}(q:h.get? b=some ob)(n:H b=none)(hx:b ∉ ex):∃sl,h1.get? b=some { ob with slots:=sl }:=by
 by_cases hb:b∈fs
 ·exact u.slot b ob q n hb hx
 ·exact⟨ob.slots,u.keep b ob q n hb hx⟩
theorem Un.kept(k:∀b u,h.get? b=some u->h'.get? b=some u):Un fs ex H H h h' :=
 ⟨λb ob q _ _ _=>k b ob q,λb ob q _ _ _=>⟨ob.slots,k b ob q⟩,λ_ _ _ n _=>n,λb ob q _=>⟨ob,k b ob q⟩,λ_ _ q=>q,λ_ _ _ q=>q,λ_ ps q=>⟨#[],by rw[q]; simp⟩⟩
theorem Un.refl:Un fs ex H H h h:=Un.kept λ_ _ q=>q
theorem Un.laid(k:∀b u,h.get? b=some u->h'.get? b=some u)(hp:h.objs.size<=a)(hn:H a=none):Un fs ex H (upd H a o) h h' where
 keep:=λb u q _ _ _=>k b u q
 slot:=λb u q _ _ _=>⟨u.slots,k b u q⟩
 free:=λb u q n _=>by rw[ZD (ZzQ (ZzW (ZzJ q) hp))]; exact n
 there:=λb u q _=>⟨u,k b u q⟩
 tups:=λb xs q=>by rw[ZD (ZaB q hn)]; exact q
 frzs:=λb u xs q=>by rw[ZD (ZaB q hn)]; exact q
 tbls:=λb ps q=>⟨#[],by rw[ZD (ZaB q hn),q]; simp⟩
theorem Un.write(mu:Mut (H x))(he:e=x\/H e=some (.own x))(k:∀b u,b≠e->h.get? b=some u->h'.get? b=some u)(heo:∃u,h'.get? e=some u):Un fs ex H (upd H x o) h h':=by
 have hx:∀b,H b=none->b≠x:=λb n z=>by subst z; rw[n]at mu; exact mu
 have hb:∀b,H b=none->b≠e:=λb n z=>by
  subst z;rcases he with r | r
  ·exact hx b n r
  ·rw[n]at r; cases r
 have hm:∀b u,H b=some u->¬Mut (some u)->b≠x:=λb u q nm z=>by subst z; rw[q]at mu; exact nm mu
 refine⟨λb u q n _ _=>k b u (hb b n) q,λb u q n _ _=>⟨u.slots,k b u (hb b n) q⟩,λb u q n _=>by rw[ZD (hx b n)]; exact n,λb u q _=>?_,
  λb xs q=>by rw[ZD (hm b _ q λz=>z)]; exact q,λb u xs q=>by rw[ZD (hm b _ q λz=>z)]; exact q,λb ps q=>⟨#[],by rw[ZD (hm b _ q λz=>z),q]; simp⟩⟩
 by_cases hbe:b=e
 ·subst hbe; exact heo
 ·exact⟨u,k b u hbe q⟩
end
def trk(h:Heap)(H:Hp):List Addr:=(ZzA h.objs.size).filter λa=>(H a).isSome
def ZhG(h:Heap)(H:Hp):Heap:=PySem.W.hideAll h (trk h H)
theorem ZsA(h:Heap)(H:Hp):(ZhG h H).objs.size=h.objs.size:=PySem.W.hideAll_size _ _
theorem Zud{h:Heap}{H:Hp}{b:Addr}{o:Obj}(e:h.get? b=some o)(n:H b=none):(ZhG h H).get? b=some o :=
 PySem.W.hideAll_get _ e λhm=>by have q:(H b).isSome=true:=(Zz5.mp hm).2;rw[n]at q; simp at q
theorem ZvH{h:Heap}{H:Hp}{b:Addr}{o:Obj}(e:(ZhG h H).get? b=some o):h.get? b=some o/\H b=none:=by
 have e':h.get? b=some o:=PySem.W.of_hideAll (trk h H) e;refine⟨e',?_⟩;cases q:H b with
 | none=>rfl
 | some x=>have hm:b∈trk h H:=Zz5.mpr ⟨ZzP.mpr (ZzJ e'),by simp[q]⟩;have z:(ZhG h H).get? b=none:=PySem.W.hideAll_none (trk h H) hm;rw[z]at e; cases e
end L2
namespace L2
open PySem PySem.Spec PyProof.Rows
structure Mod(K:Zzp)(mg:Str->Option Value)(base:Heap):Prop where
 kin:K.In base
 glob:base.Ns Zz7 mg
 blt:∃mb,base.Ns ZDy mb/\∀x:Str,x ≠ "__name__"->mb x=ZAt x
 nolimit:base.NoLimit
structure Cx where
 prog:Program
 w:World
 K:Zzp
 mg:Str->Option Value
 base:Heap
 A:Around
 N:List Str
 s₀:Shared
 H₀:Hp
 env:Env
 outer:List Env
 stack:List Env
 ex:List Addr
 fn:Str->Bool
 calm:Bool
 pn:List (Addr × Obj)
 xe:Value->Shared->Prop
def frs(l:List Env):List Addr:=l.filterMap (·.frame)
abbrev Cx.fs(X:Cx):List Addr:=frs X.outer
def Vis(sc:Scope)(x:Str):Prop:=sc.names.lookup x=some .local\/sc.names.lookup x=some .cell\/sc.names.lookup x=some .free
def Loc(sc:Scope)(x:Str):Prop:=sc.names.lookup x=some .local\/sc.names.lookup x=some .cell
def Look(env:Env)(h:Heap)(m:Str->Option Value)(x:Str)(u:Value):Prop :=
 (env.kindOf x=some .local/\m x=some u)\/((env.kindOf x=some .cell\/env.kindOf x=some .free)/\∃c,env.cells.lookup x=some c/\h.IsCell c (some u))
structure Cx.Ok(X:Cx):Prop where
 mod:Mod X.K X.mg X.base
 kind:X.env.scope.kind=.function
 glob:X.env.globals=Zz7
 blt:X.env.builtins=ZDy
 above:X.s₀.heap.objs.size<=X.env.locals
 inj:∀x y c,X.env.cells.lookup x=some c->X.env.cells.lookup y=some c->x=y
 has:∀x,(X.env.kindOf x=some .cell\/X.env.kindOf x=some .free)->∃c,X.env.cells.lookup x=some c
 cab:∀x c,X.fn x=true->X.env.cells.lookup x=some c->X.s₀.heap.objs.size<=c
 hd:X.calm=true->X.A.handled=none
 frames:X.A.frames=some X.stack
 stk:X.stack=X.outer\/(X.stack=X.env::X.outer/\X.env.frame=some X.env.locals)
 exf:∀b∈X.ex,b≠X.env.locals/\∀x c,X.env.cells.lookup x=some c->c≠b
 bs:∀b o,X.base.get? b=some o->X.s₀.heap.get? b=some o/\X.H₀ b=none
 bsz:X.base.objs.size<=X.s₀.heap.objs.size
 noex:∀b o,X.base.get? b=some o->b ∉ X.ex
 exfs:∀b∈X.ex,b ∉ X.fs
 funs:X.s₀.heap.FunFrames X.base X.outer
 frf:∀b∈X.fs,X.H₀ b=none
structure Inv(X:Cx)(pins:List (Addr × Obj))(σ:List (Option V))(H:Hp)(s:Shared):Prop where
 ok:X.Ok
 os:s.os=X.s₀.os
 bare:AllBare s.gens
 base:Un X.fs X.ex X.H₀ H X.s₀.heap s.heap
 loc:∃m,s.heap.Ns X.env.locals m/\∀(i:Nat) (x:Str) (v:V),X.N[i]?=some x->σ[i]?=some (some v)->Vis X.env.scope x->∃u,RelV v u/\Look X.env s.heap m x u
 cell:∀x c,X.env.cells.lookup x=some c->∃v,s.heap.IsCell c v
 free:H X.env.locals=none
 freeC:∀x c,X.env.cells.lookup x=some c->H c=none
 pin:∀p∈X.pn++pins,s.heap.get? p.1=some p.2/\H p.1=none/\p.1≠X.env.locals/\p.1 ∉ X.fs/\∀v,p.2.data≠.cell v
 hok:HOk X.prog X.w H s.heap
 len:σ.length=X.N.length
section
variable{X:Cx}{pins:List (Addr × Obj)}{σ:List (Option V)}{H H':Hp}{s:Shared}{h':Heap}
theorem Cx.Ok.nofr(ok:X.Ok){b:Addr}{o:Obj}(e:X.base.get? b=some o):b ∉ X.fs:=λhb=>by have:=(ok.funs.mem hb).1;rw[e]at this; cases this
theorem Inv.bs(I:Inv X pins σ H s):∀b o,X.base.get? b=some o->s.heap.get? b=some o/\H b=none:=λb o e=>⟨I.base.keep b o (I.ok.bs b o e).1 (I.ok.bs b o e).2 (I.ok.nofr e) (I.ok.noex b o e),I.base.free b o (I.ok.bs b o e).1 (I.ok.bs b o e).2 (I.ok.noex b o e)⟩
theorem Inv.bk(I:Inv X pins σ H s):∀b o,X.base.get? b=some o->s.heap.get? b=some o:=λb o e=>(I.bs b o e).1
theorem Inv.mod(I:Inv X pins σ H s):Mod X.K X.mg X.base:=I.ok.mod
theorem Inv.kIn(I:Inv X pins σ H s):X.K.In s.heap:=I.ok.mod.kin.keeps I.bk
theorem Inv.lt(I:Inv X pins σ H s):X.env.locals<s.heap.objs.size:=let ⟨_,hn,_⟩:=I.loc; hn.lt
theorem Inv.sz(I:Inv X pins σ H s):X.s₀.heap.objs.size<=s.heap.objs.size:=ZAd I.ok.above (ZBp I.lt)
theorem Inv.nofs(I:Inv X pins σ H s){a:Addr}(h:s.heap.objs.size<=a):a ∉ X.fs:=λhb=>by obtain⟨_,o,ho,_⟩:=I.ok.funs.mem hb;exact absurd (ZzW (ZzJ ho) (ZAd I.sz h)) (ZBh _)
theorem Inv.cne(I:Inv X pins σ H s):∀x c,X.env.cells.lookup x=some c->c≠X.env.locals:=λx c e z=>by obtain⟨v,o,ho,hd⟩:=I.cell x c e;obtain⟨m,⟨o',es,ep,ho',hd',_⟩,_⟩:=I.loc;rw[z,ho']at ho; cases ho; rw[hd']at hd; cases hd
theorem Inv.funs(I:Inv X pins σ H s):s.heap.FunFrames X.base X.outer:=by
 have all:∀(l:List Env),(∀b∈frs l,b∈X.fs)->X.s₀.heap.FunFrames X.base l->s.heap.FunFrames X.base l:=by
  intro l
  induction l with
  | nil=>intro _ _; trivial
  | cons env r ih=>intro hs hl;obtain⟨hk,⟨L,o,hf,hn,ho,hd⟩,hr⟩:=hl;have hL:L∈X.fs:=hs L (by unfold frs; rw[ZAI,hf]; exact Zzt);obtain⟨sl,e⟩:=I.base.slot L o ho (I.ok.frf L hL) hL λz=>I.ok.exfs L z hL;exact⟨hk,⟨L,_,hf,hn,e,hd⟩,ih (λb hb=>hs b (by unfold frs; rw[ZAI,hf]; exact Zzu _ hb)) hr⟩
 exact all X.outer (λ_ hb=>hb) I.ok.funs
theorem Inv.stack(I:Inv X pins σ H s):s.heap.FunFrames X.base X.stack:=by
 rcases I.ok.stk with e | ⟨e,hf⟩
 ·rw[e]; exact I.funs
 ·rw[e]
  obtain⟨m,hn,_⟩:=I.loc;refine .cons (by rw[I.ok.kind]; decide) hf hn ?_ I.funs;exact Heap.get?_none_of_le (ZAd I.ok.bsz I.ok.above)
theorem Inv.stkSub(I:Inv X pins σ H s):∀b∈frs X.stack,b∈X.env.locals::X.fs:=λb hb=>by
 rcases I.ok.stk with e | ⟨e,hf⟩
 ·rw[e]at hb; exact Zzu _ hb
 ·rw[e]at hb
  unfold frs at hb;rw[ZAI,hf]at hb;exact hb
theorem Inv.stkFree(I:Inv X pins σ H s):∀b∈frs X.stack,H b=none:=λb hb=>by
 rcases ZzH.mp (I.stkSub b hb)with e | hb
 ·rw[e]; exact I.free
 ·obtain⟨_,o,ho,_⟩:=I.ok.funs.mem hb
  exact I.base.free b o ho (I.ok.frf b hb) λz=>I.ok.exfs b z hb
theorem Inv.step{g':Array GenState}{t':Nat}{d':Drawn}{ch:List Addr}(I:Inv X pins σ H s)
  (hch:∀b∈ch,(b∈X.ex\/X.s₀.heap.objs.size<=b)/\b≠X.env.locals/\(∀x c,X.env.cells.lookup x=some c->c≠b)/\∀p∈X.pn++pins,p.1≠b)
  (keep:∀b o,b≠X.env.locals->b ∉ X.fs->b ∉ ch->s.heap.get? b=some o->H b=none->h'.get? b=some o)
  (slot:∀b o,b≠X.env.locals->b∈X.fs->b ∉ ch->s.heap.get? b=some o->H b=none->∃sl,h'.get? b=some { o with slots:=sl }) (free:∀b o,b ∉ ch->s.heap.get? b=some o->H b=none->H' b=none)
  (there:∀b o,b ∉ ch->s.heap.get? b=some o->∃o',h'.get? b=some o')
  (tups:∀b xs,H b=some (.tup xs)->H' b=some (.tup xs)) (frzs:∀b o u,H b=some (.frz o u)->H' b=some (.frz o u)) (tbls:∀b ps,H b=some (.tbl ps)->∃more,H' b=some (.tbl (ps++more)))
  (ns:∀m,s.heap.Ns X.env.locals m->h'.Ns X.env.locals m) (hok:HOk X.prog X.w H' h') (hg:AllBare g') :
  Inv X pins σ H' { s with heap:=h',gens:=g',drawn:=d',toks:=t' }:=by
 have neL:∀b o,X.s₀.heap.get? b=some o->b≠X.env.locals:=λb o e=>ZzQ (ZzW (ZzJ e) I.ok.above);have neC:∀b o,X.s₀.heap.get? b=some o->b ∉ X.ex->b ∉ ch:=λb o e hx hb=>by
  rcases(hch b hb).1 with z | z
  ·exact hx z
  ·exact absurd (ZzW (ZzJ e) z) (ZBh _)
 have cellK:∀x c,X.env.cells.lookup x=some c->∀v,s.heap.IsCell c v->h'.IsCell c v:=λx c e v ⟨o,ho,hd⟩=>by
  have nch:c ∉ ch:=λz=>(hch c z).2.2.1 x c e rfl
  by_cases hc:c∈X.fs
  ·obtain⟨sl,q⟩:=slot c o (I.cne x c e) hc nch ho (I.freeC x c e)
   exact⟨_,q,hd⟩
  ·exact⟨o,keep c o (I.cne x c e) hc nch ho (I.freeC x c e),hd⟩
 refine⟨I.ok,I.os,hg,⟨λb o e n hb hx=>?_,λb o e n hb hx=>?_,λb o e n hx=>?_,λb o e hx=>?_,λb xs e=>tups b xs (I.base.tups b xs e),λb o xs e=>frzs b o xs (I.base.frzs b o xs e),λb ps e=>?_⟩,?_,λx c e=>?_,?_,λx c e=>?_,λp hp=>?_,hok,I.len⟩
 ·exact keep b o (neL b o e) hb (neC b o e hx) (I.base.keep b o e n hb hx) (I.base.free b o e n hx)
 ·obtain⟨sl,e1⟩:=I.base.slot b o e n hb hx
  obtain⟨sl',e2⟩:=slot b _ (neL b o e) hb (neC b o e hx) e1 (I.base.free b o e n hx);exact⟨sl',e2⟩
 ·obtain⟨o',e1⟩:=I.base.there b o e hx
  exact free b o' (neC b o e hx) e1 (I.base.free b o e n hx)
 ·obtain⟨o',e1⟩:=I.base.there b o e hx
  exact there b o' (neC b o e hx) e1
 ·obtain⟨m1,e1⟩:=I.base.tbls b ps e
  obtain⟨m2,e2⟩:=tbls b _ e1;exact⟨m1++m2,by rw[e2,Array.append_assoc]⟩
 ·obtain⟨m,hn,hl⟩:=I.loc
  refine⟨m,ns m hn,λi x v e1 e2 e3=>?_⟩;obtain⟨u,r,l⟩:=hl i x v e1 e2 e3;refine⟨u,r,?_⟩;rcases l with l | ⟨k,c,e,z⟩
  ·exact .inl l
  ·exact .inr ⟨k,c,e,cellK x c e _ z⟩
 ·obtain⟨v,z⟩:=I.cell x c e
  exact⟨v,cellK x c e v z⟩
 ·obtain⟨m,⟨o,_,_,ho,_⟩,_⟩:=I.loc
  exact free _ o (λz=>(hch _ z).2.1 rfl) ho I.free
 ·obtain⟨v,o,ho,hd⟩:=I.cell x c e
  exact free c o (λz=>(hch c z).2.2.1 x c e rfl) ho (I.freeC x c e)
 ·obtain⟨e,n,ne,nf,d⟩:=I.pin p hp
  have nch:p.1 ∉ ch:=λz=>(hch p.1 z).2.2.2 p hp rfl;exact⟨keep p.1 p.2 ne nf nch e n,free p.1 p.2 nch e n,ne,nf,d⟩
theorem Inv.un{t':Nat}(I:Inv X pins σ H s)(u:Un X.fs [] H H' s.heap h')(hok:HOk X.prog X.w H' h'):Inv X pins σ H' { s with heap:=h',toks:=t' }:=by obtain⟨m,⟨o,es,ep,ho,r⟩,_⟩:=id I.loc;obtain⟨sl,hL⟩:=u.any ho I.free (by simp);exact I.step (g':=s.gens) (d':=s.drawn) (ch:=[]) (λ_ z=>nomatch z) (λb o _ hb _ e n=>u.keep b o e n hb (by simp)) (λb o _ hb _ e n=>u.slot b o e n hb (by simp)) (λb o _ e n=>u.free b o e n (by simp)) (λb o _ e=>u.there b o e (by simp)) u.tups u.frzs u.tbls (λm' hm=>by obtain⟨o',es',ep',ho',r'⟩:=hm;rw[ho]at ho'; cases ho';exact⟨_,es',ep',hL,r'⟩) hok I.bare
theorem Inv.call{g':Array GenState}{t':Nat}{d':Drawn}{ch:List Addr}(I:Inv X pins σ H s)(u:Un (frs X.stack) ch H H' s.heap h')(hok:HOk X.prog X.w H' h')(hg:AllBare g')
  (hch:∀b∈ch,(b∈X.ex\/X.s₀.heap.objs.size<=b)/\b≠X.env.locals/\(∀x c,X.env.cells.lookup x=some c->c≠b)/\∀p∈X.pn++pins,p.1≠b) :
  Inv X pins σ H' { s with heap:=h',gens:=g',drawn:=d',toks:=t' }:=by
 obtain⟨m,⟨o,es,ep,ho,r⟩,_⟩:=id I.loc;obtain⟨sl,hL⟩:=u.any ho I.free λz=>(hch _ z).2.1 rfl;exact I.step (ch:=ch) hch (λb o hL hb hc e n=>u.keep b o e n (λz=>(ZzH.mp (I.stkSub b z)).elim hL hb) hc) (λb o _ _ hc e n=>u.any e n hc) (λb o hc e n=>u.free b o e n hc) (λb o hc e=>u.there b o e hc) u.tups u.frzs u.tbls (λm' hm=>by obtain⟨o',es',ep',ho',r'⟩:=hm;rw[ho]at ho'; cases ho';exact⟨_,es',ep',hL,r'⟩) hok hg
theorem Inv.turned{t':Nat}{it:Addr}(I:Inv X pins σ H s)(k:∀b o,b≠it->s.heap.get? b=some o->h'.get? b=some o)(hn:H it=none)(hL:it≠X.env.locals)
  (h1:it∈X.ex\/X.s₀.heap.objs.size<=it) (h2:∀x c,X.env.cells.lookup x=some c->c≠it) (h3:∀p∈X.pn++pins,p.1≠it):Inv X pins σ H { s with heap:=h',toks:=t' }:=by
 have nit:∀b u,H b=some u->b≠it:=λb u e z=>by rw[z,hn]at e; cases e
 refine I.step (g':=s.gens) (d':=s.drawn) (ch:=[it]) (λb hb=>?_) (λb o _ _ hc e _=>k b o (λz=>hc (by simp[z])) e) (λb o _ _ hc e _=>⟨o.slots,k b o (λz=>hc (by simp[z])) e⟩) (λ_ _ _ _ n=>n)
  (λb o hc e=>⟨o,k b o (λz=>hc (by simp[z])) e⟩) (λ_ _ e=>e) (λ_ _ _ e=>e) (λb ps e=>⟨#[],by rw[e]; simp⟩) (λm hm=>?_) (λb u e=>?_) I.bare
 ·have e:b=it:=by simpa using hb
  subst e;exact⟨h1,hL,h2,h3⟩
 ·obtain⟨o,es,ep,ho,r⟩:=hm
  exact⟨o,es,ep,k _ o (ZAx hL) ho,r⟩
 ·refine(I.hok b u e).stay (λc v hc q=>k c v ?_ q) (λ_ q=>q) λ_ _ q=>q
  rcases hc with z | z
  ·rw[z]; exact nit b u e
  ·exact nit c _ z
theorem Inv.tok(I:Inv X pins σ H s)(t:Nat):Inv X pins σ H { s with toks:=t }:=I.un (h':=s.heap) (t':=t) Un.refl I.hok
theorem Inv.kept{t':Nat}(I:Inv X pins σ H s)(k:∀b u,s.heap.get? b=some u->h'.get? b=some u):Inv X pins σ H { s with heap:=h',toks:=t' }:=I.un (Un.kept k) (I.hok.kept k)
theorem Inv.laid{a:Addr}{o:HO}{t':Nat}(I:Inv X pins σ H s)(k:∀b u,s.heap.get? b=some u->h'.get? b=some u)(hp:s.heap.objs.size<=a)(new:Zah X.prog X.w (upd H a o) h' a o) :
  Inv X pins σ (upd H a o) { s with heap:=h',toks:=t' }:=I.un (Un.laid k hp (I.hok.fresh hp)) (I.hok.laid k hp new)
theorem Inv.write{x e:Addr}{o:HO}{t':Nat}(I:Inv X pins σ H s)(mu:Mut (H x))(he:e=x\/H e=some (.own x))(k:∀b u,b≠e->s.heap.get? b=some u->h'.get? b=some u)(heo:∃u,h'.get? e=some u)
  (new:Zah X.prog X.w (upd H x o) h' x o):Inv X pins σ (upd H x o) { s with heap:=h',toks:=t' }:=I.un (Un.write mu he k heo) (I.hok.write mu he k heo new)
theorem Inv.weak{σ':List (Option V)}(I:Inv X pins σ H s)(hl:σ'.length=σ.length)(w:∀(i:Nat) v,σ'[i]?=some (some v)->σ[i]?=some (some v)):Inv X pins σ' H s :=
 ⟨I.ok,I.os,I.bare,I.base,let ⟨m,hn,hl'⟩:=I.loc; ⟨m,hn,λi x v e1 e2 e3=>hl' i x v e1 (w i v e2) e3⟩,I.cell,I.free,I.freeC,I.pin,I.hok,hl.trans I.len⟩
theorem Inv.pins_of{pins':List (Addr × Obj)}(I:Inv X pins σ H s)(h:∀p∈pins',s.heap.get? p.1=some p.2/\H p.1=none/\p.1≠X.env.locals/\p.1 ∉ X.fs/\∀v,p.2.data≠.cell v):Inv X pins' σ H s :=
 ⟨I.ok,I.os,I.bare,I.base,I.loc,I.cell,I.free,I.freeC,λp hp=>(ZzX.mp hp).elim (λz=>I.pin p (Zz9 _ z)) (h p),I.hok,I.len⟩
theorem Zn9{N:List Str}(hN:N.Nodup){i j:Nat}{x:Str}(a:N[i]?=some x)(b:N[j]?=some x):i=j:=by obtain⟨h1,e1⟩:=ZzF.mp a;obtain⟨h2,e2⟩:=ZzF.mp b;exact(List.getElem_inj hN).mp (e1.trans e2.symm)
theorem ZmH{M:Model}{A:Around}{E:Value->Shared->Prop}{i:Nat}{x:Str}{v:V}{u:Value}{Q:Unit->Shared->Prop}(I:Inv X pins σ H s)(hN:X.N.Nodup)(hi:X.N[i]?=some x)(hx:Loc X.env.scope x)(r:RelV v u)
  (h:∀s',Inv X pins (σ.set i (some v)) H s'->(∃a,ZBq a s.heap s'.heap/\(a=X.env.locals\/X.env.cells.lookup x=some a))->Q () s') (hf:X.fn x=true\/X.env.scope.names.lookup x=some .local:=by first | exact .inl rfl | exact .inr rfl | assumption):wpAny M A (storeName X.env x u) Q E s:=by
 obtain⟨m,hn,hl⟩:=id I.loc;have hcls:(X.env.scope.kind==.class||(X.env.scope.kind==.module&&X.env.locals != X.env.globals))=false:=by rw[I.ok.kind]; rfl
 have hiσ:i<σ.length:=by rw[I.len]; exact(ZzF.mp hi).1
 have cne:=I.cne;have tracked:∀{a:Addr} {h':Heap},(∃o,s.heap.get? a=some o/\H a=none)->ZBq a s.heap h'->HOk X.prog X.w H h':=λ{a h'} ha hs b ob e=>by
  obtain⟨_,_,hfree⟩:=ha;refine(I.hok b ob e).stay (λc w' hc q=>(hs.2 c ?_).trans q) (λ_ q=>q) λ_ _ q=>q
  rintro rfl
  rcases hc with rfl | hc
  ·rw[hfree]at e; cases e
  ·rw[hfree]at hc; cases hc
 rcases hx with hk | hk
 ·refine wpAny_storeName_local hk hn (λh' hn' hs=>?_) hcls
  obtain⟨oL,_,_,hoL,_⟩:=id hn;refine h _ ⟨I.ok,I.os,I.bare,⟨λb o e n hb hx=>?_,λb o e n hb hx=>?_,I.base.free,λb o e hx=>?_,I.base.tups,I.base.frzs,I.base.tbls⟩,⟨_,hn',λj y v' e1 e2 e3=>?_⟩,λy c e=>?_,I.free,I.freeC,λp hp=>?_,tracked ⟨oL,hoL,I.free⟩ hs,by simpa using I.len⟩ ⟨_,hs,.inl rfl⟩
  ·exact(hs.2 b (ZzQ (ZzW (ZzJ e) I.ok.above))).trans (I.base.keep b o e n hb hx)
  ·obtain⟨sl,e1⟩:=I.base.slot b o e n hb hx
   exact⟨sl,(hs.2 b (ZzQ (ZzW (ZzJ e) I.ok.above))).trans e1⟩
  ·obtain⟨o',e1⟩:=I.base.there b o e hx
   exact⟨o',(hs.2 b (ZzQ (ZzW (ZzJ e) I.ok.above))).trans e1⟩
  ·by_cases hj:j=i
   ·subst hj
    rw[hi]at e1; cases e1;rw[ZAl hiσ]at e2;cases e2;exact⟨u,r,.inl ⟨hk,by simp⟩⟩
   ·rw[Zz2 (ZAx hj)]at e2
    obtain⟨u',r',q⟩:=hl j y v' e1 e2 e3;refine⟨u',r',?_⟩;rcases q with⟨k,e⟩ | ⟨k,c,e,z⟩
    ·refine .inl ⟨k,?_⟩
     have:y≠x:=λe=>hj (Zn9 hN e1 (e▸hi));simp[this,e]
    ·exact .inr ⟨k,c,e,z.sameBut hs (cne y c e)⟩
  ·obtain⟨w',z⟩:=I.cell y c e
   exact⟨w',z.sameBut hs (cne y c e)⟩
  ·obtain⟨e,n,ne,nf,d⟩:=I.pin p hp
   exact⟨(hs.2 p.1 ne).trans e,n,ne,nf,d⟩
 ·have hfn:X.fn x=true:=by
   rcases hf with z | z
   ·exact z
   ·rw[z]at hk; cases hk
  obtain⟨c,hc⟩:=I.ok.has x (.inl hk);obtain⟨w',z⟩:=I.cell x c hc;refine wpAny_storeName_cell I.ok.kind hk hc z (λh' hc' hs=>?_);obtain⟨oc,hoc,hocd⟩:=id z;refine h { s with heap:=h' } ⟨I.ok,I.os,I.bare,⟨λb o e n hb hx=>?_,λb o e n hb hx=>?_,I.base.free,λb o e hx=>?_,I.base.tups,I.base.frzs,I.base.tbls⟩,⟨m,hn.sameBut hs (ZAx (cne x c hc)),λj y v' e1 e2 e3=>?_⟩,λy c' e=>?_,I.free,I.freeC,λp hp=>?_,tracked ⟨oc,hoc,I.freeC x c hc⟩ hs,by simpa using I.len⟩ ⟨c,hs,.inr hc⟩
  ·exact(hs.2 b (ZzQ (ZzW (ZzJ e) (I.ok.cab x c hfn hc)))).trans (I.base.keep b o e n hb hx)
  ·obtain⟨sl,e1⟩:=I.base.slot b o e n hb hx
   exact⟨sl,(hs.2 b (ZzQ (ZzW (ZzJ e) (I.ok.cab x c hfn hc)))).trans e1⟩
  ·obtain⟨o',e1⟩:=I.base.there b o e hx
   exact⟨o',(hs.2 b (ZzQ (ZzW (ZzJ e) (I.ok.cab x c hfn hc)))).trans e1⟩
  ·by_cases hj:j=i
   ·subst hj
    rw[hi]at e1; cases e1;rw[ZAl hiσ]at e2;cases e2;exact⟨u,r,.inr ⟨.inl hk,c,hc,hc'⟩⟩
   ·rw[Zz2 (ZAx hj)]at e2
    obtain⟨u',r',q⟩:=hl j y v' e1 e2 e3;refine⟨u',r',?_⟩;rcases q with q | ⟨k,c',e,z'⟩
    ·exact .inl q
    ·refine .inr ⟨k,c',e,z'.sameBut hs ?_⟩
     rintro rfl
     exact hj (Zn9 hN e1 (I.ok.inj _ _ _ e hc▸hi))
  ·by_cases hcc:c'=c
   ·subst hcc; exact⟨_,hc'⟩
   ·obtain⟨w2,z2⟩:=I.cell y c' e
    exact⟨w2,z2.sameBut hs hcc⟩
  ·obtain⟨e,n,ne,nf,d⟩:=I.pin p hp
   refine⟨(hs.2 p.1 ?_).trans e,n,ne,nf,d⟩;intro q;rw[q,hoc]at e;have q':oc=p.2:=ZAs e;exact d w' (by rw[<-q']; exact hocd)
theorem ZoE{M:Model}{A:Around}{E:Value->Shared->Prop}{i:Nat}{x:Str}{v:V}{u:Value}{Q:Unit->Shared->Prop}(I:Inv X pins σ H s)(hN:X.N.Nodup)(hi:X.N[i]?=some x)(hx:Loc X.env.scope x)(r:RelV v u)
  (h:∀s',Inv X pins (σ.set i (some v)) H s'->Q () s') (hf:X.fn x=true\/X.env.scope.names.lookup x=some .local:=by first | exact .inl rfl | exact .inr rfl | assumption):wpAny M A (storeName X.env x u) Q E s :=
 ZmH I hN hi hx r (λs' I' _=>h s' I') hf
theorem Inv.call'{s':Shared}{ch:List Addr}(I:Inv X pins σ H s)(ho:s'.os=s.os)(u:Un (frs X.stack) ch H H' s.heap s'.heap)(hok:HOk X.prog X.w H' s'.heap)(hg:AllBare s'.gens)
  (hch:∀b∈ch,(b∈X.ex\/X.s₀.heap.objs.size<=b)/\b≠X.env.locals/\(∀x c,X.env.cells.lookup x=some c->c≠b)/\∀p∈X.pn++pins,p.1≠b):Inv X pins σ H' s':=by
 obtain⟨h',g',d',t',o'⟩:=s';have e:o'=s.os:=ho;subst e;exact I.call (g':=g') (t':=t') (d':=d') u hok hg hch
end
abbrev XK:=Value->Option Addr->Hp->Prop
abbrev St:=List (Option V)
abbrev VK:=V->Hp->Prop
abbrev TE:=St->Hp->VK->Prop
abbrev TT:=St->Hp->(Bool->Hp->Prop)->Prop
abbrev TA:=St->Hp->(List V->Hp->Prop)->Prop
structure Ends where
 nx:St->Hp->Prop
 rt:VK
 bk:St->Hp->Prop:=λ_ _=>False
 ct:St->Hp->Prop:=λ_ _=>False
abbrev TS:=Ends->St->Hp->Prop
inductive EP(X:Cx)(pins:List (Addr × Obj))(σ:St)(Q:VK)(u:Value)(s':Shared):Prop
 | mk (v:V) (H':Hp) (I:Inv X pins σ H' s') (r:RelV v u) (q:Q v H'):EP X pins σ Q u s'
inductive TP(X:Cx)(pins:List (Addr × Obj))(σ:St)(Q:Bool->Hp->Prop)(b:Bool)(s':Shared):Prop
 | mk (H':Hp) (I:Inv X pins σ H' s') (q:Q b H'):TP X pins σ Q b s'
inductive AP(X:Cx)(pins:List (Addr × Obj))(σ:St)(Q:List V->Hp->Prop)(us:List Value)(s':Shared):Prop
 | mk (vs:List V) (H':Hp) (I:Inv X pins σ H' s') (r:Vals vs us) (q:Q vs H'):AP X pins σ Q us s'
inductive SPn(X:Cx)(pins:List (Addr × Obj))(N:St->Hp->Prop)(s':Shared):Prop
 | mk (σ':St) (H':Hp) (I:Inv X pins σ' H' s') (q:N σ' H'):SPn X pins N s'
inductive SPr(X:Cx)(pins:List (Addr × Obj))(R:V->Hp->Prop)(u:Value)(s':Shared):Prop
 | mk (v:V) (σ':St) (H':Hp) (I:Inv X pins σ' H' s') (r:RelV v u) (q:R v H'):SPr X pins R u s'
def SP(X:Cx)(pins:List (Addr × Obj))(D:Ends)(f:Flow)(s':Shared):Prop :=
 match f with
 | .next=>SPn X pins D.nx s'
 | .brk=>SPn X pins D.bk s'
 | .cont=>SPn X pins D.ct s'
 | .ret u=>SPr X pins D.rt u s'
def PE(X:Cx)(e:Expr)(t:TE):Prop :=
 ∀(pins:List (Addr × Obj)) (s:Shared) (σ:St) (H:Hp) (Q:VK),Inv X pins σ H s->t σ H Q->wpAny (model X.prog X.w) X.A (eval e X.env) (EP X pins σ Q) X.xe s
def PT(X:Cx)(e:Expr)(t:TT):Prop :=
 ∀(pins:List (Addr × Obj)) (s:Shared) (σ:St) (H:Hp) (Q:Bool->Hp->Prop),Inv X pins σ H s->t σ H Q->wpAny (model X.prog X.w) X.A (isTrue e X.env (eval e X.env)) (TP X pins σ Q) X.xe s
def PW(X:Cx)(e:Expr)(t:TT):Prop :=
 ∀(whole:Sem Value) (pins:List (Addr × Obj)) (s:Shared) (σ:St) (H:Hp) (Q:Bool->Hp->Prop),Inv X pins σ H s->t σ H Q->wpAny (model X.prog X.w) X.A (isTrue e X.env whole) (TP X pins σ Q) X.xe s
theorem PW.pt{X:Cx}{e:Expr}{t:TT}(h:PW X e t):PT X e t:=h _
def PA(X:Cx)(es:List Expr)(t:TA):Prop :=
 ∀(pos:Pos) (pins:List (Addr × Obj)) (s:Shared) (σ:St) (H:Hp) (Q:List V->Hp->Prop),Inv X pins σ H s->t σ H Q->wpAny (model X.prog X.w) X.A (spliced (backTo pos (ZzC es X.env))) (AP X pins σ Q) X.xe s
def PS(X:Cx)(st:Stmt)(t:TS):Prop :=
 ∀(pins:List (Addr × Obj)) (s:Shared) (σ:St) (H:Hp) (D:Ends),Inv X pins σ H s->t D σ H->wpAny (model X.prog X.w) X.A (exec st X.env) (SP X pins D) X.xe s
def PSs(X:Cx)(st:List Stmt)(t:TS):Prop :=
 ∀(pins:List (Addr × Obj)) (s:Shared) (σ:St) (H:Hp) (D:Ends),Inv X pins σ H s->t D σ H->wpAny (model X.prog X.w) X.A (execs st X.env) (SP X pins D) X.xe s
theorem thn{α:Type}{t:Sem α}{Q Q':α->Shared->Prop}{M:Model}{A:Around}{E:Value->Shared->Prop}{s:Shared}(h:wpAny M A t Q E s)(hQ:∀a s,Q a s->Q' a s):wpAny M A t Q' E s:=ZAK h hQ λ_ _ x=>x
end L2
namespace L2
open PySem PySem.Spec PyProof.Rows
section
variable{X:Cx}
def ZyN(i:Nat):TE:=λσ H Q=>∃v,σ[i]?=some (some v)/\Q v H
def tC(v:V):TE:=λ_ H Q=>Q v H
theorem ZbU{i:Nat}{x:Str}{pos:Pos}(hN:X.N[i]?=some x)(hv:Vis X.env.scope x)(hd:(x==("__debug__":Str))=false:=by decide)(hcd:(x==("__classdict__":Str))=false:=by decide):PE X (.Name x pos) (ZyN i):=by
 intro pins s σ H Q I h;obtain⟨v,e,h⟩:=h;obtain⟨m,hn,hl⟩:=I.loc;obtain⟨u,r,l⟩:=hl i x v hN e hv;have fin:EP X pins σ Q u s:=⟨v,H,I,r,h⟩;rcases l with⟨hk,hm⟩ | ⟨hk,c,hc,hcell⟩
 ·exact wpAny_Name (wpAny_loadName_local I.ok.kind hk hn hm fin) hd
 ·rcases hk with hk | hk
  ·exact wpAny_Name (wpAny_loadName_cell I.ok.kind hk hc hcell fin) hd
  ·exact wpAny_Name (wpAny_loadName_free I.ok.kind hk hc hcell fin hcd) hd
theorem Zs1{i j pos}:PE X (.Constant (.int i) j pos) (tC (.int i)):=λ_ _ _ H _ I h=>wpAny_Constant_int ⟨.int i,H,I.tok _,⟨_,rfl⟩,h⟩
theorem Zx1{b j pos}:PE X (.Constant (.bool b) j pos) (tC (.bl b)):=λ_ _ _ H _ I h=>Constant_bool ⟨.bl b,H,I,rfl,h⟩
theorem Zta{j pos}:PE X (.Constant .none j pos) (tC .non):=λ_ _ _ H _ I h=>Constant_none ⟨.non,H,I,rfl,h⟩
theorem ZwQ{x j pos}:PE X (.Constant (.str x) j pos) (tC (.str x)):=λ_ _ _ H _ I h=>Calls.Constant_str ⟨.str x,H,I.tok _,⟨_,rfl⟩,h⟩
def Gl(X:Cx)(x:Str):Prop:=X.env.kindOf x=some .globalImplicit
theorem Zmh{E:Value->Shared->Prop}{pins:List (Addr × Obj)}{s:Shared}{σ:St}{H:Hp}{x:Str}{u:Value}{pos:Pos}{Q:Value->Shared->Prop}(I:Inv X pins σ H s)(hg:Gl X x)(hm:X.mg x=some u)(h:Q u s)
  (hd:(x==("__debug__":Str))=false:=by decide):wpAny (model X.prog X.w) X.A (eval (.Name x pos) X.env) Q E s :=
 ZDm I.ok.kind hg (Calls.loadGlobal_global (by rw[I.ok.glob]; exact I.mod.glob.keeps I.bk) hm h) hd
theorem ZhV{E:Value->Shared->Prop}{pins:List (Addr × Obj)}{s:Shared}{σ:St}{H:Hp}{x:Str}{u:Value}{pos:Pos}{Q:Value->Shared->Prop}(I:Inv X pins σ H s)(hg:Gl X x)(hm:X.mg x=none)(hv:ZAt x=some u)(h:Q u s)
  (hn:x ≠ "__name__":=by decide) (hd:(x==("__debug__":Str))=false:=by decide):wpAny (model X.prog X.w) X.A (eval (.Name x pos) X.env) Q E s:=by
 obtain⟨mb,h1,h2⟩:=I.mod.blt;exact ZDm I.ok.kind hg (Calls.loadGlobal_builtin (by rw[I.ok.glob]; exact I.mod.glob.keeps I.bk) hm (by rw[I.ok.blt]; exact h1.keeps I.bk) ((h2 x hn).trans hv) h) hd
theorem Zl3{x:Str}{v:V}{u:Value}{pos:Pos}(hg:Gl X x)(hm:X.mg x=some u)(r:RelV v u)(hd:(x==("__debug__":Str))=false:=by decide):PE X (.Name x pos) (tC v) :=
 λ_ _ _ H _ I h=>Zmh I hg hm ⟨v,H,I,r,h⟩ hd
theorem Zwh{x:Str}{v:V}{u:Value}{pos:Pos}(hg:Gl X x)(hm:X.mg x=none)(hv:ZAt x=some u)(r:RelV v u)(hn:x ≠ "__name__":=by decide)(hd:(x==("__debug__":Str))=false:=by decide):PE X (.Name x pos) (tC v) :=
 λ_ _ _ H _ I h=>ZhV I hg hm hv ⟨v,H,I,r,h⟩ hn hd
variable{a b:Expr}{ta tb:TE}{pos:Pos}
def PC(X:Cx)(op:CmpOp)(a b:Expr)(t:TE):Prop :=
 ∀(pins:List (Addr × Obj)) (s:Shared) (σ:St) (H:Hp) (Q:VK),Inv X pins σ H s->t σ H Q ->
  wpAny (model X.prog X.w) X.A (eval a X.env) (λv s₁=>wpAny (model X.prog X.w) X.A (eval b X.env) (λu s₂=>wpAny (model X.prog X.w) X.A (ZAu op v u) (EP X pins σ Q) X.xe s₂) X.xe s₁) X.xe s
theorem Zk0(b:Expr){op:CmpOp}(h:op≠.In)(h2:op≠.NotIn):ZAD op b=false:=by
 have e1:(op==CmpOp.In)=false:=by cases op<;>first | rfl | exact absurd rfl h
 have e2:(op==CmpOp.NotIn)=false:=by cases op<;>first | rfl | exact absurd rfl h2
 cases b<;>simp[ZAD,e1,e2]
def tB(t:TE):TT:=λσ H Q=>t σ H λx H1=>∃c,x=.bl c/\Q c H1
theorem ZpE{op:CmpOp}{t:TE}(h:PC X op a b t)(h1:ZAD op b=false:=by first | exact Zk0 _ (by decide) (by decide) | rfl):PT X (.Compare a [op] [b] pos) (tB t):=by intro pins s σ H Q I hw;refine wpAny_isTrue_Compare1 (thn (h pins s σ H _ I hw) λv s1 h1=>thn h1 λu s2 h2=>thn h2 λc s3 ⟨x,H1,I1,r1,q1⟩=>?_) h1;obtain⟨d,rfl,q⟩:=q1;cases r1;exact ZAL ⟨H1,I1,q⟩
theorem Zxj{e:Expr}{t:TE}(h:PE X e t)(he:∀whole,isTrue e X.env whole=(do let v <-whole; standAt e.pos; holding [v] (truthy v)):=by intro _; rfl):PT X e (tB t):=by intro pins s σ H Q I hw;refine isTrue_plain (thn (h pins s σ H _ I hw) λv s1 ⟨x,H1,I1,r1,q1⟩=>?_) (he _);obtain⟨d,rfl,q⟩:=q1;cases r1;exact ZAL ⟨H1,I1,q⟩
variable{tA tB':TT}{rest:List Expr}
def ZhC(t u:TT):TT:=λσ H Q=>t σ H λc H1=>if c=true then u σ H1 Q else Q false H1
def tOr(t u:TT):TT:=λσ H Q=>t σ H λc H1=>if c=true then Q true H1 else u σ H1 Q
def Zb7(t:TT):TT:=λσ H Q=>t σ H λc H1=>Q (!c) H1
theorem ZvX(ha:PT X a tA):PW X (.BoolOp .And [a] pos) tA:=by
 intro wh pins s σ H Q I h;refine isTrue_and (thn (ha pins s σ H Q I h) λc s1 e=>?_);cases c with
 | true=>exact isTrue_and_nil e
 | false=>exact e
theorem Zxg(ha:PT X a tA):PW X (.BoolOp .Or [a] pos) tA:=by
 intro wh pins s σ H Q I h;refine isTrue_or (thn (ha pins s σ H Q I h) λc s1 e=>?_);cases c with
 | false=>exact isTrue_or_nil e
 | true=>exact e
theorem Ztm(ha:PT X a tA)(hb:PW X (.BoolOp .And (b::rest) pos) tB'):PW X (.BoolOp .And (a::b::rest) pos) (ZhC tA tB'):=by
 intro wh pins s σ H Q I h;refine isTrue_and (thn (ha pins s σ H _ I h) λc s1 ⟨H1,I1,q1⟩=>?_);cases c with
 | true=>exact hb wh pins s1 σ H1 Q I1 q1
 | false=>exact⟨H1,I1,q1⟩
theorem Zvl(ha:PT X a tA)(hb:PW X (.BoolOp .Or (b::rest) pos) tB'):PW X (.BoolOp .Or (a::b::rest) pos) (tOr tA tB'):=by
 intro wh pins s σ H Q I h;refine isTrue_or (thn (ha pins s σ H _ I h) λc s1 ⟨H1,I1,q1⟩=>?_);cases c with
 | true=>exact⟨H1,I1,q1⟩
 | false=>exact hb wh pins s1 σ H1 Q I1 q1
theorem ZwI(ha:PT X a tA):PT X (.UnaryOp .Not a pos) (Zb7 tA):=by intro pins s σ H Q I h;exact isTrue_not (thn (ha pins s σ H (λc H1=>Q (!c) H1) I h) λ_ _ ⟨H',I',q'⟩=>⟨H',I',q'⟩)
def ZxZ(ta tb:TE):TE:=λσ H Q=>ta σ H λx H1=>∃c,x=.bl c/\if c=true then tb σ H1 Q else Q (.bl false) H1
def Zx0(ta:TE):TE:=λσ H Q=>ta σ H λx H1=>∃c,x=.bl c/\Q (.bl (!c)) H1
theorem Zxz{op}{t:TE}(h:PE X a t):PE X (.BoolOp op [a] pos) t:=λpins s σ H Q I hw=>BoolOp_one (h pins s σ H Q I hw)
theorem ZsJ(ha:PE X a ta)(hb:PE X (.BoolOp .And (b::rest) pos) tb):PE X (.BoolOp .And (a::b::rest) pos) (ZxZ ta tb):=by
 intro pins s σ H Q I h;refine BoolOp_and (thn (ha pins s σ H _ I h) λv s1 ⟨x,H1,I1,r1,q1⟩=>?_);obtain⟨c,rfl,q1⟩:=q1;cases r1;refine ZAL ?_;cases c with
 | true=>exact hb pins s1 σ H1 Q I1 q1
 | false=>exact⟨.bl false,H1,I1,rfl,q1⟩
theorem ZxO(ha:PE X a ta):PE X (.UnaryOp .Not a pos) (Zx0 ta):=by intro pins s σ H Q I h;refine UnaryOp_ (thn (ha pins s σ H _ I h) λv s1 ⟨x,H1,I1,r1,q1⟩=>?_);obtain⟨c,rfl,q1⟩:=q1;cases r1;exact not_of (ZAL ⟨.bl (!c),H1,I1,rfl,q1⟩)
def tIf(t:TT)(ta tb:TE):TE:=λσ H Q=>t σ H λc H1=>if c=true then ta σ H1 Q else tb σ H1 Q
theorem Zpr{c:Expr}(hc:PT X c tA)(ha:PE X a ta)(hb:PE X b tb):PE X (.IfExp c a b pos) (tIf tA ta tb):=by
 intro pins s σ H Q I h;refine wpAny_IfExp (thn (hc pins s σ H _ I h) λd s1 ⟨H1,I1,q1⟩=>?_);cases d with
 | true=>exact ha pins s1 σ H1 Q I1 q1
 | false=>exact hb pins s1 σ H1 Q I1 q1
end
end L2
namespace L2
open PySem PySem.Spec PyProof.Rows
def SqL(K:Zzp)(H:Hp)(a:Addr)(xs:List V):Prop :=
 Rd H a (.lst xs) \/
  ∃(o:Obj) (its:Array Value) (n:Nat),K.lookup a=some o/\o.cls=.type "list"/\o.dict=none/\o.data=.seq its n/\its.size<=sizeLine/\Vals xs its.toList
def SqT(K:Zzp)(H:Hp)(a:Addr)(xs:List V):Prop :=
 Rd H a (.tup xs) \/
  ∃(o:Obj) (its:Array Value) (n:Nat),K.lookup a=some o/\o.cls=.type "tuple"/\o.data=.seq its n/\its.size<=sizeLine/\Vals xs its.toList
def Zy0:Value->Option V
 | .none=>some .non
 | .bool b=>some (.bl b)
 | .int i _=>some (.int i)
 | .str x _=>some (.str x)
 | .bytes b _=>some (.byt b)
 | .float b _=>some (.flt b)
 | .ref a=>some (.ref a)
 | .type n=>some (.ty n)
 | _=>none
theorem RelV.abs{x:V}{u:Value}(r:RelV x u):Zy0 u=some x:=by
 cases x with
 | non=>cases r; rfl
 | bl _=>cases r; rfl
 | int _=>obtain⟨t,rfl⟩:=r; rfl
 | str _=>obtain⟨t,rfl⟩:=r; rfl
 | byt _=>obtain⟨t,rfl⟩:=r; rfl
 | flt _=>obtain⟨t,rfl⟩:=r; rfl
 | ref _=>cases r; rfl
 | ty _=>cases r; rfl
theorem RelV.inj{x y:V}{u:Value}(r:RelV x u)(q:RelV y u):x=y:=ZAs (r.abs.symm.trans q.abs)
theorem Vals.inj:∀{xs ys:List V} {us:List Value},Vals xs us->Vals ys us->xs=ys
 | _,_,_,.nil,.nil=>rfl
 | _,_,_,.cons r t,.cons r' t'=>by rw[r.inj r',Vals.inj t t']
section
variable{X:Cx}{pins:List (Addr × Obj)}{σ:St}{H:Hp}{s:Shared}{a:Addr}{xs ys:List V}
theorem SqL.of{K:Zzp}(h:H a=some (.lst xs)):SqL K H a xs:=.inl (.inl h)
theorem SqT.of{K:Zzp}(h:H a=some (.tup xs)):SqT K H a xs:=.inl (.inl h)
theorem Inv.list(I:Inv X pins σ H s)(h:SqL X.K H a xs):∃its:List Value,Vals xs its/\PlainL s.heap a its.toArray/\xs.length<=sizeLine:=by
 rcases h with h | ⟨o,its,n,hk,hc,hd,hs,hz,r⟩
 ·obtain⟨z,its,n,r,e⟩:=h.ok I.hok
  exact⟨its,r,⟨_,n,e,rfl,rfl,rfl⟩,z⟩
 ·refine⟨its.toList,r,⟨o,n,I.kIn a o hk,hc,hd,by simpa using hs⟩,?_⟩
  have e:=r.length;simp only[ZzV]at e;omega
theorem Inv.tuple(I:Inv X pins σ H s)(h:SqT X.K H a xs):∃its:List Value,Vals xs its/\IsTup s.heap a its.toArray/\xs.length<=sizeLine:=by
 rcases h with h | ⟨o,its,n,hk,hc,hs,hz,r⟩
 ·obtain⟨z,its,r,p⟩:=h.ok I.hok
  exact⟨its,r,p,z⟩
 ·refine⟨its.toList,r,⟨o,I.kIn a o hk,hc,n,by simpa using hs⟩,?_⟩
  have e:=r.length;simp only[ZzV]at e;omega
theorem Inv.list_inj(I:Inv X pins σ H s)(h:SqL X.K H a xs)(h':SqL X.K H a ys):xs=ys:=by
 obtain⟨its,r,⟨o,n,e,_,_,d⟩,_⟩:=I.list h;obtain⟨its',r',⟨o',n',e',_,_,d'⟩,_⟩:=I.list h';rw[e]at e'; cases e';rw[d]at d';injection d' with d1 _
 have:its=its':=by simpa using congrArg Array.toList d1
 subst this;exact r.inj r'
theorem Inv.tuple_inj(I:Inv X pins σ H s)(h:SqT X.K H a xs)(h':SqT X.K H a ys):xs=ys:=by
 obtain⟨its,r,⟨o,e,_,n,d⟩,_⟩:=I.tuple h;obtain⟨its',r',⟨o',e',_,n',d'⟩,_⟩:=I.tuple h';rw[e]at e'; cases e';rw[d]at d';injection d' with d1 _
 have:its=its':=by simpa using congrArg Array.toList d1
 subst this;exact r.inj r'
end
abbrev Cx.wish(X:Cx)(E:Value->Shared->Prop):Cx:={ X with xe:=E }
abbrev Cx.nox(X:Cx):Cx:=X.wish λ_ _=>False
theorem Cx.Ok.wish{X:Cx}(ok:X.Ok)(E:Value->Shared->Prop):(X.wish E).Ok :=
 ⟨ok.mod,ok.kind,ok.glob,ok.blt,ok.above,ok.inj,ok.has,ok.cab,ok.hd,ok.frames,ok.stk,ok.exf,ok.bs,ok.bsz,ok.noex,ok.exfs,ok.funs,ok.frf⟩
theorem Cx.Ok.unwish{X:Cx}{E:Value->Shared->Prop}(ok:(X.wish E).Ok):X.Ok :=
 ⟨ok.mod,ok.kind,ok.glob,ok.blt,ok.above,ok.inj,ok.has,ok.cab,ok.hd,ok.frames,ok.stk,ok.exf,ok.bs,ok.bsz,ok.noex,ok.exfs,ok.funs,ok.frf⟩
section
variable{X:Cx}{pins:List (Addr × Obj)}{σ:St}{H:Hp}{s:Shared}{E:Value->Shared->Prop}
theorem Inv.wish(I:Inv X pins σ H s)(E:Value->Shared->Prop):Inv (X.wish E) pins σ H s:=⟨I.ok.wish E,I.os,I.bare,I.base,I.loc,I.cell,I.free,I.freeC,I.pin,I.hok,I.len⟩
theorem Inv.unwish(I:Inv (X.wish E) pins σ H s):Inv X pins σ H s:=⟨I.ok.unwish,I.os,I.bare,I.base,I.loc,I.cell,I.free,I.freeC,I.pin,I.hok,I.len⟩
theorem SP.unwish{D:Ends}{f:Flow}{s':Shared}(h:SP (X.wish E) pins D f s'):SP X pins D f s':=by
 cases f with
 | next=>obtain⟨σ',H',I,q⟩:=h; exact⟨σ',H',I.unwish,q⟩
 | brk=>obtain⟨σ',H',I,q⟩:=h; exact⟨σ',H',I.unwish,q⟩
 | cont=>obtain⟨σ',H',I,q⟩:=h; exact⟨σ',H',I.unwish,q⟩
 | ret u=>obtain⟨v,σ',H',I,r,q⟩:=h; exact⟨v,σ',H',I.unwish,r,q⟩
theorem PSs.nox{st:List Stmt}{t:TS}(h:PSs X.nox st t):PSs X st t:=λpins s σ H D I hw=>ZAK (h pins s σ H D (I.wish _) hw) (λ_ _ q=>q.unwish) λ_ _ z=>ZAm z
end
section
variable{X:Cx}{st:Stmt}{rest:List Stmt}{t u:TS}{e:Expr}{te:TE}{pos:Pos}
def Zyg:TS:=λD σ H=>D.nx σ H
def ZyM(t u:TS):TS:=λD σ H=>t { D with nx:=u D } σ H
theorem Zv2:PSs X [] Zyg:=λ_ _ σ H _ I h=>ZCV ⟨σ,H,I,h⟩
theorem Zii(h1:PS X st t)(h2:PSs X rest u):PSs X (st::rest) (ZyM t u):=by
 intro pins s σ H D I h;refine wpAny_execs_cons (thn (h1 pins s σ H { D with nx:=u D } I h) λf s1 q=>?_);cases f with
 | next=>obtain⟨σ',H',I',q⟩:=q;exact h2 pins s1 σ' H' D I' q
 | ret v=>exact q
 | brk=>exact q
 | cont=>exact q
theorem ZqB(h1:PS X st t):PSs X [st] t:=by
 intro pins s σ H D I h;refine wpAny_execs_cons (thn (h1 pins s σ H D I h) λf s1 q=>?_);cases f with
 | next=>exact ZCV q
 | ret v=>exact q
 | brk=>exact q
 | cont=>exact q
theorem Inv.quiet{pins:List (Addr × Obj)}{σ:St}{H:Hp}{s:Shared}(I:Inv X pins σ H s):interactive X.env=false:=by simp[interactive,I.ok.kind]
def Zyl(te:TE):TS:=λD σ H=>te σ H λ_ H1=>D.nx σ H1
theorem ZhX(he:PE X e te)(hs:ZBC e none pos.line X.env=pure false:=by rfl):PS X (.Expr e pos) (Zyl te):=by intro pins s σ H D I h;exact wpAny_Expr_any (thn (he pins s σ H _ I h) λv s1 ⟨x,H1,I1,r1,q1⟩=>⟨σ,H1,I1,q1⟩) I.quiet hs
def Zy9(te:TE):TS:=λD σ H=>te σ H D.rt
theorem ZoC(he:PE X e te):PS X (.Return (some e) pos) (Zy9 te):=by intro pins s σ H D I h;exact wpAny_Return_some (thn (he pins s σ H _ I h) λv s1 ⟨x,H1,I1,r1,q1⟩=>⟨x,σ,H1,I1,r1,q1⟩)
def Zy2(c:TT)(t u:TS):TS:=λD σ H=>c σ H λb H1=>if b=true then t D σ H1 else u D σ H1
theorem Zvh{c:Expr}{a b:List Stmt}{tc:TT}(hc:PT X c tc)(ha:PSs X a t)(hb:PSs X b u):PS X (.If c a b pos) (Zy2 tc t u):=by
 intro pins s σ H D I h;refine wpAny_If (thn (hc pins s σ H _ I h) λd s1 ⟨H1,I1,q1⟩=>?_);cases d with
 | true=>exact ha pins s1 σ H1 D I1 q1
 | false=>exact hb pins s1 σ H1 D I1 q1
def Zxs:TS:=λ_ _ _=>False
theorem Zg6{sts:List Stmt}:PSs X sts Zxs:=λ_ _ _ _ _ _ h=>h.elim
end
abbrev TG:=V->St->Hp->(St->Hp->Prop)->Prop
abbrev TGs:=List V->St->Hp->(St->Hp->Prop)->Prop
def PG(X:Cx)(target:Expr)(t:TG):Prop :=
 ∀(pins:List (Addr × Obj)) (s:Shared) (σ:St) (H:Hp) (v:V) (u:Value) (Q:St->Hp->Prop),Inv X pins σ H s->RelV v u->t v σ H Q ->
  wpAny (model X.prog X.w) X.A (assign target X.env u) (λ_ s'=>∃σ' H',Inv X pins σ' H' s'/\Q σ' H') X.xe s
def PGs(X:Cx)(ts:List Expr)(t:TGs):Prop :=
 ∀(pins:List (Addr × Obj)) (s:Shared) (σ:St) (H:Hp) (vs:List V) (us:List Value) (Q:St->Hp->Prop),Inv X pins σ H s->Vals vs us->t vs σ H Q ->
  wpAny (model X.prog X.w) X.A (assignInOrder ((ZCp ts X.env).map (·.2)) us) (λ_ s'=>∃σ' H',Inv X pins σ' H' s'/\Q σ' H') X.xe s
abbrev Zuc:=V->V->V->Hp->(Hp->Prop)->Prop
def ZxH(X:Cx)(t:Zuc):Prop :=
 ∀(pins:List (Addr × Obj)) (s:Shared) (σ:St) (H:Hp) (o i v:V) (ov iv u:Value) (Q:Hp->Prop),Inv X pins σ H s->RelV o ov->RelV i iv->RelV v u->t o i v H Q ->
  wpAny (model X.prog X.w) X.A (setItem ov iv u) (λ_ s'=>∃H',Inv X pins σ H' s'/\Q H') X.xe s
section
variable{X:Cx}{pos:Pos}
def Zvp(i:Nat):TG:=λv σ H Q=>Q (σ.set i (some v)) H
theorem ZjO{i:Nat}{x:Str}(hN:X.N.Nodup)(hi:X.N[i]?=some x)(hx:Loc X.env.scope x)(hf:X.fn x=true\/X.env.scope.names.lookup x=some .local:=by first | exact .inl rfl | exact .inr rfl | assumption):PG X (.Name x pos) (Zvp i):=by intro pins s σ H v u Q I r h;exact wpAny_assign_Name (ZoE I hN hi hx r (λs' I'=>⟨_,H,I',h⟩) hf)
def ZyS:TGs:=λvs σ H Q=>vs=[]/\Q σ H
def Zx8(t:TG)(u:TGs):TGs:=λvs σ H Q=>∃v r,vs=v::r/\t v σ H λσ' H'=>u r σ' H' Q
theorem ZvF:PGs X [] ZyS:=by intro pins s σ H vs us Q I r h;obtain⟨e,h⟩:=h;subst e;cases r;exact assignInOrder_nil ⟨σ,H,I,h⟩
theorem ZoP{e:Expr}{es:List Expr}{t:TG}{u:TGs}(h1:PG X e t)(h2:PGs X es u)
  (hs:(ZCp (e::es) X.env).map (·.2)=assign e X.env::(ZCp es X.env).map (·.2):=by rfl):PGs X (e::es) (Zx8 t u):=by
 intro pins s σ H vs us Q I r h;obtain⟨v,vr,e1,h⟩:=h;subst e1;cases r with
 | cons r rr=>rw[hs];refine assignInOrder_cons (thn (h1 pins s σ H _ _ _ I r h) λ_ s1 ⟨σ1,H1,I1,q1⟩=>?_);exact h2 pins s1 σ1 H1 _ _ Q I1 rr q1
def ZyT(K:Zzp)(n:Nat)(t:TGs):TG:=λv σ H Q=>∃a xs,v=.ref a/\SqT K H a xs/\xs.length=n/\t xs σ H Q
theorem ZwH{es:List Expr}{k:Nat}{t:TGs}{n:Nat}(hc:X.calm=true)(h:PGs X es t)
  (hn:(ZCp es X.env).length=n:=by rfl) (hst:(ZCp es X.env).findIdx? (·.1)=none:=by rfl):PG X (.Tuple es k pos) (ZyT X.K n t):=by
 intro pins s σ H v u Q I r hw;obtain⟨a,xs,e1,hq,hl,hw⟩:=hw;subst e1;cases r;obtain⟨its,rv,ht,hz⟩:=I.tuple hq;refine assign_Tuple_tuple (I.ok.hd hc) ht (by simp[hn,<-hl,rv.length]) hst λh' hx=>?_;have I1:Inv X pins σ H { s with heap:=h' }:=I.kept (t':=s.toks) λb o e=>hx b o (ZzQ (ZzJ e)) e;exact h pins _ σ H xs _ Q I1 (by simpa using rv) hw
def Zl4(to ti:TE)(t:Zuc):TG:=λv σ H Q=>to σ H λo H1=>ti σ H1 λi H2=>t o i v H2 λH3=>Q σ H3
theorem Zxn{o i:Expr}{to ti:TE}{t:Zuc}(ho:PE X o to)(hi:PE X i ti)(hs:ZxH X t)
  (ha:∀v,assign (.Subscript o i pos) X.env v=(do
   let ov <-holding [v] (eval o X.env)
   let iv <-holding [v,ov] (eval i X.env)
   standAt pos
   holding [v,ov,iv] (setItem ov iv v)
   release [v,ov,iv] []):=by intro _; rfl):PG X (.Subscript o i pos) (Zl4 to ti t):=by
 intro pins s σ H v u Q I r h;rw[ha];refine Zzq (ZAE (thn (ho pins s σ H _ I h) λov s1 ⟨x,H1,I1,r1,q1⟩=>?_));refine Zzq (ZAE (thn (hi pins s1 σ H1 _ I1 q1) λiv s2 ⟨y,H2,I2,r2,q2⟩=>?_));refine Zzq (wpAny_standAt (Zzq (ZAE (thn (hs pins s2 σ H2 x y v ov iv u _ I2 r1 r2 r q2) λ_ s3 ⟨H3,I3,q3⟩=>?_))));exact wpAny_release ⟨σ,H3,I3,q3⟩
def ZwZ(te:TE)(g:TG):TS:=λD σ H=>te σ H λx H1=>g x σ H1 D.nx
theorem ZxJ{tg e:Expr}{te:TE}{g:TG}(he:PE X e te)(hg:PG X tg g)(hs:swapsWithSole [tg] e pos.line X.env=pure false:=by rfl)(hw:swappedStores [tg] e X.env=pure none:=by rfl)
  (h1:(ZCp [tg] X.env).map (·.2)=[assign tg X.env]:=by rfl):PS X (.Assign [tg] e pos) (ZwZ te g):=by
 intro pins s σ H D I h;refine wpAny_Assign_stores (thn (he pins s σ H _ I h) λv s1 ⟨x,H1,I1,r1,q1⟩=>?_) hs hw;rw[h1];exact thn (hg pins s1 σ H1 x v _ I1 r1 q1) λ_ s2 ⟨σ',H',I',q'⟩=>⟨σ',H',I',q'⟩
theorem Zpt{i:Nat}{x:Str}{e:Expr}{te:TE}{pos':Pos}(hN:X.N.Nodup)(hi:X.N[i]?=some x)(hx:Loc X.env.scope x)(he:PE X e te)(hs:ZBC e (some (.Name x pos')) pos.line X.env=pure false:=by rfl)(hf:X.fn x=true\/X.env.scope.names.lookup x=some .local:=by first | exact .inl rfl | exact .inr rfl | assumption) :
  PS X (.Assign [.Name x pos'] e pos) (ZwZ te (Zvp i)):=by
 intro pins s σ H D I h;refine wpAny_Assign_Name (thn (he pins s σ H _ I h) λv s1 ⟨y,H1,I1,r1,q1⟩=>?_) hs;exact ZoE I1 hN hi hx r1 (λs2 I2=>⟨_,H1,I2,q1⟩) hf
end
section
variable{X:Cx}{pos:Pos}
def ZxQ(c:TT)(tb:TS):TS:=λD σ H=>∃W:Nat->St->Hp->Prop,(∃m,W m σ H)/\∀m σ H,W m σ H ->
 c σ H λb H1=>if b=true then ∃N:St->Hp->Prop,(∀σ' H',N σ' H'->∃m',m'<m/\W m' σ' H')/\tb { D with nx:=N,ct:=N,bk:=D.nx } σ H1 else D.nx σ H1
theorem ZuB{c:Expr}{body:List Stmt}{tc:TT}{tb:TS}(hp:PassesOwn (model X.prog X.w) X.A X.env X.xe)(hc:PT X c tc)(hb:PSs X body tb):PS X (.While c body [] pos) (ZxQ tc tb):=by
 intro pins s σ H D I h;obtain⟨W,⟨m0,w0⟩,turn⟩:=h;refine wpAny_While (codeAny_whileLoop (λn s'=>∃σ' H',Inv X pins σ' H' s'/\W n σ' H') ?_ m0 ⟨σ,H,I,w0⟩)
 rintro n s1 ⟨σ1,H1,I1,w1⟩
 refine ZBE hp (thn (hc pins s1 σ1 H1 _ I1 (turn n σ1 H1 w1)) λb s2 ⟨H2,I2,q2⟩=>?_);cases b with
 | true =>
  obtain⟨N,hN,q2⟩:=q2;rw[if_pos rfl];refine ZBE hp (thn (hb pins s2 σ1 H2 _ I2 q2) λf s3 q3=>?_);cases f with
  | next=>obtain⟨σ3,H3,I3,n3⟩:=q3;obtain⟨m',hm,w3⟩:=hN σ3 H3 n3;exact⟨m',hm,σ3,H3,I3,w3⟩
  | cont=>obtain⟨σ3,H3,I3,n3⟩:=q3;obtain⟨m',hm,w3⟩:=hN σ3 H3 n3;exact⟨m',hm,σ3,H3,I3,w3⟩
  | brk=>exact q3
  | ret v=>exact q3
 | false=>rw[if_neg ZAb];exact ZCV ⟨σ1,H2,I2,q2⟩
end
structure It where
 go:Nat->Hp->Prop
 yld:Nat->Hp->V->Hp->Prop
 stop:Nat->Hp->Prop
def ZgL(X:Cx)(pins:List (Addr × Obj))(H:Hp)(b:Addr):Prop :=
 H b=none/\b≠X.env.locals/\b ∉ X.fs/\(b∈X.ex\/X.s₀.heap.objs.size<=b)/\(∀x c,X.env.cells.lookup x=some c->c≠b)/\∀p∈X.pn++pins,p.1≠b
theorem Inv.fpOk{X:Cx}{pins:List (Addr × Obj)}{σ:St}{H H':Hp}{s:Shared}{b:Addr}(I:Inv X pins σ H s)(hb:s.heap.objs.size<=b)(hn:H' b=none):ZgL X pins H' b:=by
 refine⟨hn,ZCj (ZzW I.lt hb),I.nofs hb,.inr (ZAd I.sz hb),λx c e z=>?_,λp hp z=>?_⟩
 ·obtain⟨v,q⟩:=I.cell x c e
  exact absurd (ZzW q.lt (by rw[z]; exact hb)) (ZBh _)
 ·exact absurd (ZzW (ZzJ (I.pin p hp).1) (by rw[z]; exact hb)) (ZBh _)
structure Turn(P:Program)(w:World)(K:Zzp)(tg:Expr)(J:It)(fp:List Addr)(it:Addr)(tn:Nat->Heap->Prop):Prop where
 mem:it∈fp
 obj:∀i h,tn i h->∀b∈fp,∃o,h.get? b=some o/\∀v,o.data≠.cell v
 keep:∀i h h',tn i h->(∀b∈fp,∀o,h.get? b=some o->h'.get? b=some o)->tn i h'
 item:∀(X:Cx),X.prog=P->X.w=w->X.K=K->X.calm=true->∀(i:Nat) (pins:List (Addr × Obj)) (s:Shared) (σ:St) (H:Hp) (E:Value->Shared->Prop),Inv X pins σ H s->(∀b∈fp,ZgL X pins H b)->tn i s.heap->J.go i H ->
  wpAny (model P w) X.A (pyNext (.ref it)) (λr s1=>∃u,r=some u /\
   wpAny (model P w) X.A (ZCW tg (.ref it) u) (λ_ s2=>∃x H',Inv X pins σ H' s2/\RelV x u/\J.yld i H x H'/\tn (i+1) s2.heap/\∀b∈fp,H' b=none) E s1) E s
 done:∀(X:Cx),X.prog=P->X.w=w->X.K=K->X.calm=true->∀(i:Nat) (pins:List (Addr × Obj)) (s:Shared) (σ:St) (H:Hp) (E:Value->Shared->Prop),Inv X pins σ H s->(∀b∈fp,ZgL X pins H b)->tn i s.heap->J.stop i H ->
  wpAny (model P w) X.A (pyNext (.ref it)) (λr s1=>r=none/\Inv X pins σ H s1) E s
 self:∀(A:Around) (i:Nat) (s:Shared) (Q:Value->Shared->Prop) (E:Value->Shared->Prop),tn i s.heap->Q (.ref it) s->wpAny (model P w) A (pyIter (.ref it)) Q E s
abbrev TI:=St->Hp->(It->Hp->Prop)->Prop
def PIE(X:Cx)(pins:List (Addr × Obj))(σ:St)(tg:Expr)(R:It->Hp->Prop)(itv:Value)(s2:Shared):Prop :=
 ∃(it:Addr) (fp:List Addr) (tn:Nat->Heap->Prop) (J:It) (H':Hp),itv=.ref it/\Inv X pins σ H' s2/\Turn X.prog X.w X.K tg J fp it tn/\tn 0 s2.heap/\(∀b∈fp,ZgL X pins H' b)/\R J H'
def PI(X:Cx)(tg iter:Expr)(wi:TI):Prop :=
 ∀(pins:List (Addr × Obj)) (s:Shared) (σ:St) (H:Hp) (R:It->Hp->Prop),Inv X pins σ H s->wi σ H R ->
  wpAny (model X.prog X.w) X.A (eval iter X.env) (λv s1=>wpAny (model X.prog X.w) X.A (pyIter v) (PIE X pins σ tg R) X.xe s1) X.xe s
theorem Znl{M:Model}{A:Around}{E:Value->Shared->Prop}{s:Shared}{tg:Expr}{it:Addr}{u:Value}{o:Obj}{n:String}{vs:Array Value}{Q:Unit->Shared->Prop}(ho:s.heap.get? it=some o)(hc:o.cls=.type n)(hd:o.data=.fields vs)
    (hn:["enumerate","zip","dict_itemiterator","dict_reverseitemiterator","odict_iterator","itertools.zip_longest","itertools.pairwise"].contains n=false) (hQ:Q () s):wpAny M A (ZCW tg (.ref it) u) Q E s:=by
  unfold ZCW
  cases tg<;>first
    | exact Zzv hQ
    | (cases u<;>first
        | exact Zzv hQ
        | (refine Zzq (wpAny_load ho ?_)
           rw [hc, hd]
           show wpAny M A (if (["enumerate", "zip", "dict_itemiterator", "dict_reverseitemiterator", "odict_iterator", "itertools.zip_longest", "itertools.pairwise"].contains n && vs[0]? == some (rawInt _)) = true then _ else _) Q E s
           rw [if_neg (by intro h; rw [hn, Bool.false_and] at h; cases h)]
           exact Zzv hQ))
def Itl(K:Zzp)(a:Addr):It :=
 ⟨λi H=>∃xs x,SqL K H a xs/\xs[i]?=some x,λi H x H'=>H'=H/\∀xs,SqL K H a xs->xs[i]?=some x,λi H=>∃xs,SqL K H a xs/\xs.length<=i⟩
def Itt(K:Zzp)(a:Addr):It :=
 ⟨λi H=>∃xs x,SqT K H a xs/\xs[i]?=some x,λi H x H'=>H'=H/\∀xs,SqT K H a xs->xs[i]?=some x,λi H=>∃xs,SqT K H a xs/\xs.length<=i⟩
def Itr(lo:Int)(n:Nat):It:=⟨λi _=>i<n,λi H x H'=>H'=H/\x=.int (lo+i),λi _=>n<=i⟩
theorem ZsB{P:Program}{w:World}{K:Zzp}{tg:Expr}(a it:Addr):Turn P w K tg (Itl K a) [it] it (λi h=>h.IsListIter it a i) where
 mem:=by simp
 obj:=λi h st b hb=>by
  have e:b=it:=by simpa using hb
  subst e;obtain⟨o,e,c,d⟩:=st;exact⟨o,e,λv z=>by rw[d]at z; cases z⟩
 keep:=λi h h' st k=>st.at λo e=>k it (by simp) o e
 item:=by intro X hP hw hK hc i pins s σ H E I hf st hg;subst hP hw hK;obtain⟨xs,x,hq,hx⟩:=hg;obtain⟨its,rv,p,hz⟩:=I.list hq;obtain⟨u,hu,ru⟩:=rv.get hx;obtain⟨f0,f1,f2,f3,f4,f5⟩:=hf it (by simp);refine wpAny_pyNext_list_item st p.isList (x:=u) (by simpa using hu) λh' st' sb=>?_;have I1:Inv X pins σ H { s with heap:=h' }:=I.turned (t':=s.toks) (λb o hb e=>(sb.2 b hb).trans e) f0 f1 f3 f4 f5;obtain⟨o,e,c,d⟩:=id st';exact⟨u,rfl,Znl (s:={ s with heap:=h' }) e c d (by decide) ⟨x,H,I1,ru,⟨rfl,λys hy=>by rw[I.list_inj hy hq]; exact hx⟩,st',λb hb=>(hf b hb).1⟩⟩
 done:=by intro X hP hw hK hc i pins s σ H E I hf st hg;subst hP hw hK;obtain⟨xs,hq,hx⟩:=hg;obtain⟨its,rv,p,hz⟩:=I.list hq;obtain⟨f0,f1,f2,f3,f4,f5⟩:=hf it (by simp);have hl:=rv.length;exact wpAny_pyNext_list_end (I.ok.hd hc) st p.isList (by simp; omega) λh' eb=>⟨rfl,I.turned (t':=s.toks) (λb o hb e=>eb b o hb e) f0 f1 f3 f4 f5⟩
 self:=λ_ _ _ _ _ st h=>wpAny_pyIter_listiter st h
theorem Zrx{P:Program}{w:World}{K:Zzp}{tg:Expr}(a it:Addr):Turn P w K tg (Itt K a) [it] it (λi h=>h.IsTupleIter it a i) where
 mem:=by simp
 obj:=λi h st b hb=>by
  have e:b=it:=by simpa using hb
  subst e;obtain⟨o,e,c,d⟩:=st;exact⟨o,e,λv z=>by rw[d]at z; cases z⟩
 keep:=λi h h' st k=>st.at λo e=>k it (by simp) o e
 item:=by intro X hP hw hK hc i pins s σ H E I hf st hg;subst hP hw hK;obtain⟨xs,x,hq,hx⟩:=hg;obtain⟨its,rv,p,hz⟩:=I.tuple hq;obtain⟨u,hu,ru⟩:=rv.get hx;obtain⟨f0,f1,f2,f3,f4,f5⟩:=hf it (by simp);refine wpAny_pyNext_tuple_item st (show s.heap.IsTuple a its.toArray from p) (x:=u) (by simpa using hu) λh' st' sb=>?_;have I1:Inv X pins σ H { s with heap:=h' }:=I.turned (t':=s.toks) (λb o hb e=>(sb.2 b hb).trans e) f0 f1 f3 f4 f5;obtain⟨o,e,c,d⟩:=id st';exact⟨u,rfl,Znl (s:={ s with heap:=h' }) e c d (by decide) ⟨x,H,I1,ru,⟨rfl,λys hy=>by rw[I.tuple_inj hy hq]; exact hx⟩,st',λb hb=>(hf b hb).1⟩⟩
 done:=by intro X hP hw hK hc i pins s σ H E I hf st hg;subst hP hw hK;obtain⟨xs,hq,hx⟩:=hg;obtain⟨its,rv,p,hz⟩:=I.tuple hq;obtain⟨f0,f1,f2,f3,f4,f5⟩:=hf it (by simp);have hl:=rv.length;exact wpAny_pyNext_tuple_end (I.ok.hd hc) st (show s.heap.IsTuple a its.toArray from p) (by simp; omega) λh' eb=>⟨rfl,I.turned (t':=s.toks) (λb o hb e=>eb b o hb e) f0 f1 f3 f4 f5⟩
 self:=λ_ _ _ _ _ st h=>wpAny_pyIter_tupleiter st h
theorem ZrT{P:Program}{w:World}{K:Zzp}{tg:Expr}(it:Addr)(lo:Int)(n:Nat):Turn P w K tg (Itr lo n) [it] it (λi h=>IsRangeIter h it (lo+(i:Nat)*1) ((n:Int)-(i:Nat)) 1) where
 mem:=by simp
 obj:=λi h st b hb=>by
  have e:b=it:=by simpa using hb
  subst e;exact⟨_,st,λv z=>by have z':Data.fields _=Data.cell v:=z;cases z'⟩
 keep:=λi h h' st k=>k it (by simp) _ st
 item:=by intro X hP hw hK hc i pins s σ H E I hf st hg;subst hP hw hK;obtain⟨f0,f1,f2,f3,f4,f5⟩:=hf it (by simp);have W:=Walks.range (prog:=X.prog) (w:=X.w) (I.ok.hd hc) it lo 1 n;refine W.item i s _ _ hg st λv h' tk hv st' kk=>?_;obtain⟨t,rfl⟩:=hv;have I1:Inv X pins σ H { s with heap:=h',toks:=tk }:=I.turned (λb o hb e=>kk b o (by simpa using hb) e) f0 f1 f3 f4 f5;refine⟨_,rfl,Znl (s:={ s with heap:=h',toks:=tk }) (n:="range_iterator") st' rfl rfl (by decide) ⟨.int (lo+i),H,I1,⟨t,?_⟩,⟨rfl,rfl⟩,st',λb hb=>(hf b hb).1⟩⟩;rw[Int.mul_one]
 done:=by intro X hP hw hK hc i pins s σ H E I hf st hg;subst hP hw hK;obtain⟨f0,f1,f2,f3,f4,f5⟩:=hf it (by simp);exact wpAny_pyNext_range_end (I.ok.hd hc) st (by have:n<=i:=hg; omega) λh' eb=>⟨rfl,I.turned (t':=s.toks) (λb o hb e=>eb b o hb e) f0 f1 f3 f4 f5⟩
 self:=λ_ _ _ _ _ st h=>wpAny_pyIter_rangeiter st h
end L2
namespace L2
open PySem PySem.Spec PyProof.Rows
section
variable{X:Cx}{tg:Expr}
theorem ZoJ{pins:List (Addr × Obj)}{σ:St}{H:Hp}{s:Shared}{R:It->Hp->Prop}{E:Value->Shared->Prop}{lo hi:Int}{t u v:Tok}{tk:Nat}(I:Inv X pins σ H s)(h1:-(2 ^ 62)<=lo)(h2:lo<2 ^ 62)(h3:-(2 ^ 62)<=hi)(h4:hi<2 ^ 62)
  (q:R (Itr lo (hi-lo).toNat) H):wpAny (model X.prog X.w) X.A (pyIter (.ref s.heap.objs.size)) (PIE X pins σ tg R) E { s with heap:=s.heap.push { cls:=.type "range",data:=.fields #[.int lo t,.int hi u,.int 1 v] },toks:=tk }:=by
 refine wpAny_pyIter_range (IsRange.new ..) (small_one h1 h2 h3 h4) ?_;have I1:Inv X pins σ H { s with heap:=s.heap.push { cls:=.type "range",data:=.fields #[.int lo t,.int hi u,.int 1 v] },toks:=tk }:=I.kept λb o e=>Zzy _ e;refine⟨(s.heap.push { cls:=.type "range",data:=.fields #[.int lo t,.int hi u,.int 1 v] }).objs.size,[(s.heap.push { cls:=.type "range",data:=.fields #[.int lo t,.int hi u,.int 1 v] }).objs.size],_,_,H,rfl,
  I1.kept (t':=tk) λb o e=>Zzy _ e,ZrT _ lo (hi-lo).toNat,?_,λb hb=>?_,q⟩
 ·have e1:lo+((0:Nat):Int)*1=lo:=by simp
  have e2:(((hi-lo).toNat:Nat):Int)-((0:Nat):Int)=ZBT lo hi 1:=by rw[rangeSize_one]; split<;>omega
  show IsRangeIter _ _ (lo+((0:Nat):Int)*1) ((((hi-lo).toNat:Nat):Int)-((0:Nat):Int)) 1;rw[e1,e2];exact ZzM _ rfl
 ·have e:b=(s.heap.push { cls:=.type "range",data:=.fields #[.int lo t,.int hi u,.int 1 v] }).objs.size:=by simpa using hb
  subst e;exact I1.fpOk (ZzB _) (I1.hok.fresh (ZzB _))
def Zb8(ta:TA):TI:=λσ H R=>ta σ H λvs H1=>∃j:Int,vs=[.int j]/\-(2 ^ 62)<=j/\j<2 ^ 62/\R (Itr 0 j.toNat) H1
def ZjV(ta:TA):TI:=λσ H R=>ta σ H λvs H1=>∃i j:Int,vs=[.int i,.int j]/\(-(2 ^ 62)<=i/\i<2 ^ 62/\-(2 ^ 62)<=j/\j<2 ^ 62)/\R (Itr i (j-i).toNat) H1
theorem ZtF{a:Expr}{ta:TA}{p pos:Pos}(hg:Gl X "range")(hm:X.mg "range" = none)(ha:PA X [a] ta)(hs:ZzC [a] X.env=[(false,eval a X.env)]:=by rfl):PI X tg (.Call (.Name "range" p) [a] [] pos) (Zb8 ta):=by
 intro pins s σ H R I h;refine Call_ (ZhV I hg hm boot_range (ZB7 (thn (ha pos pins s σ H _ I h) λus s1 ⟨vs,H1,I1,r1,q1⟩=>?_) hs rfl));obtain⟨j,e,q1,q2,q⟩:=q1;subst e;cases r1 with
 | cons r rr=>cases rr;obtain⟨t,rfl⟩:=r;exact call_range_1 (ZoJ I1 (by omega) (by omega) q1 q2 (by simpa using q))
theorem Zth{a b:Expr}{ta:TA}{p pos:Pos}(hg:Gl X "range")(hm:X.mg "range" = none)(ha:PA X [a,b] ta)(hs:ZzC [a,b] X.env=[(false,eval a X.env),(false,eval b X.env)]:=by rfl)(hs2:ZzC [b] X.env=[(false,eval b X.env)]:=by rfl) :
  PI X tg (.Call (.Name "range" p) [a,b] [] pos) (ZjV ta):=by
 intro pins s σ H R I h;refine Call_ (ZhV I hg hm boot_range (ZB7 (thn (ha pos pins s σ H _ I h) λus s1 ⟨vs,H1,I1,r1,q1⟩=>?_) (by rw[hs,hs2]) (by rw[hs2]; rfl)));obtain⟨i,j,e,⟨q1,q2,q3,q4⟩,q⟩:=q1;subst e;cases r1 with
 | cons r rr =>
  cases rr with
  | cons r' rr=>cases rr;obtain⟨t,rfl⟩:=r;obtain⟨t',rfl⟩:=r';exact call_range_2 (ZoJ I1 q1 q2 q3 q4 q)
def ZyK(wi:TI)(g:TG)(tb:TS):TS:=λD σ H=>wi σ H λJ H1=>∃W:Nat->Nat->St->Hp->Prop,(∃m,W 0 m σ H1)/\∀i m σ H,W i m σ H ->
 (J.stop i H/\D.nx σ H)\/(J.go i H/\∃N:St->Hp->Prop,(∀σ' H',N σ' H'->∃m',m'<m/\W (i+1) m' σ' H')/\∀x H',J.yld i H x H'->g x σ H' λσ2 H2=>tb { D with nx:=N,ct:=N,bk:=D.nx } σ2 H2)
def ZjH(fp:List Addr)(h:Heap):List (Addr × Obj):=fp.filterMap λb=>(h.get? b).map λo=>(b,o)
theorem Zgd{fp:List Addr}{h:Heap}{b:Addr}{o:Obj}(hb:b∈fp)(e:h.get? b=some o):(b,o)∈ZjH fp h:=ZAA.mpr ⟨b,hb,by rw[e]; rfl⟩
theorem Zs8{fp:List Addr}{h:Heap}{p:Addr × Obj}(hp:p∈ZjH fp h):p.1∈fp/\h.get? p.1=some p.2:=by
 obtain⟨b,hb,e⟩:=ZAA.mp hp;cases q:h.get? b with
 | none=>rw[q]at e; cases e
 | some o=>rw[q]at e;have e':(b,o)=p:=ZAs e;subst e';exact⟨hb,q⟩
theorem Inv.pinned{pins:List (Addr × Obj)}{σ:St}{H:Hp}{s:Shared}{fp:List Addr}(I:Inv X pins σ H s)(hf:∀b∈fp,ZgL X pins H b)(ho:∀b∈fp,∃o,s.heap.get? b=some o/\∀v,o.data≠.cell v):Inv X (pins++ZjH fp s.heap) σ H s :=
 I.pins_of λp hp=>(ZzX.mp hp).elim (λz=>I.pin p (ZzT _ z)) λz=>by obtain⟨hb,e⟩:=Zs8 z;obtain⟨f0,f1,f2,_⟩:=hf p.1 hb;obtain⟨o,e',d⟩:=ho p.1 hb;rw[e]at e'; cases e';exact⟨e,f0,f1,f2,d⟩
theorem Inv.unpinned{pins pl:List (Addr × Obj)}{σ:St}{H:Hp}{s:Shared}(I:Inv X (pins++pl) σ H s):Inv X pins σ H s:=I.pins_of λp hp=>I.pin p (ZzT _ (Zz9 _ hp))
theorem Zw7{iter:Expr}{body:List Stmt}{wi:TI}{g:TG}{tb:TS}{pos:Pos}(hp:PassesOwn (model X.prog X.w) X.A X.env X.xe)(hc:X.calm=true)(hi:PI X tg iter wi)(hg:PG X tg g)(hb:PSs X body tb)
  (hs:∀x,ZBb iter X.env x=pure x:=by intro _; rfl):PS X (.For tg iter body [] pos) (ZyK wi g tb):=by
 intro pins s σ H D I h;refine wpAny_For (thn (hi pins s σ H _ I h) λv s1 h1=>thn h1 λitv s2 h2=>?_) hs;obtain⟨it,fp,tn,J,H2,e,I2,T,st2,f2,W,⟨m0,w0⟩,turn⟩:=h2;subst e;have stat:∀{H':Hp},(∀b∈fp,H' b=none)->∀b∈fp,ZgL X pins H' b:=λhn b hb=>⟨hn b hb,(f2 b hb).2⟩;refine codeAny_forLoop_any (λn s'=>∃i σ' H',Inv X pins σ' H' s'/\tn i s'.heap/\(∀b∈fp,H' b=none)/\W i n σ' H') ?_ m0 ⟨0,σ,H2,I2,st2,λb hb=>(f2 b hb).1,w0⟩
 rintro n s3 ⟨i,σ3,H3,I3,st3,fr3,w3⟩
 rcases turn i n σ3 H3 w3 with⟨stop,qn⟩ | ⟨go,N,hN,step⟩
 ·refine ZBE hp (thn (T.done X rfl rfl rfl hc i pins s3 σ3 H3 X.xe I3 (stat fr3) st3 stop) λr s4 ⟨hr,I4⟩=>?_)
  subst hr;exact ZCV ⟨σ3,H3,I4,qn⟩
 ·refine ZBE hp (thn (T.item X rfl rfl rfl hc i pins s3 σ3 H3 X.xe I3 (stat fr3) st3 go) λr s4 ⟨u,hr,h4⟩=>?_)
  subst hr;refine ZBE hp (thn h4 λ_ s5 ⟨x,H5,I5,r5,y5,st5,fr5⟩=>?_);have I5':=I5.pinned (stat fr5) (T.obj _ _ st5);refine ZBE hp (thn (hg _ s5 σ3 H5 x u _ I5' r5 (step x H5 y5)) λ_ s6 ⟨σ6,H6,I6,q6⟩=>?_);refine ZBE hp (thn (hb _ s6 σ6 H6 _ I6 q6) λf s7 q7=>?_);have again:∀{σ7:St} {H7:Hp},Inv X (pins++ZjH fp s5.heap) σ7 H7 s7->N σ7 H7->∃m,m<n/\∃i σ' H',Inv X pins σ' H' s7/\tn i s7.heap/\(∀b∈fp,H' b=none)/\W i m σ' H':=λ{σ7 H7} I7 n7=>by obtain⟨m',hm,w7⟩:=hN σ7 H7 n7;refine⟨m',hm,i+1,σ7,H7,I7.unpinned,T.keep _ _ _ st5 λb hb o e=>(I7.pin (b,o) (ZzT _ (ZzT _ (Zgd hb e)))).1,λb hb=>?_,w7⟩;obtain⟨o,e,d⟩:=T.obj _ _ st5 b hb;exact(I7.pin (b,o) (ZzT _ (ZzT _ (Zgd hb e)))).2.1
  cases f with
  | next=>obtain⟨σ7,H7,I7,n7⟩:=q7; exact again I7 n7
  | cont=>obtain⟨σ7,H7,I7,n7⟩:=q7; exact again I7 n7
  | brk=>obtain⟨σ7,H7,I7,q7⟩:=q7; exact⟨σ7,H7,I7.unpinned,q7⟩
  | ret v=>obtain⟨x7,σ7,H7,I7,r7,q7⟩:=q7; exact⟨x7,σ7,H7,I7.unpinned,r7,q7⟩
end
end L2
namespace L2
open PySem PySem.Spec PyProof.Rows
abbrev R2:=V->V->Hp->VK->Prop
def OpR(X:Cx)(f:Value->Value->Sem Value)(r:R2):Prop :=
 ∀(pins:List (Addr × Obj)) (s:Shared) (σ:St) (H:Hp) (x y:V) (v u:Value) (Q:VK),Inv X pins σ H s->RelV x v->RelV y u->r x y H Q ->
  wpAny (model X.prog X.w) X.A (f v u) (EP X pins σ Q) X.xe s
def Zbe(X:Cx)(f:Value)(r:List V->Hp->VK->Prop):Prop :=
 ∀(pins:List (Addr × Obj)) (s:Shared) (σ:St) (H:Hp) (xs:List V) (us:List Value) (Q:VK),Inv X pins σ H s->Vals xs us->r xs H Q ->
  wpAny (model X.prog X.w) X.A (call f us) (EP X pins σ Q) X.xe s
def tOp(r:R2)(ta tb:TE):TE:=λσ H Q=>ta σ H λx H1=>tb σ H1 λy H2=>r x y H2 Q
def rI(C:Int->Int->Prop)(g:Int->Int->V):R2:=λx y H Q=>∃i j,x=.int i/\y=.int j/\C i j/\Q (g i j) H
def rI0(g:Int->Int->V):R2:=λx y H Q=>∃i j,x=.int i/\y=.int j/\Q (g i j) H
section
variable{X:Cx}{a b c:Expr}{ta tb tc:TE}{pos:Pos}
theorem Zug(ha:PE X a ta)(hb:PE X b tb){pins:List (Addr × Obj)}{s:Shared}{σ:St}{H:Hp}{R:V->V->Hp->Prop}(I:Inv X pins σ H s)
  (h:ta σ H λx H1=>tb σ H1 λy H2=>R x y H2) {Q:Value->Shared->Prop} {f:Value->Value->Sem Value}
  (hf:∀v u s2 x y H2,Inv X pins σ H2 s2->RelV x v->RelV y u->R x y H2->wpAny (model X.prog X.w) X.A (f v u) Q X.xe s2) :
  wpAny (model X.prog X.w) X.A (eval a X.env) (λv s₁=>wpAny (model X.prog X.w) X.A (eval b X.env) (λu s₂=>wpAny (model X.prog X.w) X.A (f v u) Q X.xe s₂) X.xe s₁) X.xe s:=by
 refine thn (ha pins s σ H _ I h) λv s1 ⟨x,H1,I1,r1,q1⟩=>?_;refine thn (hb pins s1 σ H1 _ I1 q1) λu s2 ⟨y,H2,I2,r2,q2⟩=>?_;exact hf v u s2 x y H2 I2 r1 r2 q2
theorem ZrN{op:Operator}{r:R2}(ho:OpR X (ZCO op) r)(ha:PE X a ta)(hb:PE X b tb):PE X (.BinOp a op b pos) (tOp r ta tb):=by intro pins s σ H Q I h;exact wpAny_BinOp (Zug ha hb I h λv u s2 x y H2 I2 rx ry q=>ho pins s2 σ H2 x y v u Q I2 rx ry q)
theorem opI{f:Value->Value->Sem Value}{C:Int->Int->Prop}{g:Int->Int->Int}
  (rule:∀(i j:Int) (t u:Tok) (s:Shared) (Q:Value->Shared->Prop) (E:Value->Shared->Prop),C i j->Q (.int (g i j) s.toks) { s with toks:=s.toks+1 }->wpAny (model X.prog X.w) X.A (f (.int i t) (.int j u)) Q E s) :
  OpR X f (rI C λi j=>.int (g i j)):=by
 intro pins s σ H x y v u Q I rx ry h;obtain⟨i,j,rfl,rfl,hc,q⟩:=h;obtain⟨t,rfl⟩:=rx;obtain⟨t',rfl⟩:=ry;exact rule i j t t' s _ _ hc ⟨.int (g i j),H,I.tok _,⟨_,rfl⟩,q⟩
theorem ZwV{f:Value->Value->Sem Value}{g:Int->Int->Int}
  (rule:∀(i j:Int) (t u:Tok) (s:Shared) (Q:Value->Shared->Prop) (E:Value->Shared->Prop),Q (.int (g i j) s.toks) { s with toks:=s.toks+1 }->wpAny (model X.prog X.w) X.A (f (.int i t) (.int j u)) Q E s) :
  OpR X f (rI0 λi j=>.int (g i j)):=by
 intro pins s σ H x y v u Q I rx ry h;obtain⟨i,j,rfl,rfl,q⟩:=h;obtain⟨t,rfl⟩:=rx;obtain⟨t',rfl⟩:=ry;exact rule i j t t' s _ _ ⟨.int (g i j),H,I.tok _,⟨_,rfl⟩,q⟩
theorem Zva{f:Value->Value->Sem Value}{g:Int->Int->Bool}
  (rule:∀(i j:Int) (t u:Tok) (s:Shared) (Q:Value->Shared->Prop) (E:Value->Shared->Prop),Q (.bool (g i j)) s->wpAny (model X.prog X.w) X.A (f (.int i t) (.int j u)) Q E s) :
  OpR X f (rI0 λi j=>.bl (g i j)):=by
 intro pins s σ H x y v u Q I rx ry h;obtain⟨i,j,rfl,rfl,q⟩:=h;obtain⟨t,rfl⟩:=rx;obtain⟨t',rfl⟩:=ry;exact rule i j t t' s _ _ ⟨.bl (g i j),H,I,rfl,q⟩
def ZrB(i j:Int):Prop:=(-(2 ^ 64)<i/\i<2 ^ 64)\/(-(2 ^ 64)<j/\j<2 ^ 64)
theorem ZrB.ok{i j:Int}(h:ZrB i j):IntMulOk i j:=by
 rcases h with⟨h1,h2⟩ | ⟨h1,h2⟩
 ·exact .of_left (intBits_le_64 h1 h2)
 ·exact .of_right (intBits_le_64 h1 h2)
theorem ZwX:OpR X (ZCO .Add) (rI0 λi j=>.int (i+j)):=ZwV λ_ _ _ _ _ _ _ q=>add_int q
theorem ZxU:OpR X (ZCO .Sub) (rI0 λi j=>.int (i-j)):=ZwV λ_ _ _ _ _ _ _ q=>sub_int q
theorem ZxS:OpR X (ZCO .Mult) (rI ZrB λi j=>.int (i*j)):=opI λ_ _ _ _ _ _ _ hc q=>mul_int q hc.ok
theorem Zw9:OpR X (ZCO .Mod) (rI (λ_ j=>0<j) λi j=>.int (i % j)):=opI λi j _ _ _ _ _ hc q=>by have h1:(0:Int)<j:=hc;exact mod_int' (by omega) (by rw[Int.fmod_eq_emod_of_nonneg i (by omega)]; exact q)
end
section
variable{X:Cx}{a b c:Expr}{ta tb tc:TE}{pos:Pos}
theorem ZsI{pins:List (Addr × Obj)}{σ:St}{H:Hp}{s:Shared}{Q:VK}{k k':Bool}(I:Inv X pins σ H s)(q:Q (.bl k) H)(e:k=k'):EP X pins σ Q (.bool k') s:=by subst e;exact⟨.bl k,H,I,rfl,q⟩
theorem Zyi:OpR X (ZAu .Lt) (rI0 λi j=>.bl (decide (i<j))):=Zva λ_ _ _ _ _ _ _ q=>lt_int q
theorem Zyp:OpR X (ZAu .LtE) (rI0 λi j=>.bl (decide (i<=j))):=Zva λ_ _ _ _ _ _ _ q=>le_int q
theorem Zx2:OpR X (ZAu .Gt) (rI0 λi j=>.bl (decide (j<i))):=Zva λ_ _ _ _ _ _ _ q=>gt_int q
theorem Zxr:OpR X (ZAu .Is) (λx y H Q=>y=.non/\Q (.bl (decide (x=.non))) H):=by
 intro pins s σ H x y v u Q I rx ry h;obtain⟨rfl,q⟩:=h;cases ry;refine is_none_gen (ZsI I q ?_);cases x<;>first
  | (cases rx; rfl)
  | (obtain⟨t,rfl⟩:=rx; rfl)
theorem ZvC:OpR X (ZAu .IsNot) (λx y H Q=>y=.non/\Q (.bl (!decide (x=.non))) H):=by
 intro pins s σ H x y v u Q I rx ry h;obtain⟨rfl,q⟩:=h;cases ry;refine isnot_none_gen (ZsI I q ?_);cases x<;>first
  | (cases rx; rfl)
  | (obtain⟨t,rfl⟩:=rx; rfl)
theorem Zq1{op:CmpOp}{r:R2}(ho:OpR X (ZAu op) r)(ha:PE X a ta)(hb:PE X b tb)(hm:ZAD op b=false):PE X (.Compare a [op] [b] pos) (tOp r ta tb):=by intro pins s σ H Q I h;exact wpAny_Compare1 (Zug ha hb I h λv u s2 x y H2 I2 rx ry q=>ho pins s2 σ H2 x y v u Q I2 rx ry q) hm
def Zvi(t:TE):TT:=λσ H Q=>t σ H λx H'=>∃k,x=.bl k/\Q k H'
theorem ZlS{op:CmpOp}{r:R2}(ho:OpR X (ZAu op) r)(ha:PE X a ta)(hb:PE X b tb)(hm:ZAD op b=false):PT X (.Compare a [op] [b] pos) (Zvi (tOp r ta tb)):=by intro pins s σ H Q I h;refine wpAny_isTrue_Compare1 (thn (ha pins s σ H _ I h) λv s1 ⟨x,H1,I1,r1,q1⟩=>thn (hb pins s1 σ H1 _ I1 q1) λu s2 ⟨y,H2,I2,r2,q2⟩=>thn (ho pins s2 σ H2 x y v u _ I2 r1 r2 q2) λc s3 ⟨z,H3,I3,r3,k,e,q3⟩=>?_) hm;subst e;cases r3;exact ZAL ⟨H3,I3,q3⟩
def Zs3(r r':R2)(ta tb tc:TE):TE:=λσ H Q=>ta σ H λx H1=>tb σ H1 λy H2=>r x y H2 λz H3=>∃k,z=.bl k /\
 (if k=true then tc σ H3 λw' H4=>r' y w' H4 Q else Q (.bl false) H3)
theorem Zpy{op op':CmpOp}{r r':R2}(ho:OpR X (ZAu op) r)(ho':OpR X (ZAu op') r')(ha:PE X a ta)(hb:PE X b tb)(hc:PE X c tc)
  (hm:lastMarks [op,op'] [b,c]=false:=by with_unfolding_all rfl):PE X (.Compare a [op,op'] [b,c] pos) (Zs3 r r' ta tb tc):=by
 intro pins s σ H Q I h;refine Compare_chain (thn (ha pins s σ H _ I h) λv s1 ⟨x,H1,I1,r1,q1⟩=>chain_link (thn (hb pins s1 σ H1 _ I1 q1) λu s2 ⟨y,H2,I2,r2,q2⟩=>thn (ho pins s2 σ H2 x y v u _ I2 r1 r2 q2) λd s3 ⟨z,H3,I3,r3,k,e,q3⟩=>?_)) hm;subst e;cases r3;refine ZAL ?_;cases k with
 | false=>exact ite_ff ⟨.bl false,H3,I3,rfl,q3⟩
 | true=>exact ite_tt (chain_last (thn (hc pins s3 σ H3 _ I3 q3) λw' s4 ⟨z',H4,I4,r4,q4⟩=>ho' pins s4 σ H4 y z' u w' Q I4 r2 r4 q4))
theorem Zox{op op':CmpOp}{r r':R2}(ho:OpR X (ZAu op) r)(ho':OpR X (ZAu op') r')(ha:PE X a ta)(hb:PE X b tb)(hc:PE X c tc)
  (hm:lastMarks [op,op'] [b,c]=false:=by with_unfolding_all rfl):PT X (.Compare a [op,op'] [b,c] pos) (Zvi (Zs3 r r' ta tb tc)):=by
 intro pins s σ H Q I h;refine isTrue_chain (thn (ha pins s σ H _ I h) λv s1 ⟨x,H1,I1,r1,q1⟩=>test_link (thn (hb pins s1 σ H1 _ I1 q1) λu s2 ⟨y,H2,I2,r2,q2⟩=>thn (ho pins s2 σ H2 x y v u _ I2 r1 r2 q2) λd s3 ⟨z,H3,I3,r3,k,e,q3⟩=>?_)) hm;subst e;cases r3;refine ZAL ?_;cases k with
 | false=>obtain⟨k',e',q'⟩:=q3;cases e';exact ite_ff ⟨H3,I3,q'⟩
 | true=>refine ite_tt (test_last (thn (hc pins s3 σ H3 _ I3 q3) λw' s4 ⟨z',H4,I4,r4,q4⟩=>thn (ho' pins s4 σ H4 y z' u w' _ I4 r2 r4 q4) λd' s5 ⟨z2,H5,I5,r5,k2,e2,q5⟩=>?_));subst e2;cases r5;exact ZAL ⟨H5,I5,q5⟩
theorem ZjI:(sizeLine:Nat)<2 ^ 63:=by rw[ZAT]; decide
theorem vals1{x:V}{us:List Value}(r:Vals [x] us):∃u,us=[u]/\RelV x u:=by
 cases r with
 | cons r1 r2=>cases r2; exact⟨_,rfl,r1⟩
theorem vals2{x y:V}{us:List Value}(r:Vals [x,y] us):∃u w',us=[u,w']/\RelV x u/\RelV y w':=by
 cases r with
 | cons r1 r2 =>
  cases r2 with
  | cons r3 r4=>cases r4; exact⟨_,_,rfl,r1,r3⟩
theorem ZtC(hc:X.calm=true):Zbe X (.builtin "max") (λxs H Q=>∃i j,xs=[.int i,.int j]/\Q (.int (if j > i then j else i)) H):=by
 intro pins s σ H xs us Q I r h;obtain⟨i,j,rfl,q⟩:=h;obtain⟨u,w',rfl,⟨t,rfl⟩,⟨t',rfl⟩⟩:=vals2 r;refine max_two_ints (I.ok.hd hc) λh' tk k=>⟨_,H,I.kept k,?_,q⟩
 by_cases hj:j > i
 ·rw[if_pos hj,if_pos hj]; exact⟨_,rfl⟩
 ·rw[if_neg hj,if_neg hj]; exact⟨_,rfl⟩
theorem ZsL(hc:X.calm=true):Zbe X (.builtin "min") (λxs H Q=>∃i j,xs=[.int i,.int j]/\Q (.int (if j<i then j else i)) H):=by
 intro pins s σ H xs us Q I r h;obtain⟨i,j,rfl,q⟩:=h;obtain⟨u,w',rfl,⟨t,rfl⟩,⟨t',rfl⟩⟩:=vals2 r;refine min_two_ints (I.ok.hd hc) λh' tk k=>⟨_,H,I.kept k,?_,q⟩
 by_cases hj:j<i
 ·rw[if_pos hj,if_pos hj]; exact⟨_,rfl⟩
 ·rw[if_neg hj,if_neg hj]; exact⟨_,rfl⟩
theorem Zmu:Zbe X (.type "int") (λxs H Q=>(∃i,xs=[.int i]/\Q (.int i) H)\/∃k,xs=[.bl k]/\Q (.int (if k then 1 else 0)) H):=by
 intro pins s σ H xs us Q I r h;rcases h with⟨i,rfl,q⟩ | ⟨k,rfl,q⟩
 ·obtain⟨u,rfl,t,rfl⟩:=vals1 r
  exact call_int_int ⟨.int i,H,I,⟨_,rfl⟩,q⟩
 ·obtain⟨u,rfl,r1⟩:=vals1 r
  cases r1;exact call_int_bool ⟨.int (if k then 1 else 0),H,I.tok _,⟨_,rfl⟩,q⟩
end
end L2
namespace L2
open PySem PySem.Spec PyProof.Rows
theorem ZfW.some_of{v:V}{o:Option Value}(r:ZfW (some v) o):∃u,o=some u/\RelV v u:=by
 cases o with
 | none=>exact(show False from r).elim
 | some u=>exact⟨u,rfl,r⟩
end L2
namespace L2
open PySem PySem.Spec PyProof.Rows
structure Zal(k:Nat)(A:Around):Prop where
 hd:A.handled=none
 dp:A.depth+3*k+5<recursionLimit
 un:A.units+16*k+200<cLine
theorem Zal.mono{j k:Nat}{A:Around}(r:Zal k A)(h:j<=k):Zal j A:=⟨r.hd,by have:=r.dp; omega,by have:=r.un; omega⟩
theorem Zal.deeper{k:Nat}{A:Around}(r:Zal (k+1) A)(env:Env):Zal k (A.deeper env) :=
 ⟨r.hd,by have:=r.dp; show A.depth+1+3*k+5<_; omega,by have:=r.un; show A.units+3+16*k+200<_; omega⟩
theorem Zal.depth{k:Nat}{A:Around}(r:Zal k A):A.depth<recursionLimit:=by have:=r.dp; omega
theorem Zal.units{k:Nat}{A:Around}(r:Zal k A):A.units+64<cLine:=by have:=r.un; omega
def ZyQ:TA:=λ_ H Q=>Q [] H
def Zx4(ta:TE)(tr:TA):TA:=λσ H Q=>ta σ H λx H1=>tr σ H1 λxs H2=>Q (x::xs) H2
section
variable{X:Cx}{e:Expr}{es:List Expr}{te:TE}{t:TA}{pos:Pos}
theorem ZbV:PA X [] ZyQ:=λ_ _ _ _ H Q I h=>ZDt ⟨[],H,I,.nil,h⟩
theorem Zas(ha:PE X e te)(hr:PA X es t)(hs:ZzC (e::es) X.env=(false,eval e X.env)::ZzC es X.env:=by rfl):PA X (e::es) (Zx4 te t):=by intro pos pins s σ H Q I h;rw[hs];show wpAny _ _ (spliced ((false,eval e X.env)::backTo pos (ZzC es X.env))) _ _ s;refine ZBY (thn (ha pins s σ H _ I h) λu s1 ⟨x,H1,I1,r1,q1⟩=>?_);exact thn (hr pos pins s1 σ H1 _ I1 q1) λus s2 ⟨xs,H2,I2,r2,q2⟩=>⟨x::xs,H2,I2,.cons r1 r2,q2⟩
def ZyP(t:TA):TE:=λσ H Q=>t σ H λxs H1=>xs.length<=sizeLine/\∀p,H1 p=none->Q (.ref p) (upd H1 p (.tup xs))
def Zzc(t:TA):TE:=λσ H Q=>t σ H λxs H1=>xs.length<=sizeLine/\∀p,H1 p=none->Q (.ref p) (upd H1 p (.lst xs))
theorem ZwN{x1}(h:PA X es t):PE X (.Tuple es x1 pos) (ZyP t):=by intro pins s σ H Q I hq;refine wpAny_Tuple_spliced (thn (h pos pins s σ H _ I hq) λus s1 ⟨xs,H1,I1,r,z,q⟩=>⟨by rw[<-r.length]; exact z,?_⟩);have hf:H1 s1.heap.objs.size=none:=I1.hok.fresh (ZzB _);refine⟨.ref s1.heap.objs.size,upd H1 s1.heap.objs.size (.tup xs),I1.laid (t':=s1.toks) (λb u e=>Zzy _ e) (ZzB _) ?_,rfl,q _ hf⟩;exact⟨z,us,r,⟨_,ZzM _ rfl,rfl,_,rfl⟩⟩
theorem Zxx(h:PA X es t):PE X (.List es pos) (Zzc t):=by intro pins s σ H Q I hq;refine wpAny_List_spliced (thn (h pos pins s σ H _ I hq) λus s1 ⟨xs,H1,I1,r,z,q⟩=>⟨by rw[<-r.length]; exact z,?_⟩);have hf:H1 s1.heap.objs.size=none:=I1.hok.fresh (ZzB _);refine⟨.ref s1.heap.objs.size,upd H1 s1.heap.objs.size (.lst xs),I1.laid (t':=s1.toks) (λb u e=>Zzy _ e) (ZzB _) ?_,rfl,q _ hf⟩;exact⟨z,us,0,r,ZzM _ rfl⟩
end
abbrev Sp:=List V->Hp->VK->XK->Prop
abbrev CXT:=List Env->Hp->Shared->XK->Value->Shared->Prop
structure Zfn(P:Program)(w:World)(K:Zzp)(mg:Str->Option Value)(base:Heap)(A:Around)(outer:List Env)(s:Shared)(H:Hp):Prop where
 frames:A.frames=some outer
 mod:Mod K mg base
 bs:∀b o,base.get? b=some o->s.heap.get? b=some o/\H b=none
 bsz:base.objs.size<=s.heap.objs.size
 funs:s.heap.FunFrames base outer
 frf:∀b∈frs outer,H b=none
 hok:HOk P w H s.heap
 bare:AllBare s.gens
def CE(outer:List Env)(P:Program)(w:World)(H:Hp)(s:Shared)(Q:VK)(u:Value)(s':Shared):Prop :=
 ∃v H',s'.os=s.os/\AllBare s'.gens/\Un (frs outer) [] H H' s.heap s'.heap/\HOk P w H' s'.heap/\RelV v u/\Q v H'
def CR(CX:CXT)(outer:List Env)(P:Program)(w:World)(H:Hp)(s:Shared)(Q:VK)(E:XK)(r:Result)(s':Shared):Prop :=
 match r with
 | .ok (.ret u)=>CE outer P w H s Q u s'
 | .ok _=>False
 | .error e=>CX outer H s E e s'
structure ZdK(P:Program)(w:World)(K:Zzp)(mg:Str->Option Value)(base:Heap)(CX:CXT)(k:Nat)(f:Addr)(fd:FuncData)(ps:List Str)(sp:Sp):Prop where
 len:∀vs H Q E,sp vs H Q E->vs.length=ps.length
 run:∀(A:Around) (outer:List Env) (s:Shared) (H:Hp) (args:Args) (us:List Value) (vs:List V) (Q:VK) (E:XK),Zal k A->Zfn P w K mg base A outer s H->BindsTo s fd args (ps.zip us)->Vals vs us->sp vs H Q E ->
  codeAny (model P w) A (.call (.ref f) args) (CR CX outer P w H s Q E) s
theorem ZdK.mono{P:Program}{w:World}{K:Zzp}{mg:Str->Option Value}{base:Heap}{CX:CXT}{j k:Nat}{f:Addr}{fd:FuncData}{ps:List Str}{sp:Sp}(F:ZdK P w K mg base CX j f fd ps sp)(h:j<=k) :
  ZdK P w K mg base CX k f fd ps sp:=⟨F.len,λA outer s H args us vs Q E hr=>F.run A outer s H args us vs Q E (hr.mono h)⟩
section
variable{X:Cx}{pins:List (Addr × Obj)}{σ:St}{H:Hp}{s s':Shared}
theorem Inv.env0(I:Inv X pins σ H s):Zfn X.prog X.w X.K X.mg X.base X.A X.stack s H :=
 ⟨I.ok.frames,I.ok.mod,I.bs,ZAd I.ok.bsz I.sz,I.stack,I.stkFree,I.hok,I.bare⟩
theorem Inv.after{Q:VK}{u:Value}(I:Inv X pins σ H s)(h:CE X.stack X.prog X.w H s Q u s'):EP X pins σ Q u s':=by obtain⟨v,H',os,bare,un,hok,r,q⟩:=h;obtain⟨hh,g,d,t,os'⟩:=s';obtain rfl:os'=s.os:=os;exact⟨v,H',I.call (h':=hh) (g':=g) (d':=d) (t':=t) (ch:=[]) un hok bare (λb z=>absurd z (by simp)),r,q⟩
end
def Zyb(sp:Sp)(dvs:List V)(E:XK)(t:TA):TE:=λσ H Q=>t σ H λvs H1=>sp (vs++dvs) H1 Q E
def Binds(K:Zzp)(fd:FuncData)(ps:List Str)(ds:List Value):Prop :=
 ∀(s:Shared) (us:List Value),K.In s.heap->(us++ds).length=ps.length->BindsTo s fd ⟨us,[]⟩ (ps.zip (us++ds))
theorem Binds.all{K:Zzp}{fd:FuncData}{ps:List Str}(h:∀us:List Value,us.length=ps.length->bindArgs fd ⟨us,[]⟩=pure (ps.zip us)):Binds K fd ps []:=λs us _ hl=>by rw[Zz8]at hl ⊢;exact .of_eq (h us hl)
def Passes(CX:CXT)(X:Cx)(E:XK):Prop:=∀(pins:List (Addr × Obj)) (σ:St) (H:Hp) (s:Shared) (e:Value) (s':Shared),Inv X pins σ H s->CX X.stack H s E e s'->X.xe e s'
section
variable{X:Cx}{CX:CXT}{k:Nat}{f C:Addr}{fd:FuncData}{ps:List Str}{sp:Sp}{dvs:List V}{ds:List Value}{E:XK}{x m:Str}{p pos apos:Pos}{e o:Expr}{es:List Expr}{ta:TE}{t:TA}
theorem ZwU{pins:List (Addr × Obj)}{σ:St}{H:Hp}{s:Shared}{Q:VK}{us:List Value}{vs:List V}(F:ZdK X.prog X.w X.K X.mg X.base CX k f fd ps sp)(hr:Zal k X.A)(hb:Binds X.K fd ps ds)(hd:Vals dvs ds)(hx:Passes CX X E)
  (I:Inv X pins σ H s) (r:Vals vs us) (h:sp (vs++dvs) H Q E):wpAny (model X.prog X.w) X.A (call (.ref f) us) (EP X pins σ Q) X.xe s:=by
 have r2:Vals (vs++dvs) (us++ds):=r.append hd;have hl:(us++ds).length=ps.length:=by rw[<-r2.length]; exact F.len _ _ _ _ h
 refine ZDz (ZBr (F.run X.A X.stack s H ⟨us,[]⟩ (us++ds) (vs++dvs) Q E hr I.env0 (hb s us I.kIn hl) r2 h) λr s' hq=>?_);cases r with
 | error e=>exact hx pins σ H s e s' I hq
 | ok fl =>
  cases fl with
  | ret u=>exact I.after hq
  | next=>exact ZAm hq
  | brk=>exact ZAm hq
  | cont=>exact ZAm hq
theorem Zj7(F:ZdK X.prog X.w X.K X.mg X.base CX k f fd ps sp)(hr:Zal k X.A)(hg:Gl X x)(hm:X.mg x=some (.ref f))(hk:ZAU X.K (.ref f)=true)(hb:Binds X.K fd ps ds)(hd:Vals dvs ds)(hx:Passes CX X E)
  (ha:PA X (e::es) t) (hdb:(x==("__debug__":Str))=false:=by decide) (he:ZzC (e::es) X.env=(false,eval e X.env)::ZzC es X.env:=by rfl) (hpl:(backTo pos (ZzC es X.env)).any (·.1)=false:=by rfl) :
  PE X (.Call (.Name x p) (e::es) [] pos) (Zyb sp dvs E t):=by
 intro pins s σ H Q I h;refine ZBm (Zmh I hg hm ?_ hdb);refine ZEp (h₀:=X.base) I.ok.mod.kin hk (thn (ha pos pins s σ H _ I h) λus s1 ⟨vs,H1,I1,r,q⟩=>⟨I1.kIn,?_⟩) he hpl;exact ZwU F hr hb hd hx I1 r q
end
structure Zx(N P:List Str)(sc:Scope):Prop where
 kind:sc.kind=.function
 co:sc.isCoroutine=false
 gen:sc.isGenerator=false
 nd:N.Nodup
 pre:N.take P.length=P
 par:∀x∈P,sc.names.lookup x=some .local\/sc.names.lookup x=some .cell
 nofree:∀y∈sc.names,y.2≠.free
theorem Zmn{kindOf:Str->Option NameKind}{x:Str}:∀{binds:List (Str × Value)} {m:Str->Option Value},(∀v,(x,v) ∉ binds)->bindL kindOf binds m x=m x
 | [],_,_=>rfl
 | (n,v)::r,m,h=>by
  unfold bindL;rw[Zmn λw hw=>h w (Zzu _ hw)];split
  ·have:x≠n:=by rintro rfl; exact h v Zzt
   simp[this]
  ·rfl
theorem ZmK{kindOf:Str->Option NameKind}{x:Str}:∀{binds:List (Str × Value)} {m:Str->Option Value},(∀v,(x,v) ∉ binds)->bindC kindOf binds m x=m x
 | [],_,_=>rfl
 | (n,v)::r,m,h=>by
  unfold bindC;rw[ZmK λw hw=>h w (Zzu _ hw)];split
  ·rfl
  ·have:x≠n:=by rintro rfl; exact h v Zzt
   simp[this]
theorem ZmF{kindOf:Str->Option NameKind}{x:Str}{v:Value}:∀{P:List Str} {vs:List Value} {i:Nat} {m:Str->Option Value},P.Nodup->P[i]?=some x->vs[i]?=some v->kindOf x=some .local ->
  bindL kindOf (P.zip vs) m x=some v
 | [],_,_,_,_,h,_,_=>by simp at h
 | _::_,[],_,_,_,_,h,_=>by simp at h
 | p::P,w::vs,0,m,nd,h1,h2,hk=>by simp at h1 h2; subst h1; subst h2;show bindL kindOf ((p,w)::P.zip vs) m p=_;unfold bindL;rw[Zmn λv hv=>(ZAh.mp nd).1 (ZDS hv).1,if_pos hk];simp
 | p::P,w::vs,i+1,m,nd,h1,h2,hk=>by show bindL kindOf ((p,w)::P.zip vs) m x=_;unfold bindL;exact ZmF (i:=i) (ZAh.mp nd).2 (by simpa using h1) (by simpa using h2) hk
theorem ZmA{kindOf:Str->Option NameKind}{x:Str}{v:Value}:∀{P:List Str} {vs:List Value} {i:Nat} {m:Str->Option Value},P.Nodup->P[i]?=some x->vs[i]?=some v->kindOf x≠some .local ->
  bindC kindOf (P.zip vs) m x=some v
 | [],_,_,_,_,h,_,_=>by simp at h
 | _::_,[],_,_,_,_,h,_=>by simp at h
 | p::P,w::vs,0,m,nd,h1,h2,hk=>by simp at h1 h2; subst h1; subst h2;show bindC kindOf ((p,w)::P.zip vs) m p=_;unfold bindC;rw[ZmK λv hv=>(ZAh.mp nd).1 (ZDS hv).1,if_neg hk];simp
 | p::P,w::vs,i+1,m,nd,h1,h2,hk=>by show bindC kindOf ((p,w)::P.zip vs) m x=_;unfold bindC;exact ZmA (i:=i) (ZAh.mp nd).2 (by simpa using h1) (by simpa using h2) hk
def start(N:List Str)(vs:List V):St:=vs.map some++Zz3 (N.length-vs.length) none
def ZgM(CX:CXT)(P:Program)(w:World)(K:Zzp)(mg:Str->Option Value)(base:Heap)(N:List Str)(qual:Str)(scope:Scope)(f:Addr)(cd:Value)(A:Around)(outer:List Env)(s:Shared)(H:Hp)(E:XK):Cx where
 prog:=P
 w:=w
 K:=K
 mg:=mg
 base:=base
 A:=A.deeper (envOfC qual scope s.heap.objs.size f cd)
 N:=N
 s₀:=s
 H₀:=H
 env:=envOfC qual scope s.heap.objs.size f cd
 outer:=outer
 stack:=envOfC qual scope s.heap.objs.size f cd::outer
 ex:=[]
 calm:=true
 fn:=λ_=>true
 pn:=[]
 xe:=λe s'=>wpAny (model P w) (A.deeper (envOfC qual scope s.heap.objs.size f cd)) (leaving (envOfC qual scope s.heap.objs.size f cd) e) (λ_ s''=>CX outer H s E e s'') (λe' s''=>CX outer H s E e' s'') s'
theorem ZpD{sc:Scope}{n:Nat}{x:Str}(h:sc.names.lookup x=some .cell):∃c,(cellsFrom n sc.names []).lookup x=some c:=by have q:=ZD0 sc.names n [] (.inl h);exact ZzZ.mp q
theorem Ztb{CX:CXT}{P:Program}{w:World}{K:Zzp}{mg:Str->Option Value}{base:Heap}{N ps:List Str}{qual:Str}{scope:Scope}{f:Addr}{cd:Value}{A:Around}{outer:List Env}{s s1:Shared}{H:Hp}{E:XK}{us:List Value}{vs:List V}
  (S:Zx N ps scope) (hd:A.handled=none) (e0:Zfn P w K mg base A outer s H) (hl:vs.length=ps.length) (r:Vals vs us)
  (x:InCallC s s.heap.objs.size (bindL (envOfC qual scope s.heap.objs.size f cd).kindOf (ps.zip us) λ_=>none) (cellsFrom (s.heap.objs.size+1) scope.names []) (bindC (envOfC qual scope s.heap.objs.size f cd).kindOf (ps.zip us) λ_=>none) s1) :
  Inv (ZgM CX P w K mg base N qual scope f cd A outer s H E) [] (start N vs) H s1:=by
 have hpl:ps.length<=N.length:=by have:=congrArg ZAi S.pre; rw[ZA3]at this; omega
 obtain⟨h1,tk,rfl,hk⟩:=x.done;have noA:∀b:Addr,b ∉ (ZgM CX P w K mg base N qual scope f cd A outer s H E).ex:=λb z=>absurd (show b∈([]:List Addr) from z) (by simp);refine⟨⟨e0.mod,S.kind,rfl,rfl,ZzB _,λy z c h1 h2=>?_,λy hy=>?_,λy c _ h=>?_,λ_=>hd,ZEg e0.frames,.inr ⟨rfl,rfl⟩,λb z=>absurd z (noA b),e0.bs,e0.bsz,λb _ _=>noA b,λb z=>absurd z (noA b),e0.funs,e0.frf⟩,
  rfl,e0.bare,Un.kept hk,⟨_,x.toInCall.ns,λi y v h1 h2 h3=>?_⟩,λy c h=>⟨_,x.cell y c h⟩,e0.hok.fresh (ZzB _),λy c h=>?_,λp hp=>absurd (show p∈([]:List (Addr × Obj)) from hp) (by simp),e0.hok.kept hk,?_⟩
 ·exact name_of_addr x.apart (ZA0 h1) (ZA0 h2)
 ·have hy:scope.names.lookup y=some .cell\/scope.names.lookup y=some .free:=hy
  rcases hy with hy | hy
  ·exact ZpD hy
  ·exact absurd rfl (S.nofree _ (ZA0 hy))
 ·exact ZBp (x.above y c (ZA0 h))
 ·have hi:i<vs.length:=by
   unfold start at h2
   by_cases hi:i<vs.length
   ·exact hi
   ·rw[ZAf (by simpa using hi)]at h2
    rw[ZBU]at h2;split at h2<;>cases h2
  have ha:vs[i]?=some v:=by
   unfold start at h2;rw[Zz4 (by simpa using hi),ZzR]at h2;cases e:vs[i]? with
   | none=>rw[e]at h2; cases h2
   | some a=>rw[e]at h2; cases h2; rfl
  obtain⟨u,hu,rv⟩:=r.get ha;have hp:ps[i]?=some y:=by rw[<-S.pre,ZDG (by omega)]; exact h1
  have ndP:ps.Nodup:=by rw[<-S.pre]; exact S.nd.sublist (List.take_sublist _ _)
  refine⟨u,rv,?_⟩;rcases S.par y (ZzU hp)with k | k
  ·exact .inl ⟨k,ZmF ndP hp hu k⟩
  ·obtain⟨c,e⟩:=ZpD (n:=s.heap.objs.size+1) k
   refine .inr ⟨.inl k,c,e,?_⟩;have q:=x.cell y c e;rw[ZmA ndP hp hu (by show scope.names.lookup y≠_; rw[k]; decide)]at q;exact q
 ·exact e0.hok.fresh (ZBp (x.above y c (ZA0 h)))
 ·unfold start
  show _=N.length;rw[ZzL,Zzr,ZAj];omega
theorem Zvg{CX:CXT}{P:Program}{w:World}{K:Zzp}{mg:Str->Option Value}{base:Heap}{k:Nat}{f:Addr}{name qual:Str}{params:Arguments}{body:List Stmt}{scope:Scope}{dV kV doc pm cdv ct oc:Value}{an od:Option Addr}
  {osl:Array (Option Value)} {N ps:List Str} {sp:Sp} (lk:K.lookup f=some ⟨oc,od,.func (ZAN name qual params body scope dV kV doc pm an cdv ct),osl⟩) (hcd:ZBA K cdv qual=true) (S:Zx N ps scope)
  (len:∀vs H Q E,sp vs H Q E->vs.length=ps.length)
  (hbody:∀(A:Around) (outer:List Env) (s:Shared) (H:Hp) (vs:List V) (Q:VK) (E:XK),Zal k (A.deeper (envOfC qual scope s.heap.objs.size f cdv))->sp vs H Q E ->
   ∃t,PSs (ZgM CX P w K mg base N qual scope f cdv A outer s H E) body t/\t { nx:=λ_ H'=>Q .non H',rt:=Q } (start N vs) H) :
  ZdK P w K mg base CX (k+1) f (ZAN name qual params body scope dV kV doc pm an cdv ct) ps sp:=by
 refine⟨len,λA outer s H args us vs Q E hr e0 hb r hsp=>?_⟩;have hl:=len _ _ _ _ hsp;have KX:K.In s.heap:=e0.mod.kin.keeps λb o e=>(e0.bs b o e).1;have lim:s.heap.NoLimit:=e0.mod.nolimit.keeps λb o e=>(e0.bs b o e).1;have hkind:∀y∈ps.zip us,scope.names.lookup y.1=some .local\/(scope.names.lookup y.1=some .cell/\((cellsFrom (s.heap.objs.size+1) scope.names []).lookup y.1).isSome=true):=λ⟨n,v⟩ hy=>by
  rcases S.par n (ZDS hy).1 with q | q
  ·exact .inl q
  ·exact .inr ⟨q,ZD0 _ _ _ (.inl q)⟩
 refine codeAny_call_function hr.depth (KX _ _ lk) rfl S.co S.gen rfl (PySem.W.codeRec_of KX hcd) (hb _ _ _ _ ?_);refine wpAny_newFunctionEnv_cells S.kind hkind λenv he s1 x=>?_;subst he;refine⟨lim.keeps x.toInCall.keep,codeAny_func ?_⟩;obtain⟨t,ht,hq⟩:=hbody A outer s H vs Q E (hr.deeper _) hsp;have I:Inv (ZgM CX P w K mg base N qual scope f cdv A outer s H E) [] (start N vs) H s1:=Ztb S hr.hd e0 hl r x;refine ZAK (ht [] s1 (start N vs) H _ I hq) (λfl s' hs=>?_) λe s' hs=>hs;have fin:∀{σ':St} {H':Hp} {v:V} {u:Value},Inv (ZgM CX P w K mg base N qual scope f cdv A outer s H E) [] σ' H' s'->RelV v u->Q v H'->CE outer P w H s Q u s' :=
  λ{σ' H' v u} J rv q=>⟨v,H',J.os,J.bare,J.base,J.hok,rv,q⟩
 cases fl with
 | ret u=>obtain⟨v,σ',H',J,rv,q⟩:=hs;exact fin J rv q
 | next=>obtain⟨σ',H',J,q⟩:=hs;exact fin (v:=V.non) (u:=ZAy) J rfl q
 | brk=>obtain⟨_,_,_,q⟩:=hs;exact ZAm q
 | cont=>obtain⟨_,_,_,q⟩:=hs;exact ZAm q
end L2
namespace L2
open PySem PySem.Spec PyProof.Rows
section
variable{X:Cx}{x:Str}{p pos:Pos}{e:Expr}{es:List Expr}{t:TA}{id T:String}{r:List V->Hp->VK->Prop}
def tCB(r:List V->Hp->VK->Prop)(t:TA):TE:=λσ H Q=>t σ H λvs H1=>r vs H1 Q
theorem ZdL(hc:Zbe X (.builtin id) r)(hg:Gl X x)(hm:X.mg x=none)(hv:ZAt x=some (.builtin id))(ha:PA X (e::es) t)(hn:x ≠ "__name__":=by decide)(hdb:(x==("__debug__":Str))=false:=by decide)
  (he:ZzC (e::es) X.env=(false,eval e X.env)::ZzC es X.env:=by rfl) (hpl:(backTo pos (ZzC es X.env)).any (·.1)=false:=by rfl):PE X (.Call (.Name x p) (e::es) [] pos) (tCB r t):=by
 intro pins s σ H Q I h;refine ZBm (ZhV I hg hm hv ?_ hn hdb);exact PyProof.Rows.callWith_builtin1 (thn (ha pos pins s σ H _ I h) λus s1 ⟨vs,H1,I1,r1,q1⟩=>hc pins s1 σ H1 vs us Q I1 r1 q1) he hpl
theorem ZdG(hc:Zbe X (.type T) r)(hg:Gl X x)(hm:X.mg x=none)(hv:ZAt x=some (.type T))(ha:PA X (e::es) t)(hn:x ≠ "__name__":=by decide)(hdb:(x==("__debug__":Str))=false:=by decide)
  (he:ZzC (e::es) X.env=(false,eval e X.env)::ZzC es X.env:=by rfl) (hpl:(backTo pos (ZzC es X.env)).any (·.1)=false:=by rfl):PE X (.Call (.Name x p) (e::es) [] pos) (tCB r t):=by
 intro pins s σ H Q I h;refine ZBm (ZhV I hg hm hv ?_ hn hdb);exact ZB7 (thn (ha pos pins s σ H _ I h) λus s1 ⟨vs,H1,I1,r1,q1⟩=>hc pins s1 σ H1 vs us Q I1 r1 q1) he hpl
end
end L2
namespace HT
set_option maxHeartbeats 8000000
open PySem PyProof.Rows
section
open PySem.SeqAt
open PySem.AutoSeq1 (wpAny_loadPart')
open PySem.MeetsSeq PySem.MeetsSeq2 PySem.MeetsSeq3
end
section
variable{prog:Program}{w:World}{A:Around}{E:Value->Shared->Prop}{s:Shared}
def sIx(n d:Nat):Option Int->Nat
 | none=>d
 | some v=>if v<0 then(v+(n:Int)).toNat else min v.toNat n
end
end HT
namespace L2
open PySem PySem.Spec PyProof.Rows
abbrev TO:=St->Hp->(Option Int->Hp->Prop)->Prop
def PO(X:Cx)(e:Option Expr)(t:TO):Prop :=
 ∀(pins:List (Addr × Obj)) (s:Shared) (σ:St) (H:Hp) (Q:Option Int->Hp->Prop),Inv X pins σ H s->t σ H Q ->
  wpAny (model X.prog X.w) X.A (evalPart e X.env) (λu s'=>∃o H',Inv X pins σ H' s'/\IsPart u o/\Q o H') X.xe s
def ZvY:TO:=λ_ H Q=>Q none H
def Zx6(t:TE):TO:=λσ H Q=>t σ H λx H1=>∃i,x=.int i/\Q (some i) H1
section
variable{X:Cx}{e:Expr}{te:TE}{lo hi:Option Expr}{tl th:TO}{pos p2:Pos}
theorem ZvV:PO X none ZvY:=by intro pins s σ H Q I h;rw[evalPart_none];exact Zzv ⟨none,H,I,.none,h⟩
theorem Zv3(h:PE X e te):PO X (some e) (Zx6 te):=by intro pins s σ H Q I hw;rw[evalPart_some];refine thn (h pins s σ H _ I hw) λu s1 ⟨x,H1,I1,r1,q1⟩=>?_;obtain⟨i,rfl,q⟩:=q1;obtain⟨t,rfl⟩:=r1;exact⟨some i,H1,I1,.int i t,q⟩
def SlR(X:Cx)(r:V->Option Int->Option Int->Hp->VK->Prop):Prop :=
 ∀(pins:List (Addr × Obj)) (s:Shared) (σ:St) (H:Hp) (x:V) (v vl vu:Value) (lo hi:Option Int) (sl:Addr) (Q:VK),Inv X pins σ H s->RelV x v->s.heap.IsSliceOf sl vl vu .none->IsPart vl lo->IsPart vu hi->r x lo hi H Q ->
  ∃T id,typeLookup (.type T) "__getitem__" = pure (some (.builtin id))/\s.TypeIs v T/\wpAny (model X.prog X.w) X.A (getItem v (.ref sl)) (EP X pins σ Q) X.xe s
def tSl(r:V->Option Int->Option Int->Hp->VK->Prop)(te:TE)(tl th:TO):TE:=λσ H Q=>te σ H λx H1=>tl σ H1 λl H2=>th σ H2 λu H3=>r x l u H3 Q
theorem Zum{r:V->Option Int->Option Int->Hp->VK->Prop}(hr:SlR X r)(he:PE X e te)(hl:PO X lo tl)(hu:PO X hi th):PE X (.Subscript e (.Slice lo hi none p2) pos) (tSl r te tl th):=by intro pins s σ H Q I h;refine Subscript_ (thn (he pins s σ H _ I h) λv s1 ⟨x,H1,I1,r1,q1⟩=>?_);refine wpAny_Slice (thn (hl pins s1 σ H1 _ I1 q1) λvl s2 ⟨l,H2,I2,pl,q2⟩=>thn (hu pins s2 σ H2 _ I2 q2) λvu s3 ⟨u,H3,I3,pu,q3⟩=>?_);rw[evalPart_none];refine Zzv ?_;have I4:Inv X pins σ H3 { s3 with heap:=s3.heap.push { cls:=.type "slice",data:=.fields #[vl,vu,.none] } }:=I3.kept (t':=s3.toks) λb ob q=>Zzy _ q;obtain⟨T,id,hT,ht,hg⟩:=hr pins { s3 with heap:=s3.heap.push { cls:=.type "slice",data:=.fields #[vl,vu,.none] } } σ H3 x v vl vu l u s3.heap.objs.size Q I4 r1 (Heap.IsSliceOf.new ..) pl pu q3;show wpAny (model X.prog X.w) X.A (subscriptTail e (.Slice lo hi none p2) v (.ref s3.heap.objs.size)) (EP X pins σ Q) X.xe { s3 with heap:=s3.heap.push { cls:=.type "slice",data:=.fields #[vl,vu,.none] } };exact tail_any (ops:=[.ref s3.heap.objs.size,v]) ht hT hg (by with_unfolding_all rfl)
def ZpB(xs:List V)(lo hi:Option Int):List V:=(xs.drop (HT.sIx xs.length 0 lo)).take (HT.sIx xs.length xs.length hi-HT.sIx xs.length 0 lo)
theorem Zqe(xs:List V)(lo hi:Option Int):(ZpB xs lo hi).length<=xs.length:=by unfold ZpB;rw[ZA3,ZB8];omega
end
end L2
namespace L2
open PySem PySem.Spec PyProof.Rows
def ixN(n:Nat)(i:Int):Option Nat:=if 0<=i then(if i<n then some i.toNat else none)else if -(n:Int)<=i then some (i+n).toNat else none
def atI{α:Type}(xs:List α)(i:Int):Option α:=(ixN xs.length i).bind λj=>xs[j]?
theorem ZqO{n:Nat}{i:Int}{j:Nat}(h:ixN n i=some j):seqIndex? i n=some j/\j<n/\-(n:Int)<=i/\i<n:=by
 unfold ixN at h
 by_cases h0:0<=i
 ·rw[if_pos h0]at h
  by_cases h1:i<n
  ·rw[if_pos h1]at h
   have e:i.toNat=j:=ZAs h;exact⟨by rw[seqIndex_of h0 h1,e],by omega,by omega,h1⟩
  ·rw[if_neg h1]at h; cases h
 ·rw[if_neg h0]at h
  by_cases h1:-(n:Int)<=i
  ·rw[if_pos h1]at h
   have e:(i+n).toNat=j:=ZAs h;exact⟨by rw[seqIndex_neg (by omega) h1,e],by omega,h1,by omega⟩
  ·rw[if_neg h1]at h; cases h
theorem Zme{α:Type}{xs:List α}{i:Int}{v:α}(h:atI xs i=some v):∃j,seqIndex? i xs.length=some j/\xs[j]?=some v/\j<xs.length/\-(xs.length:Int)<=i/\i<xs.length:=by
 unfold atI at h;cases e:ixN xs.length i with
 | none=>rw[e]at h; cases h
 | some j=>rw[e]at h;obtain⟨h1,h2,h3,h4⟩:=ZqO e;exact⟨j,h1,h,h2,h3,h4⟩
def ZqR(b:Expr):Prop:=∀o i,ZD1 b false o i=operate [o,i] (getItem o i)
def IxR(X:Cx)(r:R2):Prop :=
 ∀(value slice:Expr) (pins:List (Addr × Obj)) (s:Shared) (σ:St) (H:Hp) (x y:V) (v u:Value) (Q:VK),Inv X pins σ H s->RelV x v->RelV y u->r x y H Q ->
  ZD1 slice false v u=operate [v,u] (getItem v u)->wpAny (model X.prog X.w) X.A (subscriptTail value slice v u) (EP X pins σ Q) X.xe s
def MtR(X:Cx)(id:String)(r:V->List V->Hp->VK->Prop):Prop :=
 ∀(pins:List (Addr × Obj)) (s:Shared) (σ:St) (H:Hp) (x:V) (xs:List V) (v:Value) (us:List Value) (Q:VK),Inv X pins σ H s->RelV x v->Vals xs us->r x xs H Q ->
  wpAny (model X.prog X.w) X.A (call (.builtin id) (v::us)) (EP X pins σ Q) X.xe s
section
variable{X:Cx}{a b:Expr}{ta tb:TE}{pos:Pos}
theorem IxR.or{r r':R2}(h:IxR X r)(h':IxR X r'):IxR X (λx y H Q=>r x y H Q\/r' x y H Q):=by
 intro value slice pins s σ H x y v u Q I rx ry q hs;rcases q with q | q
 ·exact h value slice pins s σ H x y v u Q I rx ry q hs
 ·exact h' value slice pins s σ H x y v u Q I rx ry q hs
theorem Zym{r:R2}(hr:IxR X r)(ha:PE X a ta)(hb:PE X b tb)(hs:ZqR b):PE X (.Subscript a b pos) (tOp r ta tb):=by intro pins s σ H Q I h;exact Subscript_ (Zug ha hb I h λv u s2 x y H2 I2 rx ry q=>hr a b pins s2 σ H2 x y v u Q I2 rx ry q (hs _ _))
def ZwA(K:Zzp):R2:=λx y H Q=>∃p xs i v,x=.ref p/\y=.int i/\SqL K H p xs/\atI xs i=some v/\Q v H
def ZwR(K:Zzp):R2:=λx y H Q=>∃p xs i v,x=.ref p/\y=.int i/\SqT K H p xs/\atI xs i=some v/\Q v H
def Zxf:R2:=λx y H Q=>∃z i c,x=.str z/\y=.int i/\z.length<=sizeLine/\atI z.cps.toList i=some c/\Q (.str ⟨#[c]⟩) H
theorem ZvL:IxR X (ZwA X.K):=by
 intro value slice pins s σ H x y v u Q I rx ry h hs;obtain⟨p,xs,i,z,rfl,rfl,hq,he,q⟩:=h;cases rx;obtain⟨t,rfl⟩:=ry;obtain⟨its,r,pl,hz⟩:=I.list hq;obtain⟨j,h1,h2,h3,h4,h5⟩:=Zme he;obtain⟨w,ew,rw'⟩:=r.get h2;have hl:=r.length;have hn:=ZjI;have fin:EP X pins σ Q w s:=⟨z,H,I,rw',q⟩
 by_cases h0:0<=i
 ·have hj:i.toNat=j:=by
   rw[seqIndex_of h0 h5]at h1;exact ZAs h1
  exact item_listR pl.isList h0 (by omega) (by rw[hj]; simpa using ew) fin hs
 ·have hj:(i+(its.toArray.size:Int)).toNat=j:=by
   rw[seqIndex_neg (by omega) h4]at h1;rw[ZzN,<-hl];exact ZAs h1
  exact subscriptTail_builtinR (x:=w) pl.isList.typeIs slot_list_getitem.lookup
   (wpAny_getItem_list_neg (Q:=λr s'=>r=w/\EP X pins σ Q r s') pl.isList (by omega) (by rw[ZzN]<;>omega) (by omega) (by rw[hj]; simpa using ew) ⟨rfl,fin⟩) hs
theorem ZxC:IxR X (ZwR X.K):=by
 intro value slice pins s σ H x y v u Q I rx ry h hs;obtain⟨p,xs,i,z,rfl,rfl,hq,he,q⟩:=h;cases rx;obtain⟨t,rfl⟩:=ry;obtain⟨its,r,pl,hz⟩:=I.tuple hq;obtain⟨j,h1,h2,h3,h4,h5⟩:=Zme he;obtain⟨w,ew,rw'⟩:=r.get h2;have hl:=r.length;have hn:=ZjI;have fin:EP X pins σ Q w s:=⟨z,H,I,rw',q⟩;exact subscriptTail_builtinR (x:=w) pl.typeIs slot_tuple_getitem.lookup
  (getItem_tuple (j:=j) (Q:=λr s'=>r=w/\EP X pins σ Q r s') pl (by omega) (by omega) (by rw[ZzN,<-hl]; exact h1) (by simpa using ew) ⟨rfl,fin⟩) hs
theorem ZxR:IxR X Zxf:=by
 intro value slice pins s σ H x y v u Q I rx ry h hs;obtain⟨z,i,c,rfl,rfl,hz,he,q⟩:=h;obtain⟨t,rfl⟩:=rx;obtain⟨t',rfl⟩:=ry;obtain⟨j,h1,h2,h3,h4,h5⟩:=Zme he;have hl:z.cps.toList.length=z.length:=by simp[Str.length]
 rw[hl]at h1 h4 h5;have hn:=ZjI;exact tail_any (typeIs_str s z t) slot_str_getitem.lookup (getItem_str (c:=c) (by have e1:decide (i < -(2 ^ 63:Int))=false:=decide_eq_false (by omega);have e2:decide (i ≥ 2 ^ 63)=false:=decide_eq_false (by omega);rw[e1,e2,Bool.or_false]) (by rw[h1]; simpa using h2) ⟨.str ⟨#[c]⟩,H,I.tok _,⟨_,rfl⟩,q⟩) hs
def rIx(K:Zzp):R2:=λx y H Q=>ZwA K x y H Q\/ZwR K x y H Q\/Zxf x y H Q
theorem Zxm:IxR X (rIx X.K):=ZvL.or (ZxC.or ZxR)
theorem ZrE(its:List Value)(n j:Nat)(u:Value):ZCq (·.setIfInBounds j u) { cls:=.type "list",data:=.seq its.toArray n }={ cls:=.type "list",data:=.seq (its.set j u).toArray n }:=by simp[ZCq]
theorem Inv.lst{pins:List (Addr × Obj)}{σ:St}{H:Hp}{s:Shared}{p:Addr}{xs:List V}(I:Inv X pins σ H s)(h:H p=some (.lst xs)) :
  ∃(its:List Value) (n:Nat),Vals xs its/\s.heap.get? p=some { cls:=.type "list",data:=.seq its.toArray n }/\xs.length<=sizeLine:=by
 obtain⟨z,its,n,r,e⟩:=I.hok p _ h;exact⟨its,n,r,e,z⟩
theorem Inv.lstUpd{pins:List (Addr × Obj)}{σ:St}{H:Hp}{s:Shared}{p:Addr}{xs ys:List V}{its its':List Value}{n n':Nat}{f:Obj->Obj}(I:Inv X pins σ H s)(h:H p=some (.lst xs))
  (ho:s.heap.get? p=some { cls:=.type "list",data:=.seq its.toArray n }) (hf:f { cls:=.type "list",data:=.seq its.toArray n }={ cls:=.type "list",data:=.seq its'.toArray n' }) (r:Vals ys its') (hz:ys.length<=sizeLine) (t:Nat) :
  Inv X pins σ (upd H p (.lst ys)) { s with heap:=s.heap.update p f,toks:=t }:=by
 have e:(s.heap.update p f).get? p=some { cls:=.type "list",data:=.seq its'.toArray n' }:=by rw[ZAC f ho (by rw[hf]<;>rfl),hf]
 refine I.write (x:=p) (e:=p) (by rw[h]; trivial) (.inl rfl) (λb u hb q=>(ZAV _ _ (ZAx hb)).trans q) ⟨_,e⟩ ?_;exact⟨hz,its',n',r,e⟩
def Zx3:V->V->V->Hp->(Hp->Prop)->Prop:=λo i v H Q=>∃p xs k j,o=.ref p/\i=.int k/\H p=some (.lst xs)/\ixN xs.length k=some j/\Q (upd H p (.lst (xs.set j v)))
theorem set_list:ZxH X Zx3:=by
 intro pins s σ H o i v ov iv u Q I ro ri rv h;obtain⟨p,xs,k,j,rfl,rfl,hp,hj,q⟩:=h;cases ro;obtain⟨t,rfl⟩:=ri;obtain⟨its,n,r,ho,hz⟩:=I.lst hp;obtain⟨h1,h2,h3,h4⟩:=ZqO hj;have hl:=r.length;have hn:=ZjI;have I':Inv X pins σ (upd H p (.lst (xs.set j v))) { s with heap:=s.heap.update p (ZCq (·.setIfInBounds j u)) } :=
  I.lstUpd hp ho (ZrE its n j u) (r.set rv j) (by rw[ZAG]; exact hz) s.toks
 by_cases h0:0<=k
 ·have hk:k.toNat=j:=by
   rw[seqIndex_of h0 h4]at h1;exact ZAs h1
  exact PySem.W.ki_setAt ho h0 (by omega) (by rw[ZzN,<-hl]; exact h4) (by rw[hk]; exact⟨_,I',q⟩)
 ·have hk:(k+(its.toArray.size:Int)).toNat=j:=by
   rw[seqIndex_neg (by omega) h3]at h1;rw[ZzN,<-hl];exact ZAs h1
  exact PySem.W.ki_setBack ho (by omega) (by rw[ZzN,<-hl]; exact h3) (by omega) (by rw[hk]; exact⟨_,I',q⟩)
theorem Zog(lo hi:Option Int)(n:Nat):(ZCf lo hi none n).1=((HT.sIx n 0 lo:Nat):Int)/\(ZCf lo hi none n).2.1=((HT.sIx n n hi:Nat):Int)/\(ZCf lo hi none n).2.2=1:=by
 refine⟨?_,?_,rfl⟩
 ·cases lo with
  | none=>simp[ZCf,HT.sIx]
  | some i =>
   simp only[ZCf,HT.sIx,Option.getD_none,show(1:Int) > 0 by decide,if_true]
   by_cases h:i<0
   ·simp only[h,if_true]<;>omega
   ·simp only[h,if_false]<;>omega
 ·cases hi with
  | none=>simp[ZCf,HT.sIx]
  | some i =>
   simp only[ZCf,HT.sIx,Option.getD_none,show(1:Int) > 0 by decide,if_true]
   by_cases h:i<0
   ·simp only[h,if_true]<;>omega
   ·simp only[h,if_false]<;>omega
theorem Zne(its:List Value)(lo hi:Option Int):slicePick its.toArray lo hi none=((its.drop (HT.sIx its.length 0 lo)).take (HT.sIx its.length its.length hi-HT.sIx its.length 0 lo)).toArray:=by obtain⟨h1,h2,h3⟩:=Zog lo hi its.toArray.size;unfold slicePick;rw[h1,h2,h3];simp only[sliceRange_one,pick_run,ZzN]<;>rfl
def Zy7(K:Zzp):V->Option Int->Option Int->Hp->VK->Prop:=λx lo hi H Q=>∃a xs,x=.ref a/\SqL K H a xs/\∀p,H p=none->Q (.ref p) (upd H p (.lst (ZpB xs lo hi)))
theorem Zv0:SlR X (Zy7 X.K):=by intro pins s σ H x v vl vu lo hi sl Q I rx hs pl pu h;obtain⟨a,xs,rfl,hx,q⟩:=h;cases rx;obtain⟨its,r,ht,hz⟩:=I.list hx;have hlen:=r.length;refine⟨"list",_,slot_list_getitem.lookup,ht.isList.typeIs,?_⟩;refine wpAny_getItem_list_slice ht.isList hs pl pu .none (by simp) ?_ (by rw[ZzN]<;>omega);rw[Zne,<-hlen];refine⟨.ref s.heap.objs.size,_,I.laid (t':=s.toks) (o:=.lst (ZpB xs lo hi)) (λb ob q=>Zzy _ q) (ZzB _) ?_,rfl,q _ (I.hok.fresh (ZzB _))⟩;exact⟨ZAd (Zqe xs lo hi) hz,_,0,(r.drop (HT.sIx xs.length 0 lo)).take (HT.sIx xs.length xs.length hi-HT.sIx xs.length 0 lo),ZzM _ rfl⟩
def Zbg:V->Bool
 | .non=>true
 | .bl _=>true
 | .int _=>true
 | .str _=>true
 | _=>false
def eqV:V->V->Bool
 | .non,.non=>true
 | .bl a,.bl b=>a==b
 | .bl a,.int b=>(if a then 1 else 0)==b
 | .int a,.bl b=>a==(if b then 1 else 0)
 | .int a,.int b=>a==b
 | .str a,.str b=>a==b
 | _,_=>false
theorem Zw5{A:Around}{s:Shared}{y x:V}{u v:Value}(ry:RelV y u)(rx:RelV x v)(fy:Zbg y=true)(fx:Zbg x=true):SeqAt.EqAt A s u v (eqV y x):=by
 cases y with
 | non =>
  cases ry;cases x with
  | non=>cases rx; exact SeqAt.EqAt.same _
  | bl b=>cases rx; exact SeqAt.EqAt.none_bool b
  | int b=>obtain⟨t,rfl⟩:=rx; exact SeqAt.EqAt.none_int b t
  | str b=>obtain⟨t,rfl⟩:=rx; exact SeqAt.EqAt.none_str b t
  | _=>exact absurd (show false=true from fx) ZAb
 | bl a =>
  cases ry;cases x with
  | non=>cases rx; exact SeqAt.EqAt.bool_none a
  | bl b=>cases rx; exact SeqAt.EqAt.bool_bool a b
  | int b=>obtain⟨t,rfl⟩:=rx; exact SeqAt.EqAt.bool_int a b t
  | str b=>obtain⟨t,rfl⟩:=rx; exact SeqAt.EqAt.bool_str a b t
  | _=>exact absurd (show false=true from fx) ZAb
 | int a =>
  obtain⟨t',rfl⟩:=ry;cases x with
  | non=>cases rx; exact SeqAt.EqAt.int_none a t'
  | bl b=>cases rx; exact SeqAt.EqAt.int_bool a t' b
  | int b=>obtain⟨t,rfl⟩:=rx; exact SeqAt.EqAt.int_int a t' b t
  | str b=>obtain⟨t,rfl⟩:=rx; exact ZEn a t' b t
  | _=>exact absurd (show false=true from fx) ZAb
 | str a =>
  obtain⟨t',rfl⟩:=ry;cases x with
  | non=>cases rx; exact SeqAt.EqAt.str_none a t'
  | bl b=>cases rx; exact SeqAt.EqAt.str_bool a t' b
  | int b=>obtain⟨t,rfl⟩:=rx; exact ZEo a t' b t
  | str b=>obtain⟨t,rfl⟩:=rx; exact SeqAt.EqAt.str_str a t' b t
  | _=>exact absurd (show false=true from fx) ZAb
 | _=>exact absurd (show false=true from fy) ZAb
def eqU(x:V)(u:Value):Bool:=match u with
 | .none=>eqV .non x
 | .bool b=>eqV (.bl b) x
 | .int i _=>eqV (.int i) x
 | .str z _=>eqV (.str z) x
 | _=>false
theorem ZsR{x y:V}{u:Value}(r:RelV y u)(f:Zbg y=true):eqU x u=eqV y x:=by
 cases y with
 | non=>cases r; rfl
 | bl b=>cases r; rfl
 | int i=>obtain⟨t,rfl⟩:=r; rfl
 | str z=>obtain⟨t,rfl⟩:=r; rfl
 | _=>exact absurd (show false=true from f) ZAb
theorem ZhW{x:V}:∀{xs:List V} {us:List Value},Vals xs us->xs.all Zbg=true->us.any (eqU x)=xs.any λy=>eqV y x
 | _,_,.nil,_=>rfl
 | y::xs,u::us,.cons r t,f=>by rw[ZAF,ZzK]at f;rw[ZA8,ZA8,ZsR r f.1,ZhW t f.2]
theorem ZgD{A:Around}{s:Shared}{x:V}{v:Value}(rx:RelV x v)(fx:Zbg x=true):∀{xs:List V} {us:List Value},Vals xs us->xs.all Zbg=true->∀u∈us,SeqAt.EqAt A s u v (eqU x u)
 | _,_,.nil,_=>λu hu=>by cases hu
 | y::xs,u::us,.cons r t,f=>λu' hu=>by
  rw[ZAF,ZzK]at f;rcases ZzH.mp hu with rfl | hu
  ·rw[ZsR r f.1]; exact Zw5 r rx f.1 fx
  ·exact ZgD rx fx t f.2 u' hu
def inV(x:V)(xs:List V):Bool:=xs.any λy=>eqV y x
def rIn(K:Zzp)(neg:Bool):R2:=λx y H Q=>∃p xs,y=.ref p/\(SqL K H p xs\/SqT K H p xs)/\Zbg x=true/\xs.all Zbg=true/\Q (.bl (if neg then !inV x xs else inV x xs)) H
theorem ZsS:OpR X (ZAu .In) (rIn X.K false):=by
 intro pins s σ H x y v u Q I rx ry h;obtain⟨p,xs,rfl,hq,fx,fs,q⟩:=h;cases ry;rcases hq with hq | hq
 ·obtain⟨its,r,pl,hz⟩:=I.list hq
  refine SeqAt.in_listAt (eqU x) pl.isList (λw hw=>ZgD rx fx r fs w (by simpa using hw)) ⟨.bl _,H,I,rfl,?_⟩;rw[show its.toArray.any (eqU x)=its.any (eqU x) by simp,ZhW r fs];exact q
 ·obtain⟨its,r,pl,hz⟩:=I.tuple hq
  refine SeqAt.in_tupleAt (eqU x) pl (λw hw=>ZgD rx fx r fs w (by simpa using hw)) ⟨.bl _,H,I,rfl,?_⟩;rw[show its.toArray.any (eqU x)=its.any (eqU x) by simp,ZhW r fs];exact q
theorem ZoF:OpR X (ZAu .NotIn) (rIn X.K true):=by
 intro pins s σ H x y v u Q I rx ry h;obtain⟨p,xs,rfl,hq,fx,fs,q⟩:=h;cases ry;rcases hq with hq | hq
 ·obtain⟨its,r,pl,hz⟩:=I.list hq
  refine SeqAt.notIn_listAt (eqU x) pl.isList (λw hw=>ZgD rx fx r fs w (by simpa using hw)) ⟨.bl _,H,I,rfl,?_⟩;rw[show its.toArray.any (eqU x)=its.any (eqU x) by simp,ZhW r fs];exact q
 ·obtain⟨its,r,pl,hz⟩:=I.tuple hq
  refine SeqAt.notIn_tupleAt (eqU x) pl (λw hw=>ZgD rx fx r fs w (by simpa using hw)) ⟨.bl _,H,I,rfl,?_⟩;rw[show its.toArray.any (eqU x)=its.any (eqU x) by simp,ZhW r fs];exact q
theorem Zom:Zbe X (.builtin "len") (λxs H Q=>∃p ys,xs=[.ref p]/\(SqL X.K H p ys\/SqT X.K H p ys)/\Q (.int ys.length) H):=by
 intro pins s σ H xs us Q I r h;obtain⟨p,ys,rfl,hq,q⟩:=h;obtain⟨u,rfl,rx⟩:=vals1 r;cases rx;have hn:=ZjI;rcases hq with hq | hq
 ·obtain⟨its,r',pl,hz⟩:=I.list hq
  have hlen:=r'.length;exact Calls.call_len_list pl.isList (by simp only[ZzN]<;>omega) ⟨.int ys.length,H,I.tok _,⟨s.toks+1,by rw[ZzN,hlen]⟩,q⟩
 ·obtain⟨its,r',pl,hz⟩:=I.tuple hq
  have hlen:=r'.length;exact len_tuple pl (by simp only[ZzN]<;>omega) ⟨.int ys.length,H,I.tok _,⟨s.toks+1,by rw[ZzN,hlen]⟩,q⟩
theorem Zbe.or{f:Value}{r r':List V->Hp->VK->Prop}(h:Zbe X f r)(h':Zbe X f r'):Zbe X f (λxs H Q=>r xs H Q\/r' xs H Q):=by
 intro pins s σ H xs us Q I rs q;rcases q with q | q
 ·exact h pins s σ H xs us Q I rs q
 ·exact h' pins s σ H xs us Q I rs q
theorem ZoY:Zbe X (.type "list") (λxs H Q=>∃p ys,xs=[.ref p]/\(SqL X.K H p ys\/SqT X.K H p ys)/\∀l,H l=none->Q (.ref l) (upd H l (.lst ys))):=by
 intro pins s σ H xs us Q I r h;obtain⟨p,ys,rfl,hq,q⟩:=h;obtain⟨u,rfl,rx⟩:=vals1 r;cases rx;have fin:∀(its:List Value),Vals ys its->ys.length<=sizeLine->∀(h':Heap) (c':Nat),(∀b o',s.heap.get? b=some o'->h'.get? b=some o') ->
   h'.get? s.heap.objs.size=some { cls:=.type "list",dict:=none,data:=.seq its.toArray c',slots:=#[] }->EP X pins σ Q (.ref s.heap.objs.size) { s with heap:=h' }:=λits r' hz h' c' kp e =>
  ⟨.ref s.heap.objs.size,_,I.laid (t':=s.toks) kp (ZzB _) (show Zah X.prog X.w _ h' _ (.lst ys) from⟨hz,its,c',r',e⟩),rfl,q _ (I.hok.fresh (ZzB _))⟩
 rcases hq with hq | hq
 ·obtain⟨its,r',pl,hz⟩:=I.list hq
  have hlen:=r'.length;obtain⟨o,ho,hc,n,hd⟩:=pl.isList;exact call_list_seq p (.inl rfl) ho hc hd (λh' c' kp e=>fin its r' hz h' c' kp e) (by simp only[ZzN]<;>omega)
 ·obtain⟨its,r',pl,hz⟩:=I.tuple hq
  have hlen:=r'.length;obtain⟨o,ho,hc,n,hd⟩:=pl;exact call_list_seq p (.inr rfl) ho hc hd (λh' c' kp e=>fin its r' hz h' c' kp e) (by simp only[ZzN]<;>omega)
theorem Znf:Zbe X (.type "tuple") (λxs H Q=>∃p ys,xs=[.ref p]/\((SqL X.K H p ys/\∀l,H l=none->Q (.ref l) (upd H l (.tup ys)))\/(SqT X.K H p ys/\Q (.ref p) H))):=by
 intro pins s σ H xs us Q I r h;obtain⟨p,ys,rfl,h⟩:=h;obtain⟨u,rfl,rx⟩:=vals1 r;cases rx;rcases h with⟨hq,q⟩ | ⟨hq,q⟩
 ·obtain⟨its,r',pl,hz⟩:=I.list hq
  have hlen:=r'.length;refine call_tuple_list pl.isList (λh' kp=>?_) (by simp only[ZzN]<;>omega);have I1:Inv X pins σ H { s with heap:=h' }:=I.kept (t':=s.toks) kp;have I2:Inv X pins σ (upd H h'.objs.size (.tup ys)) { s with heap:=h'.push { cls:=.type "tuple",data:=.seq its.toArray } } :=
   I1.laid (t':=s.toks) (λb o e=>Zzy _ e) (ZzB _) (show Zah X.prog X.w _ _ _ (.tup ys) from⟨hz,its,r',IsTup.new _ _⟩)
  exact⟨.ref h'.objs.size,_,I2,rfl,q _ (I1.hok.fresh (ZzB _))⟩
 ·obtain⟨its,r',pl,hz⟩:=I.tuple hq
  exact call_tuple_same pl ⟨.ref p,H,I,rfl,q⟩
def tyV(K:Zzp)(T:String)(x:V)(H:Hp):Prop:=match x with
 | .str _=>T = "str"
 | .int _=>T = "int"
 | .ref p=>(T = "list"/\∃xs,SqL K H p xs)\/(T = "tuple"/\∃o,K.lookup p=some o/\o.cls=.type "tuple"/\o.dict=none) \/
   (T = "dict"/\((∃kvs,H p=some (.dK kvs))\/∃kvs,H p=some (.dT kvs)))\/(T = "set"/\∃S n,H p=some (.set S n))
 | _=>False
theorem Zst{pins:List (Addr × Obj)}{σ:St}{H:Hp}{s:Shared}{T:String}{x:V}{v:Value}(I:Inv X pins σ H s)(r:RelV x v)(ty:tyV X.K T x H) :
  s.TypeIs v T/\∀a,v=.ref a->∃ob,s.heap.get? a=some ob/\ob.dict=none:=by
 cases x with
 | str z=>obtain⟨t,rfl⟩:=r;cases(show T = "str" from ty);exact⟨typeIs_str s z t,λ_ e=>nomatch e⟩
 | int i=>obtain⟨t,rfl⟩:=r;cases(show T = "int" from ty);exact⟨typeIs_int s i t,λ_ e=>nomatch e⟩
 | ref p =>
  cases r;rcases ty with⟨rfl,xs,hq⟩ | ⟨rfl,o,hk,hc,hd⟩ | ⟨rfl,hk⟩ | ⟨rfl,S,n,hk⟩
  ·obtain⟨its,_,pl,_⟩:=I.list hq
   refine⟨pl.isList.typeIs,λa e=>?_⟩;cases e;obtain⟨o,n,e,c,hd,_⟩:=pl;exact⟨o,e,hd⟩
  ·refine⟨⟨o,I.kIn p o hk,hc⟩,λa e=>?_⟩
   cases e;exact⟨o,I.kIn _ o hk,hd⟩
  ·have z:∃o,s.heap.get? p=some o/\o.ExactDict:=by
    rcases hk with⟨kvs,hk⟩ | ⟨kvs,hk⟩
    ·obtain⟨_,_,_,_,o,_,_,e,ex,_⟩:=I.hok p _ hk
     exact⟨o,e,ex⟩
    ·obtain⟨_,_,_,_,o,_,_,e,ex,_⟩:=I.hok p _ hk
     exact⟨o,e,ex⟩
   obtain⟨o,e,ex⟩:=z;refine⟨⟨o,e,ex.1⟩,λa e2=>?_⟩;cases e2;exact⟨o,e,ex.2.1⟩
  ·obtain⟨o,_,_,_,e,ex,_⟩:=I.hok p _ hk
   refine⟨⟨o,e,ex.1⟩,λa e2=>?_⟩;cases e2;exact⟨o,e,ex.2.1⟩
 | _=>exact ZAm ty
def ZyX(K:Zzp)(T:String)(r:V->List V->Hp->VK->Prop)(to:TE):TE:=λσ H Q=>to σ H λx H1=>tyV K T x H1/\r x [] H1 Q
def tBM(K:Zzp)(T:String)(r:V->List V->Hp->VK->Prop)(to:TE)(t:TA):TE:=λσ H Q=>to σ H λx H1=>tyV K T x H1/\t σ H1 λxs H2=>r x xs H2 Q
variable{o e:Expr}{es:List Expr}{to:TE}{t:TA}{name:Str}{apos cpos:Pos}{T id:String}{r:V->List V->Hp->VK->Prop}
theorem ZxG(pa:PlainAttrs T)(slot:Slot T name id)(hty:typeOf (.builtin id)=pure (.type "method_descriptor"))(hm:MtR X id r)(ho:PE X o to)
  (hbase:ZBI o name X.env (eval o X.env)=eval o X.env:=by rfl) (hline:(apos.endLine==cpos.line)=true:=by rfl):PE X (.Call (.Attribute o name apos) [] [] cpos) (ZyX X.K T r to):=by
 intro pins s σ H Q I h;refine wpAny_Call_method0_late hbase hline (thn (ho pins s σ H _ I h) λv s1 ⟨x,H1,I1,r1,ty,q1⟩=>?_);obtain⟨h1,h2⟩:=Zst I1 r1 ty;exact⟨T,id,pa,slot,hty,h1,h2,ZB0 rfl (PySem.evalArgs_none (hm pins s1 σ H1 x [] v [] Q I1 r1 .nil q1))⟩
theorem Znq(pa:PlainAttrs T)(slot:Slot T name id)(hty:typeOf (.builtin id)=pure (.type "method_descriptor"))(hm:MtR X id r)(ho:PE X o to)(ha:PA X (e::es) t)
  (hbase:ZBI o name X.env (eval o X.env)=eval o X.env:=by rfl)
  (hfew:((backTo cpos (ZzC (e::es) X.env)).all (λx=>!x.1)&&(ZDH cpos (ZCG [] X.env)).all (λx=>x.1.isSome)
   && decide ((e::es).length+([]:List Keyword).length+(if([]:List Keyword).isEmpty then 0 else 1)<30))=true:=by rfl)
  (hline:(apos.endLine==cpos.line)=true:=by rfl) (hs:ZzC (e::es) X.env=(false,eval e X.env)::ZzC es X.env:=by rfl) (hplain:(backTo cpos (ZzC es X.env)).any (·.1)=false:=by rfl) :
  PE X (.Call (.Attribute o name apos) (e::es) [] cpos) (tBM X.K T r to t):=by
 intro pins s σ H Q I h;refine wpAny_Call_method_late hbase hfew hline rfl (thn (ho pins s σ H _ I h) λv s1 ⟨x,H1,I1,r1,ty,q1⟩=>?_);obtain⟨h1,h2⟩:=Zst I1 r1 ty;refine⟨T,id,pa,slot,hty,h1,h2,?_⟩;have hA:=ha cpos pins s1 σ H1 _ I1 q1;rw[hs]at hA ⊢;refine ZB0 (by show(false||(backTo cpos (ZzC es X.env)).any (·.1))=false; rw[hplain]<;>rfl) (ZCX ?_);exact thn hA λus s2 ⟨vs,H2,I2,r2,q2⟩=>hm pins s2 σ H2 x vs v us Q I2 r1 r2 q2
end
end L2
namespace L2
open PySem PySem.Spec PyProof.Rows
def MtM(X:Cx)(id:String)(r:V->List V->Hp->VK->Prop):Prop :=
 ∀(pins:List (Addr × Obj)) (s:Shared) (σ:St) (H:Hp) (x:V) (xs:List V) (v:Value) (us:List Value) (Q:VK),Inv X pins σ H s->RelV x v->Vals xs us->r x xs H Q ->
  wpAny (model X.prog X.w) X.A (call (.builtin id) (v::us)) (EP X pins σ Q) X.xe s
theorem Vals.one:∀{x:V} {us:List Value},Vals [x] us->∃u,us=[u]/\RelV x u
 | _,_,.cons r .nil=>⟨_,rfl,r⟩
theorem Vals.zero:∀{us:List Value},Vals [] us->us=[]
 | _,.nil=>rfl
theorem Vals.dropLast{xs:List V}{us:List Value}(h:Vals xs us):Vals xs.dropLast us.dropLast:=by
 induction h with
 | nil=>exact .nil
 | cons r t ih =>
  cases t with
  | nil=>exact .nil
  | cons q t'=>exact .cons r ih
theorem Vals.rep{xs:List V}{us:List Value}(h:Vals xs us):∀k:Nat,Vals (Zz3 k xs).flatten (Zz3 k us).flatten
 | 0=>.nil
 | k+1=>by rw[ZBd,ZBd,ZBL,ZBL];exact Vals.append h (Vals.rep h k)
theorem Zrt{α:Type}(l:List α):l.eraseIdx (l.length-1)=l.dropLast:=by
 induction l with
 | nil=>rfl
 | cons a r ih =>
  cases r with
  | nil=>rfl
  | cons b r =>
   have e:(a::b::r).length-1=((b::r).length-1)+1:=by have h1:(a::b::r).length=r.length+2:=rfl;have h2:(b::r).length=r.length+1:=rfl;omega
   rw[e,List.eraseIdx_cons_succ,ih]
   all_goals rfl
theorem foldl_rep(its:List Value):∀(k:Nat) (acc:List Value),
  List.foldl (λx1 x2=>x1++x2) acc.toArray (Zz3 k its.toArray)=(acc++(Zz3 k its).flatten).toArray
 | 0,acc=>by simp
 | k+1,acc=>by
  have e:acc.toArray++its.toArray=(acc++its).toArray:=by simp
  have e2:(acc++its)++(Zz3 k its).flatten=acc++(Zz3 (k+1) its).flatten:=by rw[ZBd,ZBL,ZAM]
  rw[<-e2,<-foldl_rep its k (acc++its),<-e,ZBd,ZAv]
section
variable{X:Cx}{pins:List (Addr × Obj)}{σ:St}{H:Hp}{s:Shared}{l b:Addr}{xs ys zs:List V}
theorem Inv.lset{its its':List Value}{n:Nat}{f:Array Value->Array Value}{t':Nat}(I:Inv X pins σ H s)(hH:H l=some (.lst xs))
  (e:s.heap.get? l=some { cls:=.type "list",data:=.seq its.toArray n }) (hf:f its.toArray=its'.toArray) (hv:Vals ys its') (hz:ys.length<=sizeLine) :
  Inv X pins σ (upd H l (.lst ys)) { s with heap:=s.heap.update l (ZCq f),toks:=t' }:=by
 have q:=PySem.IsL.update e f;rw[hf]at q;refine I.write (x:=l) (e:=l) (by rw[hH]; exact trivial) (.inl rfl) (λb' u hb hu=>(ZAV s.heap (ZCq f) (ZAx hb)).trans hu) ⟨_,q⟩ ?_;exact⟨hz,its',_,hv,q⟩
theorem Inv.lnew{its:List Value}{t':Nat}(I:Inv X pins σ H s)(hv:Vals ys its)(hz:ys.length<=sizeLine) :
  Inv X pins σ (upd H s.heap.objs.size (.lst ys)) { s with heap:=s.heap.push { cls:=.type "list",data:=.seq its.toArray },toks:=t' } :=
 I.laid (λ_ _ q=>Zzy _ q) (ZzB _) ⟨hz,its,0,hv,ZzM _ rfl⟩
theorem Inv.fresh(I:Inv X pins σ H s):H s.heap.objs.size=none:=I.hok.fresh (ZzB _)
theorem Inv.lstM(I:Inv X pins σ H s)(hH:H l=some (.lst xs)):xs.length<=sizeLine/\∃(its:List Value) (n:Nat),Vals xs its/\xs.length=its.length/\s.heap.get? l=some { cls:=.type "list",data:=.seq its.toArray n }:=by obtain⟨z,its,n,r,e⟩:=I.hok l _ hH;exact⟨z,its,n,r,r.length,e⟩
theorem Zpf{n:Nat}(h:n<=sizeLine):ZBP n=false:=by unfold ZBP;exact decide_eq_false (by omega)
end
section
variable{X:Cx}
def ZqG:V->List V->Hp->VK->Prop:=λx vs H Q=>∃l xs y,x=.ref l/\vs=[y]/\H l=some (.lst xs)/\xs.length<sizeLine/\Q .non (upd H l (.lst (xs++[y])))
theorem Zg5:MtM X "list.append" ZqG:=by intro pins s σ H x vs v us Q I rx rv h;obtain⟨l,xs,y,rfl,rfl,hH,hz,q⟩:=h;cases rx;obtain⟨u,rfl,ru⟩:=rv.one;obtain⟨z,its,n,r,hl,e⟩:=I.lstM hH;refine ZDA F.slot_list_append ⟨_,e,rfl⟩ F.entry_list_append (F.args_list_append_2 _ _) (PySem.list_append l its.toArray n u (by rw[ZzN]; omega)) ⟨e,?_⟩;refine⟨.non,_,I.lset (its':=its++[u]) hH e (by simp) (r.append (.cons ru .nil)) ?_,rfl,q⟩;rw[ZzL,ZAO];omega
def Zvv:V->List V->Hp->VK->Prop:=λx vs H Q=>∃l b xs zs,x=.ref l/\vs=[.ref b]/\H l=some (.lst xs)/\H b=some (.lst zs)/\xs.length+zs.length<=sizeLine/\Q .non (upd H l (.lst (xs++zs)))
theorem Ztg:MtM X "list.extend" Zvv:=by
 intro pins s σ H x vs v us Q I rx rv h;obtain⟨l,b,xs,zs,rfl,rfl,hH,hB,hz,q⟩:=h;cases rx;obtain⟨u,rfl,ru⟩:=rv.one;cases ru;obtain⟨z,its,n,r,hl,e⟩:=I.lstM hH;obtain⟨z2,its2,n2,r2,hl2,e2⟩:=I.lstM hB;have hsz:its.toArray.size+its2.toArray.size<=sizeLine:=by rw[ZzN,ZzN]; omega
 have hlong:¬(!its.toArray.isEmpty&&ZBP (its.toArray.size+its2.toArray.size))=true:=by rw[Zpf hsz,Bool.and_false];exact ZAb
 refine ZDA F.slot_list_extend ⟨_,e,rfl⟩ F.entry_list_extend (F.args_list_extend_2 _ _)
  (AutoSeq1.list_extend_list_list_0 l its.toArray n b its2.toArray n2 hlong (by rw[ZzN]; omega) (by omega)) ⟨e,e2,?_⟩
 refine⟨.non,_,I.lset (its':=its++its2) hH e (by simp) (r.append r2) ?_,rfl,q⟩;rw[ZzL];omega
def ZyO:V->List V->Hp->VK->Prop:=λx vs H Q=>∃l xs y,x=.ref l/\vs=[]/\H l=some (.lst xs)/\xs[xs.length-1]?=some y/\Q y (upd H l (.lst xs.dropLast))
theorem Zw1:MtM X "list.pop" ZyO:=by
 intro pins s σ H x vs v us Q I rx rv h;obtain⟨l,xs,y,rfl,rfl,hH,hy,q⟩:=h;cases rx;have hus:=rv.zero;subst hus;obtain⟨z,its,n,r,hl,e⟩:=I.lstM hH;obtain⟨u,hu,ru⟩:=r.get hy;have hy':its.toArray[its.toArray.size-1]?=some u:=by show its.toArray[its.length-1]?=some u;rw[<-ZAp,<-hl];exact hu
 refine ZDA F.slot_list_pop ⟨_,e,rfl⟩ F.entry_list_pop (F.args_list_pop_1 _) (MeetsSeq.list_pop_last l its.toArray n u hy' (by rw[ZzN]; omega)) ⟨e,?_⟩;refine⟨y,_,I.lset (its':=its.dropLast) hH e ?_ r.dropLast ?_,ru,q⟩
 ·show its.toArray.eraseIdxIfInBounds (its.toArray.size-1)=its.dropLast.toArray
  rw[ZzN,List.eraseIdxIfInBounds_toArray,Zrt]
 ·rw[List.length_dropLast]
  omega
def ZyY:R2:=λx y H Q=>∃l b xs zs,x=.ref l/\y=.ref b/\H l=some (.lst xs)/\H b=some (.lst zs)/\xs.length+zs.length<=sizeLine/\∀p,H p=none->Q (.ref p) (upd H p (.lst (xs++zs)))
theorem ZwD:OpR X (ZCO .Add) ZyY:=by
 intro pins s σ H x y v u Q I rx ry h;obtain⟨l,b,xs,zs,rfl,rfl,hH,hB,hz,q⟩:=h;cases rx;cases ry;obtain⟨z,its,n,r,hl,e⟩:=I.lstM hH;obtain⟨z2,its2,n2,r2,hl2,e2⟩:=I.lstM hB;refine PySem.P.add_list e e2 ?_ (by rw[ZzN,ZzN]; omega);have ea:its.toArray++its2.toArray=(its++its2).toArray:=by simp
 rw[ea];exact⟨.ref _,_,I.lnew (t':=s.toks) (r.append r2) (by rw[ZzL]; omega),rfl,q _ I.fresh⟩
def Zzb:R2:=λx y H Q=>∃l k xs,x=.ref l/\y=.int k/\H l=some (.lst xs)/\-(2 ^ 63)<=k/\k<2 ^ 63/\xs.length*k.toNat<=sizeLine /\
 ∀p,H p=none->Q (.ref p) (upd H p (.lst (Zz3 k.toNat xs).flatten))
theorem len_rep{α:Type}(xs:List α)(k:Nat):(Zz3 k xs).flatten.length=k*xs.length:=by
 induction k with
 | zero=>simp
 | succ k ih=>rw[ZBd,ZBL,ZzL,ih,Nat.succ_mul,Nat.add_comm]
theorem ZxL:OpR X (ZCO .Mult) Zzb:=by
 intro pins s σ H x y v u Q I rx ry h;obtain⟨l,k,xs,rfl,rfl,hH,h1,h2,hz,q⟩:=h;cases rx;obtain⟨t,rfl⟩:=ry;obtain⟨z,its,n,r,hl,e⟩:=I.lstM hH;have hlen:its.toArray.size*k.toNat<=sizeLine:=by rw[ZzN,<-hl]; exact hz
 have hcap:¬its.toArray.size*k.toNat > (2 ^ 63-1) / 8:=by
  have:(sizeLine:Nat)<=(2 ^ 63-1) / 8:=by decide
  omega
 have hfit:¬(!Builtin.List.listFitsIndex k)=true:=by rw[fitsIndex_both h1 h2];exact ZAb
 have hlong:¬ZBP (its.toArray.size*k.toNat)=true:=by rw[Zpf hlen];exact ZAb
 have hnew:List.foldl (λx1 x2=>x1++x2) #[] (Zz3 (if its.toArray.isEmpty=true then 0 else k.toNat) its.toArray)=(Zz3 k.toNat its).flatten.toArray:=by
  have f0:∀m:Nat,List.foldl (λx1 x2=>x1++x2) #[] (Zz3 m its.toArray)=(Zz3 m its).flatten.toArray:=λm=>by have:=foldl_rep its m [];rw[ZBs]at this;exact this
  rw[f0];cases its with
  | nil=>simp
  | cons a r'=>rw[if_neg (by simp)]
 refine wpAny_binaryOp_repeat_ref (T:="list") (U:="int") (by decide) ⟨_,e,rfl⟩ (λs'=>typeIs_int s' k t) noFill_list_mul F.fills_int_mul F.slot_int_rmul repeat_list F.slot_int_index.lookup
  (ZDA F.slot_int_rmul (typeIs_int s k t) F.entry_int_rmul (F.args_int_rmul_2 _ _) (int___rmul___int_list k t l its.toArray n)
   ⟨e,rfl,⟨_,e,rfl⟩,ZDA F.slot_list_mul ⟨_,e,rfl⟩ F.entry_list_mul (F.args_list_mul_2 _ _) (AutoListH.list___mul___list_int_3 l its.toArray n k t hfit hcap hlong) ⟨e,?_⟩⟩)
 rw[hnew];exact⟨.ref _,_,I.lnew (t':=s.toks) (r.rep k.toNat) (by rw[len_rep,Nat.mul_comm]; exact hz),rfl,q _ I.fresh⟩
end
end L2
namespace L2
open PySem PySem.Spec PyProof.Rows
section
variable{κ:Type}[DecidableEq κ]
def ZaS(kvs:List (κ × V))(k:κ):Option V:=(kvs.find? λkv=>decide (kv.1=k)).map (·.2)
def putK(kvs:List (κ × V))(k:κ)(v:V):List (κ × V) :=
 if(kvs.any λkv=>decide (kv.1=k))=true then kvs.map (λkv=>if kv.1=k then(kv.1,v)else kv)else kvs++[(k,v)]
theorem Zel{p:κ × V}{r:List (κ × V)}{k:κ}(e:p.1=k):ZaS (p::r) k=some p.2:=by simp[ZaS,ZAn,e]
theorem Zem{p:κ × V}{r:List (κ × V)}{k:κ}(e:¬p.1=k):ZaS (p::r) k=ZaS r k:=by simp[ZaS,ZAn,e]
theorem ZiP(k:κ):∀kvs:List (κ × V),(kvs.any λkv=>decide (kv.1=k))=(ZaS kvs k).isSome
 | []=>rfl
 | p::r=>by
  rw[ZA8]
  by_cases e:p.1=k
  ·simp only[Zel e,decide_eq_true e,Bool.true_or,Option.isSome_some]
  ·rw[Zem e,decide_eq_false e,ZCK]; exact ZiP k r
theorem ZhB(kvs:List (κ × V))(k:κ)(v:V):(putK kvs k v).length<=kvs.length+1:=by
 unfold putK;split
 ·rw[Zzr]; omega
 ·rw[ZzL,ZzG,ZDT]; omega
theorem ZfW.isSome_eq{o:Option V}{u:Option Value}(r:ZfW o u):o.isSome=u.isSome:=by
 cases o with
 | none=>cases u with
  | none=>rfl
  | some _=>exact(show False from r).elim
 | some _=>cases u with
  | none=>exact(show False from r).elim
  | some _=>rfl
theorem ZfW.getD{o:Option V}{u:Option Value}{d:V}{d':Value}(r:ZfW o u)(rd:RelV d d'):RelV (o.getD d) (u.getD d'):=by
 cases o with
 | none=>cases u with
  | none=>exact rd
  | some _=>exact(show False from r).elim
 | some _=>cases u with
  | none=>exact(show False from r).elim
  | some _=>exact r
theorem KV.val{kvs:List (κ × V)}{vs:List (κ × Value)}(r:KV kvs vs)(k:κ):ZfW (ZaS kvs k) (valueAt vs k):=by
 unfold KV at r
 induction r with
 | nil=>exact ZCr
 | @cons p q ps qs h t ih =>
  obtain⟨h1,h2⟩:=h
  by_cases e:p.1=k
  ·have e':q.1=k:=h1.symm.trans e
   have b:valueAt (q::qs) k=some q.2:=by simp[valueAt,ZAn,e']
   rw[Zel e,b]; exact h2
  ·have e':¬q.1=k:=λz=>e (h1.trans z)
   have b:valueAt (q::qs) k=valueAt qs k:=by simp[valueAt,ZAn,e']
   rw[Zem e,b]; exact ih
theorem KV.any{kvs:List (κ × V)}{vs:List (κ × Value)}(r:KV kvs vs)(k:κ):(kvs.any λkv=>decide (kv.1=k))=vs.any λkv=>decide (kv.1=k):=by
 unfold KV at r
 induction r with
 | nil=>rfl
 | cons h t ih=>rw[ZA8,ZA8,ih,h.1]
theorem KV.repl{kvs:List (κ × V)}{vs:List (κ × Value)}(r:KV kvs vs)(k:κ){y:V}{u:Value}(ry:RelV y u) :
  KV (kvs.map λkv=>if kv.1=k then(kv.1,y)else kv) (vs.map λkv=>if kv.1=k then(kv.1,u)else kv):=by
 unfold KV at r ⊢
 induction r with
 | nil=>exact .nil
 | @cons p q ps qs h t ih =>
  rw[Zzw,Zzw];refine .cons ?_ ih;obtain⟨h1,h2⟩:=h
  by_cases e:p.1=k
  ·rw[if_pos e,if_pos (h1.symm.trans e)]; exact⟨h1,ry⟩
  ·rw[if_neg e,if_neg (λz=>e (h1.trans z))]; exact⟨h1,h2⟩
theorem KV.put{kvs:List (κ × V)}{vs:List (κ × Value)}(r:KV kvs vs)(k:κ){y:V}{u:Value}(ry:RelV y u):KV (putK kvs k y) (stored vs k u):=by
 unfold putK stored;rw[r.any k]
 by_cases e:(vs.any λkv=>decide (kv.1=k))=true
 ·rw[if_pos e,if_pos e]; exact r.repl k ry
 ·rw[if_neg e,if_neg e]; exact Paired.snoc r ⟨rfl,ry⟩
theorem KV.length{kvs:List (κ × V)}{vs:List (κ × Value)}(r:KV kvs vs):kvs.length=vs.length:=ZBX r
end
theorem ZiC{P:Program}{w:World}{k:Key}{u:Value}(r:RelV (kV k) u):(Zay P w).is k u=true:=by
 cases k with
 | inl i=>obtain⟨t,e⟩:=(show ∃t,u=ZBl i t from r); subst e; exact Zqr P w i t
 | inr x=>obtain⟨t,e⟩:=(show ∃t,u=Value.str x t from r); subst e; exact Zqv P w x t
theorem Zmx{P:Program}{w:World}:∀{ks:List Key} {us:List Value},Vals (ks.map kV) us->ItemsAre (Zay P w) ks us
 | [],_,r=>by rw[ZBf]at r; cases r; exact .nil
 | k::ks,_,r=>by
  rw[Zzw]at r;cases r with
  | cons h t=>exact .cons (ZiC h) (Zmx t)
abbrev KT(H:Hp):List (List Key × V)->List (List Key × Addr × Value)->Prop:=Paired λp q=>p.1=q.1/\H q.2.1=some (.tup (p.1.map kV))/\RelV p.2 q.2.2
theorem KT.val{H:Hp}{kvs:List (List Key × V)}{xs:List (List Key × Addr × Value)}(r:KT H kvs xs)(k:List Key):ZfW (ZaS kvs k) ((atKey xs k).map (·.2)):=by
 induction r with
 | nil=>exact ZCr
 | @cons p q ps qs h t ih =>
  obtain⟨h1,_,h2⟩:=h
  by_cases e:p.1=k
  ·have e':q.1=k:=h1.symm.trans e
   have b:atKey (q::qs) k=some q.2:=by simp[atKey,ZAn,e']
   rw[Zel e,b]; exact h2
  ·have e':¬q.1=k:=λz=>e (h1.trans z)
   have b:atKey (q::qs) k=atKey qs k:=by simp[atKey,ZAn,e']
   rw[Zem e,b]; exact ih
theorem KT.repl{H:Hp}{kvs:List (List Key × V)}{xs:List (List Key × Addr × Value)}(r:KT H kvs xs)(k:List Key){y:V}{u:Value}(ry:RelV y u) :
  KT H (kvs.map λkv=>if kv.1=k then(kv.1,y)else kv) (xs.map (putAt k u)):=by
 induction r with
 | nil=>exact .nil
 | @cons p q ps qs h t ih =>
  rw[Zzw,Zzw];refine .cons ?_ ih;obtain⟨h1,h2,h3⟩:=h;unfold putAt
  by_cases e:p.1=k
  ·rw[if_pos e,if_pos (h1.symm.trans e)]; exact⟨h1,h2,ry⟩
  ·rw[if_neg e,if_neg (λz=>e (h1.trans z))]; exact⟨h1,h2,h3⟩
theorem KT.put{H:Hp}{kvs:List (List Key × V)}{xs:List (List Key × Addr × Value)}(r:KT H kvs xs)(k:List Key){b:Addr}{y:V}{u:Value}(hb:H b=some (.tup (k.map kV)))(ry:RelV y u) :
  KT H (putK kvs k y) (storedH xs k b u):=by
 have e:(kvs.any λkv=>decide (kv.1=k))=(atKey xs k).isSome:=by rw[ZiP,(r.val k).isSome_eq,ZAY]
 unfold putK storedH;rw[e]
 by_cases q:(atKey xs k).isSome=true
 ·rw[if_pos q,if_pos q]; exact r.repl k ry
 ·rw[if_neg q,if_neg q]; exact Paired.snoc r ⟨rfl,hb,ry⟩
theorem KT.keeps{H H':Hp}{kvs:List (List Key × V)}{xs:List (List Key × Addr × Value)}(r:KT H kvs xs)(ht:∀b ys,H b=some (.tup ys)->H' b=some (.tup ys)):KT H' kvs xs :=
 Paired.mapP r λ_ _ z=>⟨z.1,ht _ _ z.2.1,z.2.2⟩
section
variable{P:Program}{w:World}{H:Hp}{h:Heap}{a:Addr}
theorem Zlm{u:HO}(ok:HOk P w H h)(e:Rd H a u):Zah P w H h a u:=e.ok ok
theorem Zg4{kvs:List (Key × V)}(ok:HOk P w H h)(e:Rd H a (.dK kvs)):kvs.length<=sizeLine/\(a==ZA1)=false/\∃vs,KV kvs vs/\h.DictOf (Zay P w) a vs :=
 show Zah P w H h a (.dK kvs) from Zlm ok e
theorem ZrP{kvs:List (Key × V)}(ok:HOk P w H h)(e:H a=some (.dK kvs)):kvs.length<=sizeLine/\(a==ZA1)=false/\∃vs,KV kvs vs/\h.DictOf (Zay P w) a vs:=Zg4 ok (.inl e)
theorem ZgK{ks:List Key}(ok:HOk P w H h)(e:H a=some (.tup (ks.map kV))):(ZCi (Zay P w)).is h ks a:=by obtain⟨_,its,r,o,h1,h2,n,h3⟩:=(show Zah P w H h a (.tup (ks.map kV)) from ok a _ e);exact⟨o,its.toArray,n,h1,h2,h3,by simpa using Zmx r⟩
theorem Ziz{kvs:List (List Key × V)}(ok:HOk P w H h)(e:Rd H a (.dT kvs)):kvs.length<=sizeLine/\(a==ZA1)=false /\
  ∃xs,KT H kvs xs/\h.DictOfH (ZCi (Zay P w)) a xs:=by
 obtain⟨z,y,xs,r,o,es,ep,h1,h2,h3,h4,h5⟩:=(show Zah P w H h a (.dT kvs) from Zlm ok e);refine⟨z,y,xs,r,o,es,ep,h1,h2,h3,h4,λx hx=>?_,h5⟩;have all:∀{l:List (List Key × V)} {m:List (List Key × Addr × Value)},KT H l m->∀x∈m,(ZCi (Zay P w)).is h x.1 x.2.1:=by
  intro l m q
  induction q with
  | nil=>intro x hx; exact nomatch hx
  | @cons p q ps qs hq t ih =>
   intro x hx;rcases ZzH.mp hx with e | hx
   ·subst e
    exact ZgK ok (by rw[<-hq.1]; exact hq.2.1)
   ·exact ih x hx
 exact all r x hx
theorem Zvk{kvs:List (List Key × V)}(ok:HOk P w H h)(e:H a=some (.dT kvs)):kvs.length<=sizeLine/\(a==ZA1)=false /\
  ∃xs,KT H kvs xs/\h.DictOfH (ZCi (Zay P w)) a xs:=Ziz ok (.inl e)
end
def Zcm(H:Hp)(a:Addr)(y:V)(r:Option V):Prop :=
 (∃kvs k,Rd H a (.dK kvs)/\y=kV k/\r=ZaS kvs k)\/∃kvs k b,Rd H a (.dT kvs)/\y=.ref b/\H b=some (.tup (k.map kV))/\r=ZaS kvs k
def ZiM(H:Hp)(a:Addr)(y v:V)(H':Hp):Prop :=
 (∃kvs k,H a=some (.dK kvs)/\y=kV k/\kvs.length<sizeLine/\H'=upd H a (.dK (putK kvs k v))) \/
 ∃kvs k b,H a=some (.dT kvs)/\y=.ref b/\H b=some (.tup (k.map kV))/\kvs.length<sizeLine/\H'=upd H a (.dT (putK kvs k v))
theorem Zcm.k{H:Hp}{a:Addr}{kvs:List (Key × V)}{k:Key}(e:H a=some (.dK kvs)):Zcm H a (kV k) (ZaS kvs k):=.inl ⟨kvs,k,.inl e,rfl,rfl⟩
theorem Zcm.t{H:Hp}{a b:Addr}{kvs:List (List Key × V)}{k:List Key}(e:H a=some (.dT kvs))(eb:H b=some (.tup (k.map kV))):Zcm H a (.ref b) (ZaS kvs k):=.inr ⟨kvs,k,b,.inl e,rfl,eb,rfl⟩
theorem ZiM.k{H:Hp}{a:Addr}{kvs:List (Key × V)}{k:Key}{v:V}(e:H a=some (.dK kvs))(hl:kvs.length<sizeLine):ZiM H a (kV k) v (upd H a (.dK (putK kvs k v))):=.inl ⟨kvs,k,e,rfl,hl,rfl⟩
theorem ZiM.t{H:Hp}{a b:Addr}{kvs:List (List Key × V)}{k:List Key}{v:V}(e:H a=some (.dT kvs))(eb:H b=some (.tup (k.map kV)))(hl:kvs.length<sizeLine) :
  ZiM H a (.ref b) v (upd H a (.dT (putK kvs k v))):=.inr ⟨kvs,k,b,e,rfl,eb,hl,rfl⟩
section
variable{X:Cx}{pins:List (Addr × Obj)}{σ:St}{H:Hp}{s:Shared}{a:Addr}{y v:V}{u r:Value}{o:Option V}{A:Around}{E:Value->Shared->Prop}
theorem Inv.big(I:Inv X pins σ H s):ZA1<s.heap.objs.size:=by have h:Zz7<s.heap.objs.size:=(I.mod.glob.keeps I.bk).lt;exact ZBt (by decide) h
theorem ZsP{Q:Value->Shared->Prop}(hu:A.units+1<cLine)(I:Inv X pins σ H s)(g:Zcm H a y (some v))(ry:RelV y u)(h:∀w' s',Inv X pins σ H s'->RelV v w'->Q w' s') :
  wpAny (model X.prog X.w) A (getItem (.ref a) u) Q E s:=by
 rcases g with⟨kvs,k,e,ey,l⟩ | ⟨kvs,k,b,e,ey,eb,l⟩
 ·subst ey
  obtain⟨z,hd,vs,rel,dd⟩:=Zg4 I.hok e;obtain⟨w',hw,rw'⟩:=ZfW.some_of (v:=v) (o:=valueAt vs k) (by rw[l]; exact rel.val k);exact wpAny_getItem_of (ZiC ry) dd.mapOf hw (h w' _ (I.tok _) rw')
 ·subst ey
  cases(show u=ZAo b from ry);obtain⟨z,hd,xs,rel,dd⟩:=Ziz I.hok e;obtain⟨w',hw,rw'⟩:=ZfW.some_of (v:=v) (o:=(atKey xs k).map (·.2)) (by rw[l]; exact rel.val k);obtain⟨p,hp,hp2⟩:=Zzs.mp hw;refine wpAny_getItem_heap (ZBD hu) (ZgK I.hok eb) dd hp ?_;rw[hp2];exact h w' _ (I.tok _) rw'
theorem ZyI{Q:Value->Shared->Prop}(hu:A.units+1<cLine)(I:Inv X pins σ H s)(g:Zcm H a y o)(ry:RelV y u)(h:∀s',Inv X pins σ H s'->Q (.bool o.isSome) s') :
  wpAny (model X.prog X.w) A (ZAu .In u (.ref a)) Q E s:=by
 rcases g with⟨kvs,k,e,ey,l⟩ | ⟨kvs,k,b,e,ey,eb,l⟩
 ·subst ey
  obtain⟨z,hd,vs,rel,dd⟩:=Zg4 I.hok e;refine wpAny_in_of (ZiC ry) hd dd.mapOf ?_;rw[<-(rel.val k).isSome_eq,<-l];exact h _ (I.tok _)
 ·subst ey
  cases(show u=ZAo b from ry);obtain⟨z,hd,xs,rel,dd⟩:=Ziz I.hok e;refine wpAny_in_heap (ZBD hu) (ZgK I.hok eb) hd dd ?_;have q:=(rel.val k).isSome_eq;rw[ZAY]at q;rw[<-q,<-l];exact h _ (I.tok _)
theorem Zv5{Q:Value->Shared->Prop}(hu:A.units+1<cLine)(I:Inv X pins σ H s)(g:Zcm H a y o)(ry:RelV y u)(h:∀s',Inv X pins σ H s'->Q (.bool (!o.isSome)) s') :
  wpAny (model X.prog X.w) A (ZAu .NotIn u (.ref a)) Q E s:=by
 rcases g with⟨kvs,k,e,ey,l⟩ | ⟨kvs,k,b,e,ey,eb,l⟩
 ·subst ey
  obtain⟨z,hd,vs,rel,dd⟩:=Zg4 I.hok e;refine wpAny_notIn_of (ZiC ry) hd dd.mapOf ?_;rw[<-(rel.val k).isSome_eq,<-l];exact h _ (I.tok _)
 ·subst ey
  cases(show u=ZAo b from ry);obtain⟨z,hd,xs,rel,dd⟩:=Ziz I.hok e;refine wpAny_notIn_heap (ZBD hu) (ZgK I.hok eb) hd dd ?_;have q:=(rel.val k).isSome_eq;rw[ZAY]at q;rw[<-q,<-l];exact h _ (I.tok _)
theorem ZjT{h':Heap}{t':Nat}{ob:HO}(I:Inv X pins σ H s)(mu:Mut (H a))(hs:ZBq a s.heap h')(he:∃q,h'.get? a=some q)(new:Zah X.prog X.w (upd H a ob) h' a ob) :
  Inv X pins σ (upd H a ob) { s with heap:=h',toks:=t' } :=
 I.write (x:=a) (e:=a) mu (.inl rfl) (λb q hb z=>(hs.2 b hb).trans z) he new
theorem Ztf{P:Program}{w:World}{H':Hp}{h':Heap}{kvs:List (Key × V)}{vs:List (Key × Value)}(z:kvs.length<=sizeLine)(hd:(a==ZA1)=false)(rel:KV kvs vs)(dd:h'.DictOf (Zay P w) a vs) :
  Zah P w H' h' a (.dK kvs):=⟨z,hd,vs,rel,dd⟩
theorem Ztr{H':Hp}{Q:Unit->Shared->Prop}(hu:A.units+1<cLine)(I:Inv X pins σ H s)(g:ZiM H a y v H')(ry:RelV y u)(rv:RelV v r)(h:∀s',Inv X pins σ H' s'->Q () s') :
  wpAny (model X.prog X.w) A (setItem (.ref a) u r) Q E s:=by
 rcases g with⟨kvs,k,e,ey,l,eH⟩ | ⟨kvs,k,b,e,ey,eb,l,eH⟩
 ·subst ey eH
  obtain⟨z,hd,vs,rel,dd⟩:=ZrP I.hok e;have hz:vs.length<=sizeLine:=by rw[<-rel.length]; exact z
  have hl:(putK kvs k v).length<=sizeLine:=by have:=ZhB kvs k v; omega
  refine wpAny_setItem_pairs (hsz:=hz) (ZiC ry) dd λh' dd' hs=>h _ ?_;have he:∃q,h'.get? a=some q:=let ⟨q,_,_,hq,_⟩:=dd'; ⟨q,hq⟩
  exact ZjT I (by rw[e]; exact ZCr) hs he (Ztf hl hd (rel.put k rv) dd')
 ·subst ey eH
  cases(show u=ZAo b from ry);obtain⟨z,hd,xs,rel,dd⟩:=Zvk I.hok e;have hz:xs.length<=sizeLine:=by rw[<-ZBX rel]; exact z
  have hl:(putK kvs k v).length<=sizeLine:=by have:=ZhB kvs k v; omega
  refine wpAny_setItem_heap (hsz:=hz) (ZBD hu) (ZgK I.hok eb) dd λh' dd' hs=>h _ ?_;obtain⟨q,es,ep,hq,h2,h3,h4,_,h5⟩:=dd';refine ZjT I (by rw[e]; exact ZCr) hs ⟨q,hq⟩ ⟨hl,hd,_,(rel.put k eb rv).keeps λc ys ec=>?_,q,es,ep,hq,h2,h3,h4,h5⟩;rw[ZD (Zvn ec e (λz=>nomatch z))];exact ec
end
section
variable{X:Cx}{pins:List (Addr × Obj)}{σ:St}{H:Hp}{s:Shared}{a:Addr}{kvs:List (Key × V)}{k:Key}{u:Value}{A:Around}{E:Value->Shared->Prop}
theorem Zx7{Q:Value->Shared->Prop}(I:Inv X pins σ H s)(e:Rd H a (.dK kvs))(h:∀t s',Inv X pins σ H s'->Q (.int kvs.length t) s'):wpAny (model X.prog X.w) A (call (.builtin "len") [.ref a]) Q E s:=by obtain⟨z,hd,vs,rel,dd⟩:=Zg4 I.hok e;refine call_len_dict hd dd (by rw[<-rel.length]; rw[ZAT]at z; omega) ?_;rw[<-rel.length];exact h _ _ (I.tok _)
end
def Zo2(i:Expr):Prop:=∀ov iv,ZD1 i false ov iv=operate [ov,iv] (getItem ov iv)
theorem Zvy{prog:Program}{w:World}{A:Around}{E:Value->Shared->Prop}{s:Shared}{env:Env}{value slice:Expr}{pos:Pos}{T id:String}{Q:Value->Shared->Prop}
  (hl:typeLookup (.type T) "__getitem__" = pure (some (.builtin id))) (hs:Zo2 slice)
  (h:wpAny (model prog w) A (eval value env) (λo s₁=>wpAny (model prog w) A (eval slice env) (λi s₂=>s₂.TypeIs o T/\wpAny (model prog w) A (getItem o i) Q E s₂) E s₁) E s) :
  wpAny (model prog w) A (eval (.Subscript value slice pos) env) Q E s:=by
 refine Subscript_ (ZAK h (λo s₁ h₁=>ZAK h₁ (λi s₂ h₂=>?_) λ_ _ x=>x) λ_ _ x=>x);obtain⟨hT,h₂⟩:=h₂;unfold subscriptTail;refine Zzq ?_;rw[getitemInPython_of_ne hT.not_modules];refine Zzq (wpAny_specialOf hT hl ?_);have fin:wpAny (model prog w) A (ZD1 slice false o i) (λr s₃=>wpAny (model prog w) A (letTemporaryGo value o r >>= λ_=>pure r) Q E s₃) E s₂:=by rw[hs o i];exact wpAny_operating (ZAK h₂ (λr s₃ h₃=>Zzq (wpAny_letTemporaryGo (Zzv h₃))) λ_ _ x=>x)
 first
  | exact Zzv (Zzq fin)
  | exact Zzq (Zzv (Zzq fin))
  | exact Zzq fin
theorem Zqc{X:Cx}{pins:List (Addr × Obj)}{σ:St}{H:Hp}{s:Shared}{a:Addr}{y:V}{o:Option V}(I:Inv X pins σ H s)(g:Zcm H a y o):s.TypeIs (.ref a) "dict":=by
 rcases g with⟨kvs,k,e,_,_⟩ | ⟨kvs,k,b,e,_,_,_⟩
 ·obtain⟨_,_,vs,_,dd⟩:=Zg4 I.hok e
  exact dd.typeIs
 ·obtain⟨_,_,xs,_,dd⟩:=Ziz I.hok e
  exact dd.typeIs
def Zyj(td ty:TE):TE:=λσ H Q=>td σ H λx H1=>ty σ H1 λy H2=>∃a v,x=.ref a/\Zcm H2 a y (some v)/\Q v H2
def ZyU(ty td:TE):TE:=λσ H Q=>ty σ H λy H1=>td σ H1 λx H2=>∃a o,x=.ref a/\Zcm H2 a y o/\Q (.bl o.isSome) H2
def ZvW(ty td:TE):TE:=λσ H Q=>ty σ H λy H1=>td σ H1 λx H2=>∃a o,x=.ref a/\Zcm H2 a y o/\Q (.bl (!o.isSome)) H2
def Zya(td ty tv:TE):TS:=λD σ H=>tv σ H λv H1=>td σ H1 λx H2=>ty σ H2 λy H3=>∃a H4,x=.ref a/\ZiM H3 a y v H4/\D.nx σ H4
section
variable{X:Cx}{o i e value:Expr}{pos pos' tpos:Pos}{td ty tv:TE}
theorem ZlR(hu:X.A.units+1<cLine)(ho:PE X o td)(hi:PE X i ty)(hs:Zo2 i):PE X (.Subscript o i pos) (Zyj td ty):=by intro pins s σ H Q I h;refine Zvy PySem.F.slot_dict_getitem.lookup hs (thn (ho pins s σ H _ I h) λu s1 ⟨x,H1,I1,rx,q1⟩=>thn (hi pins s1 σ H1 _ I1 q1) λiv s2 ⟨y,H2,I2,ry,a,v,ex,g,q2⟩=>?_);subst ex;obtain rfl:u=ZAo a:=rx;exact⟨Zqc I2 g,ZsP hu I2 g ry λw' s3 I3 rw'=>⟨v,H2,I3,rw',q2⟩⟩
theorem ZxK(hu:X.A.units+1<cLine)(hi:PE X i ty)(ho:PE X o td):PC X .In i o (ZyU ty td):=by intro pins s σ H Q I h;refine thn (hi pins s σ H _ I h) λiv s1 ⟨y,H1,I1,ry,q1⟩=>thn (ho pins s1 σ H1 _ I1 q1) λu s2 ⟨x,H2,I2,rx,a,ov,ex,g,q2⟩=>?_;subst ex;obtain rfl:u=ZAo a:=rx;exact ZyI hu I2 g ry λs3 I3=>⟨.bl ov.isSome,H2,I3,rfl,q2⟩
theorem Zmo(hu:X.A.units+1<cLine)(hi:PE X i ty)(ho:PE X o td):PC X .NotIn i o (ZvW ty td):=by intro pins s σ H Q I h;refine thn (hi pins s σ H _ I h) λiv s1 ⟨y,H1,I1,ry,q1⟩=>thn (ho pins s1 σ H1 _ I1 q1) λu s2 ⟨x,H2,I2,rx,a,ov,ex,g,q2⟩=>?_;subst ex;obtain rfl:u=ZAo a:=rx;exact Zv5 hu I2 g ry λs3 I3=>⟨.bl (!ov.isSome),H2,I3,rfl,q2⟩
theorem ZlW(hu:X.A.units+1<cLine)(ho:PE X o td)(hi:PE X i ty)(hv:PE X value tv)(hs:ZBC value (some (.Subscript o i pos')) pos.line X.env=pure false) :
  PS X (.Assign [.Subscript o i pos'] value pos) (Zya td ty tv):=by
 intro pins s σ H D I h;refine wpAny_Assign_Subscript (thn (hv pins s σ H _ I h) λr s1 ⟨v,H1,I1,rv,q1⟩=>thn (ho pins s1 σ H1 _ I1 q1) λu s2 ⟨x,H2,I2,rx,q2⟩=>thn (hi pins s2 σ H2 _ I2 q2) λiv s3 ⟨y,H3,I3,ry,a,H4,ex,g,q3⟩=>?_) hs;subst ex;obtain rfl:u=ZAo a:=rx;exact Ztr hu I3 g ry rv λs4 I4=>⟨σ,H4,I4,q3⟩
end
theorem Zpq{P:Program}{w:World}{H:Hp}(h:Heap)(hb:ZA1<h.objs.size):Zah P w H (h.push { cls:=.type "dict",data:=.dict #[] }) h.objs.size (.dK []) :=
 ⟨ZAP _,beq_eq_false_iff_ne.mpr (ZAx (ZzQ hb)),[],.nil,Heap.DictOf.new h⟩
theorem ZuJ{P:Program}{w:World}{H:Hp}(h:Heap)(hb:ZA1<h.objs.size):Zah P w H (h.push { cls:=.type "dict",data:=.dict #[] }) h.objs.size (.dT []) :=
 ⟨ZAP _,beq_eq_false_iff_ne.mpr (ZAx (ZzQ hb)),[],.nil,_,#[],0,ZzM _ rfl,⟨rfl,rfl,rfl⟩,rfl,rfl,ZA9⟩
def Zxd:TE:=λ_ H Q=>∀p,H p=none->Q (.ref p) (upd H p (.dK []))
def ZwT:TE:=λ_ H Q=>∀p,H p=none->Q (.ref p) (upd H p (.dT []))
section
variable{X:Cx}{pos:Pos}
theorem ZuG:PE X (.Dict [] [] pos) Zxd:=λpins s σ H Q I h=>wpAny_Dict_empty ⟨.ref s.heap.objs.size,_,I.laid (a:=s.heap.objs.size) (o:=.dK []) (t':=s.toks) (λ_ _ q=>Zzy _ q) (ZzB _) (Zpq s.heap I.big),rfl,h _ (I.hok.fresh (ZzB _))⟩
theorem Zor:PE X (.Dict [] [] pos) ZwT:=λpins s σ H Q I h=>wpAny_Dict_empty ⟨.ref s.heap.objs.size,_,I.laid (a:=s.heap.objs.size) (o:=.dT []) (t':=s.toks) (λ_ _ q=>Zzy _ q) (ZzB _) (ZuJ s.heap I.big),rfl,h _ (I.hok.fresh (ZzB _))⟩
end
def Zpp:List (TE × TE)->St->Hp->(List (V × V)->Hp->Prop)->Prop
 | [],_,H,Q=>Q [] H
 | (tk,tv)::r,σ,H,Q=>tk σ H λx H1=>tv σ H1 λy H2=>Zpp r σ H2 λps H3=>Q ((x,y)::ps) H3
abbrev VV:List (V × V)->List (Value × Value)->Prop:=Paired λp q=>RelV p.1 q.1/\RelV p.2 q.2
def PPs(X:Cx)(pos:Pos)(keys:List (Option Expr))(values:List Expr)(trs:List (TE × TE)):Prop :=
 ∀(pins:List (Addr × Obj)) (s:Shared) (σ:St) (H:Hp) (Q:List (V × V)->Hp->Prop),Inv X pins σ H s->Zpp trs σ H Q ->
  wpAny (model X.prog X.w) X.A (evalPairs (pairTrees keys values X.env pos)) (λvs s'=>∃ps H',Inv X pins σ H' s'/\VV ps vs/\Q ps H') X.xe s
theorem Zv6{X:Cx}{pos:Pos}:PPs X pos [] [] []:=λpins s σ H Q I h=>pairTrees_nil_walk ⟨[],H,I,.nil,h⟩
theorem Zux{X:Cx}{pos:Pos}{k v:Expr}{ks:List (Option Expr)}{vs:List Expr}{tk tv:TE}{trs:List (TE × TE)}(hk:PE X k tk)(hv:PE X v tv)(hr:PPs X pos ks vs trs) :
  PPs X pos (some k::ks) (v::vs) ((tk,tv)::trs):=λpins s σ H Q I h =>
 pairTrees_cons_walk (thn (hk pins s σ H _ I h) λu s1 ⟨x,H1,I1,rx,q1⟩=>thn (hv pins s1 σ H1 _ I1 q1) λw2 s2 ⟨y,H2,I2,ry,q2⟩=>thn (hr pins s2 σ H2 _ I2 q2) λws s3 ⟨ps,H3,I3,rel,q3⟩=>⟨(x,y)::ps,H3,I3,.cons ⟨rx,ry⟩ rel,q3⟩)
def ZhS(kvs more:List (Key × V)):List (Key × V):=more.foldl (λacc kv=>putK acc kv.1 kv.2) kvs
theorem KV.merge:∀{more:List (Key × V)} {rs:List (Key × Value)} {kvs:List (Key × V)} {vs:List (Key × Value)},KV more rs->KV kvs vs->KV (ZhS kvs more) (merged vs rs):=by
 intro more rs kvs vs r;unfold KV at r
 induction r generalizing kvs vs with
 | nil=>intro q; exact q
 | @cons p q ps qs h t ih =>
  intro r0;have e:KV (putK kvs p.1 p.2) (stored vs q.1 q.2):=by have:=r0.put p.1 h.2;rw[<-h.1]; exact this
  exact ih e
theorem ZiV:∀(more kvs:List (Key × V)),(ZhS kvs more).length<=kvs.length+more.length
 | [],kvs=>by show kvs.length<=kvs.length+0; omega
 | p::r,kvs=>by have h1:=ZiV r (putK kvs p.1 p.2);have h2:=ZhB kvs p.1 p.2;show(ZhS (putK kvs p.1 p.2) r).length<=_;rw[ZzG]; omega
theorem Zll{P:Program}{w:World}:∀{kvs:List (Key × V)} {ws:List (Value × Value)},VV (kvs.map λkv=>(kV kv.1,kv.2)) ws->∃rs,Carries (Zay P w) ws rs/\KV kvs rs
 | [],_,r=>by rw[ZBf]at r; cases r; exact⟨[],ZCr,.nil⟩
 | p::kvs,_,r=>by
  rw[Zzw]at r;cases r with
  | @cons a b as bs h t=>obtain⟨rs,c,q⟩:=Zll (P:=P) (w:=w) t;obtain⟨b1,b2⟩:=b;exact⟨(p.1,b2)::rs,⟨ZiC h.1,rfl,c⟩,.cons ⟨rfl,h.2⟩ q⟩
def Zyh(trs:List (TE × TE)):TE:=λσ H Q=>∀p,H p=none->Zpp trs σ (upd H p (.dK [])) λps H2=>H2 p=some (.dK [])/\∃kvs:List (Key × V),ps=kvs.map (λkv=>(kV kv.1,kv.2))/\kvs.length<=15/\Q (.ref p) (upd H2 p (.dK (ZhS [] kvs)))
theorem ZvQ{X:Cx}{pos:Pos}{keys:List (Option Expr)}{values:List Expr}{trs:List (TE × TE)}(h:PPs X pos keys values trs)(hall:keys.all (·.isSome)=true)(hl:keys.length=values.length)(h0:keys≠[])
  (h15:keys.length<=15):PE X (.Dict keys values pos) (Zyh trs):=by
 intro pins s σ H Q I q;have hn:=I.hok.fresh (ZzB s.heap.objs.size);have I1:=I.laid (a:=s.heap.objs.size) (o:=.dK []) (h':=s.heap.push { cls:=.type "dict",data:=.dict #[] }) (t':=s.toks) (λ_ _ q=>Zzy _ q) (ZzB _) (Zpq s.heap I.big);refine wpAny_Dict_walk (knd:=Zay X.prog X.w) hall hl h0 h15 (thn (h pins _ σ _ _ I1 (q _ hn)) λws s2 ⟨ps,H2,I2,rel,e,kvs,ep,lk,q2⟩=>?_);subst ep;obtain⟨rs,c,rk⟩:=Zll (P:=X.prog) (w:=X.w) rel;obtain⟨z,hd,vs0,r0,dd⟩:=ZrP I2.hok e;cases r0;refine⟨rs,c,dd,λh' dd' hs=>⟨.ref s.heap.objs.size,_,?_,rfl,q2⟩⟩;have hz:(ZhS [] kvs).length<=sizeLine:=by have h1:=ZiV kvs [];rw[ZDT]at h1;rw[ZAT]; omega
 have he:∃q,h'.get? s.heap.objs.size=some q:=let ⟨q,_,_,hq,_⟩:=dd'; ⟨q,hq⟩
 exact ZjT I2 (by rw[e]; exact ZCr) hs he (Ztf hz hd (rk.merge .nil) dd')
structure M2(X:Cx)(o:Expr)(m:Str)(apos:Pos)(e f:Expr)(cpos:Pos):Prop where
 base:ZBI o m X.env (eval o X.env)=eval o X.env
 few:((backTo cpos (ZzC [e,f] X.env)).all (λx=>!x.1)&&(ZDH cpos (ZCG [] X.env)).all (λx=>x.1.isSome)
  && decide (([e,f]:List Expr).length+([]:List Keyword).length+(if([]:List Keyword).isEmpty then 0 else 1)<30))=true
 line:(apos.endLine==cpos.line)=true
 trees:backTo cpos (ZzC [e,f] X.env)=[(false,eval e X.env),(false,eval f X.env)]
def IsD(H:Hp)(a:Addr):Prop:=(∃kvs,Rd H a (.dK kvs))\/∃kvs,Rd H a (.dT kvs)
theorem Zts{X:Cx}{pins:List (Addr × Obj)}{σ:St}{H:Hp}{s:Shared}{a:Addr}(I:Inv X pins σ H s)(d:IsD H a) :
  s.TypeIs (.ref a) "dict"/\(∀b,ZAo a=.ref b->∃ob,s.heap.get? b=some ob/\ob.dict=none)/\(a==ZA1)=false:=by
 rcases d with⟨kvs,e⟩ | ⟨kvs,e⟩
 ·obtain⟨_,hd,vs,_,dd⟩:=Zg4 I.hok e
  refine⟨dd.typeIs,λb q=>?_,hd⟩;cases q;obtain⟨ob,_,_,h1,h2,_⟩:=dd;exact⟨ob,h1,h2.2.1⟩
 ·obtain⟨_,hd,xs,_,dd⟩:=Ziz I.hok e
  refine⟨dd.typeIs,λb q=>?_,hd⟩;cases q;obtain⟨ob,_,_,h1,h2,_⟩:=dd;exact⟨ob,h1,h2.2.1⟩
section
variable{X:Cx}{pins:List (Addr × Obj)}{σ:St}{H:Hp}{s:Shared}{a:Addr}{y d:V}{u r:Value}{o:Option V}{A:Around}{E:Value->Shared->Prop}
theorem Zxp{Q:Value->Shared->Prop}(hu:A.units+1<cLine)(I:Inv X pins σ H s)(g:Zcm H a y o)(ry:RelV y u)(rd:RelV d r)(h:∀w' s',Inv X pins σ H s'->RelV (o.getD d) w'->Q w' s') :
  wpAny (model X.prog X.w) A (call (.builtin "dict.get") [.ref a,u,r]) Q E s:=by
 rcases g with⟨kvs,k,e,ey,l⟩ | ⟨kvs,k,b,e,ey,eb,l⟩
 ·subst ey
  obtain⟨z,hd,vs,rel,dd⟩:=Zg4 I.hok e;refine call_meetsIn ZCR dd.typeIs ZD2 (ZDO _ _ _) (meets_dict_get_default (Zay X.prog X.w) a (ZiC ry) hd r) ⟨_,dd.mapOf,h _ _ (I.tok _) ?_⟩;rw[l];exact(rel.val k).getD rd
 ·subst ey
  cases(show u=ZAo b from ry);obtain⟨z,hd,xs,rel,dd⟩:=Ziz I.hok e;refine call_meetsIn ZCR dd.typeIs ZD2 (ZDO _ _ _) (meetsH_dict_get_default (ZCi (Zay X.prog X.w)) a b hd r) ⟨ZBD hu,k,xs,ZgK I.hok eb,dd,h _ _ (I.tok _) ?_⟩;rw[l];exact(rel.val k).getD rd
end
def Zxl(td ty tx:TE):TE:=λσ H Q=>td σ H λx H1=>∃a,x=.ref a/\IsD H1 a/\ty σ H1 λy H2=>tx σ H2 λz H3=>∃o,Zcm H3 a y o/\Q (o.getD z) H3
section
variable{X:Cx}{o e f:Expr}{apos cpos:Pos}{td ty tx:TE}
theorem Zuo(hu:X.A.units+1<cLine)(ho:PE X o td)(he:PE X e ty)(hf:PE X f tx)(m:M2 X o "get" apos e f cpos):PE X (.Call (.Attribute o "get" apos) [e,f] [] cpos) (Zxl td ty tx):=by intro pins s σ H Q I h;refine wpAny_Call_method m.base m.few m.line ZDP ZCR PySem.F.type_dict_get (thn (ho pins s σ H _ I h) λu s1 ⟨x,H1,I1,rx,a,ex,d,q1⟩=>?_);subst ex;obtain rfl:u=ZAo a:=rx;obtain⟨t1,t2,_⟩:=Zts I1 d;refine⟨t1,t2,?_⟩;rw[m.trees];refine ZB0 rfl (ZCX (ZBY (thn (he pins s1 σ H1 _ I1 q1) λiv s2 ⟨y,H2,I2,ry,q2⟩=>ZBY (thn (hf pins s2 σ H2 _ I2 q2) λfv s3 ⟨z,H3,I3,rz,ov,g,q3⟩=>ZDt ?_))));exact Zxp hu I3 g ry rz λw' s4 I4 rw'=>⟨_,H3,I4,rw',q3⟩
end
end L2
namespace Att
open PySem PySem.W PySem.Calls PyProof.Rows
theorem Zls{P:Params}{h:Heap}:∀(ns:List Int) (vs:List Value),WellAll P h vs (ns.map WData.int)->IntsAre vs ns:=by
 intro ns
 induction ns with
 | nil=>intro vs w;rw[ZBf]at w;cases w;exact .nil
 | cons n ns ih =>
  intro vs w;rw[Zzw]at w;cases w with
  | cons a b=>cases a;exact .cons _ _ (ih _ b)
theorem Ztu{l:OpenLaw}{n:Nat}(hn:l.most=some n){P:Params}{h:Heap}{args:List WData}{vals:List Value}
  (hpre:l.row.toRowW.claim.pre args=true) (hwl:WellAll P h vals args) :
  ∃a vs ns,vals=[ZAo a]/\args=[WData.list (ns.map WData.int)]/\h.get? a=some { cls:=.type "list",data:=.seq vs.toArray }/\IntsAre vs ns/\ns.length<=n:=by
 have hsh:WShape.hasAll [] args [.list .int]=true:=(pre_splitW hpre).1;have hc:l.pre.holds [] { args:=args }=true:=(pre_splitW hpre).2;obtain⟨d,r,rfl,h1,h2⟩:=hasAllW_cons hsh;obtain rfl:=hasAllW_nil h2;obtain⟨xs,rfl,h3⟩:=hasW_list h1;obtain⟨ns,rfl⟩:=items_int h3;have hlen:ns.length<=n:=by
  unfold OpenLaw.pre at hc;have h4:(WTm.not (.lt (.lit (.int (n:Int))) (.len (.arg 0)))).holds [] { args:=[.list (ns.map .int)] }=true:=by have h4:=(holds_andW hc).1;rw[hn]at h4;exact h4
  have h5:=condW_of h4 (w_not (w_lt w_lit (w_len_list (w_arg rfl))));rw[Zzr]at h5;refine ZB9 λq=>?_;have q':(n:Int)<((ns.length:Nat):Int):=by omega
  first
   | (rw[decide_eq_true q']at h5; exact absurd h5 (by decide))
   | (simp at h5; omega)
 cases hwl with
 | cons w1 w2 =>
  cases w2;cases w1 with
  | list ho hall=>exact⟨_,_,ns,rfl,rfl,ho,Zls ns _ hall,hlen⟩
theorem Ztk(l:OpenLaw)(args:List WData):l.row.toRowW.claim.post args (.bool true) args=true :=
 postW_of (r:=l.row.toRowW) (X:=(true==true))
  (show WShape.has [] (.bool true) .bool=true by first | rfl | decide | simp[WShape.has,WShape.arms,WShape.armsAll])
  (show(WTm.eq .res (.lit (.bool true))).value [] { args:=args,res:=some (.bool true),after:=args }=some (.bool (true==true)) from w_eq_bool (w_res rfl) w_lit) rfl
theorem Zqg{l:OpenLaw}{n:Nat}{q:Program}{loose:List Str}{XP:(Str->Option Value)->Heap->Prop}{YP:World->Heap->Prop}{d:DefRec}
  (hn:l.most=some n) (hdf:d.params.defaults=[])
  (call:∀(w:World) (s₀ s₁:Shared) (mg mb:Str->Option Value) (fa:Addr) (o:Obj) (pm cd doc:Value) (a:Addr) (vs:List Value) (ns:List Int),
   Ground q loose [] XP w s₀ mg mb s₁.heap->YP w s₁.heap ->
   s₁.heap.get? fa=some o->o.data=.func (docDef d.name d.params d.body d.scope pm cd doc)->s₁.heap.CodeRec cd d.name->mg d.name=some (.ref fa) ->
   s₁.heap.get? a=some { cls:=.type "list",data:=.seq vs.toArray }->IntsAre vs ns->ns.length<=n->s₁.gens=#[] ->
   codeAny (model l.prog w) callerA (.call (.ref fa) ⟨[.ref a],[]⟩) (λr s'=>r=.ok (.ret (.bool true))/\OldK s₁.heap s'.heap/\s'.os=s₁.os/\AllBare s'.gens) s₁) :
  WalkO q loose XP YP l.row.toRowW d [] (λf vs=>PySem.call f vs):=by
 intro w s₀ s₁ mg mb G Y fa o pm cd doc dV kV ho hd hcd hD hmg hg args vals as hpre hlay hrd hwl hlo;obtain rfl:dV=.none:=Dflts.none hD hdf;obtain rfl:kV=.none:=Dflts.noKw hD;obtain⟨a,vs,ns,rfl,rfl,hobj,hints,hlen⟩:=Ztu hn hpre hwl;refine enter_call (ZBr (call w s₀ s₁ mg mb fa o pm cd doc a vs ns G Y ho (fd_plain hd) hcd hmg hobj hints hlen hg) λr s' hq=>?_);obtain⟨rfl,h2,h3,h4⟩:=hq;exact⟨.inl ⟨.bool true,.bool true,[],rfl,λ_=>rfl,.bool true,Ztk l _,λ_=>⟨List.Pairwise.nil,λ_ hm=>(nomatch hm)⟩⟩,h2,h3,h4⟩
end Att
namespace L2
open PySem PySem.Spec PyProof.Rows
theorem Zmw:∀{vs:List Value} {ns:List Int},IntsAre vs ns->Vals (ns.map V.int) vs
 | _,_,.nil=>.nil
 | _,_,.cons n t h=>.cons ⟨t,rfl⟩ (Zmw h)
end L2
namespace L2
open PySem PySem.Spec PyProof.Rows
end L2
namespace L2
open PySem PySem.Spec PyProof.Rows
def Zcs(s:Stmt):Arguments:=match s with
 | .FunctionDef _ a _ _ _ _ _ _ _ _=>a
 | _=>{ posonlyargs:=[],args:=[],vararg:=none,kwonlyargs:=[],kw_defaults:=[],kwarg:=none,defaults:=[] }
def Za1(s:Stmt):List Stmt:=match s with
 | .FunctionDef _ _ b _ _ _ _ _ _ _=>b
 | _=>[]
def Zf(s:Stmt):Scope:=match s with
 | .FunctionDef _ _ _ _ _ _ sc _ _ _=>sc
 | _=>{ kind:=.function,names:=[],isGenerator:=false,isCoroutine:=false }
abbrev CX0:CXT:=λ_ _ _ _ _ _=>False
abbrev E0:XK:=λ_ _ _=>False
theorem Znr{X:Cx}:Passes CX0 X E0:=λ_ _ _ _ _ _ _ h=>h.elim
structure Fun(K:Zzp)(x qual:Str)(st:Stmt)(f:Addr)(fd:FuncData):Prop where
 ex:∃(oc:Value) (od:Option Addr) (kV doc pm:Value) (an:Option Addr) (cdv ct:Value) (osl:Array (Option Value)),
  fd=ZAN x qual (Zcs st) (Za1 st) (Zf st) .none kV doc pm an cdv ct/\K.lookup f=some ⟨oc,od,.func fd,osl⟩/\ZBA K cdv qual=true
 kp:ZAU K (.ref f)=true
section
variable{P:Program}{w:World}{K:Zzp}{mg:Str->Option Value}{base:Heap}
theorem Fun.ok{x qual:Str}{st:Stmt}{f:Addr}{fd:FuncData}{N ps:List Str}{k:Nat}{sp:Sp}(F:Fun K x qual st f fd)(S:Zx N ps (Zf st))(len:∀vs H Q E,sp vs H Q E->vs.length=ps.length)
  (hbody:∀(cdv:Value) (A:Around) (outer:List Env) (s:Shared) (H:Hp) (vs:List V) (Q:VK) (E:XK),Zal k (A.deeper (envOfC qual (Zf st) s.heap.objs.size f cdv))->sp vs H Q E ->
   ∃t,PSs (ZgM CX0 P w K mg base N qual (Zf st) f cdv A outer s H E).nox (Za1 st) t/\t { nx:=λ_ H'=>Q .non H',rt:=Q } (start N vs) H):ZdK P w K mg base CX0 (k+1) f fd ps sp:=by
 obtain⟨oc,od,kV,doc,pm,an,cdv,ct,osl,rfl,lk,hcd⟩:=F.ex;refine Zvg lk hcd S len λA outer s H vs Q E hr hsp=>?_;obtain⟨t,h,q⟩:=hbody cdv A outer s H vs Q E hr hsp;exact⟨t,h.nox,q⟩
theorem Fun.binds{x qual:Str}{st:Stmt}{f:Addr}{fd:FuncData}{ps:List Str}(F:Fun K x qual st f fd)
  (h:∀(kV doc pm:Value) (an:Option Addr) (cdv ct:Value) (us:List Value),us.length=ps.length->bindArgs (ZAN x qual (Zcs st) (Za1 st) (Zf st) .none kV doc pm an cdv ct) ⟨us,[]⟩=pure (ps.zip us)):Binds K fd ps []:=by
 obtain⟨oc,od,kV,doc,pm,an,cdv,ct,osl,rfl,lk,hcd⟩:=F.ex;exact .all (h kV doc pm an cdv ct)
theorem ZoL{x qual:Str}{st:Stmt}{f:Addr}{oc:Value}{od an:Option Addr}{osl:Array (Option Value)}{kV doc pm cdv ct:Value}(l:K.lookup f=some ⟨oc,od,.func (ZAN x qual (Zcs st) (Za1 st) (Zf st) .none kV doc pm an cdv ct),osl⟩)
  (c:ZBA K cdv qual=true) (k:ZAU K (.ref f)=true):Fun K x qual st f (ZAN x qual (Zcs st) (Za1 st) (Zf st) .none kV doc pm an cdv ct):=⟨⟨oc,od,kV,doc,pm,an,cdv,ct,osl,rfl,l,c⟩,k⟩
end
theorem ZK{A:Around}{k:Nat}(hr:Zal k A):A.units+1<cLine:=Nat.lt_of_le_of_lt (Nat.add_le_add_left (by decide:1<=64) _) hr.units
theorem ZkQ{A B:Prop}(h:B):if false=true then A else B:=by rw[if_neg ZAb];exact h
theorem ZkN{A B:Prop}(h:A):if true=true then A else B:=by rw[if_pos rfl];exact h
def Zs(H H':Hp):Prop:=∀b o,H b=some o->H' b=some o
theorem Zs.refl(H:Hp):Zs H H:=λ_ _ h=>h
theorem Zs.trans{H H1 H2:Hp}(a:Zs H H1)(b:Zs H1 H2):Zs H H2:=λc o h=>b c o (a c o h)
theorem Zs.free{H H':Hp}(e:Zs H H'){l:Addr}(h:H' l=Option.none):H l=Option.none:=by
 cases q:H l with
 | none=>rfl
 | some o=>rw[e l o q]at h;cases h
theorem Zs.seq{K:Zzp}{H H':Hp}{a:Addr}{xs:List V}(e:Zs H H')(h:SqL K H a xs):SqL K H' a xs:=by
 rcases h with(h | ⟨o,h⟩) | h
 ·exact .inl (.inl (e _ _ h))
 ·exact .inl (.inr ⟨o,e _ _ h⟩)
 ·exact .inr h
end L2
namespace L2
open PySem PySem.Spec PyProof.Rows
section
variable{X:Cx}
theorem Zsw:Zbe X (.builtin "len") (λxs H Q=>∃a kvs,xs=[V.ref a]/\H a=some (.dK kvs)/\Q (.int kvs.length) H):=by intro pins s σ H xs us Q I r h;obtain⟨a,kvs,rfl,ha,q⟩:=h;obtain⟨u,rfl,ru⟩:=vals1 r;cases ru;exact Zx7 I (.inl ha) λt s' I'=>⟨.int kvs.length,H,I',⟨t,rfl⟩,q⟩
end
end L2
namespace HM
open PySem
abbrev D:=PyData
abbrev Ky:=Sum Int Str
inductive B where
 | pl (d:D)
 | ol (ds:List D)
 | ok (kvs:List (Ky × D))
 | ot (kvs:List (List Ky × D))
 | otl (kvs:List (List Ky × List D))
 | hd (es:List (D × D))
abbrev Env:=List (Option B)
inductive Out where
 | nx (r:Env)
 | rt (d:D)
 | bk (r:Env)
 | ct (r:Env)
abbrev EF:=Env->Option D
abbrev BF:=Env->Option B
abbrev TF:=Env->Option Bool
abbrev IF:=Env->Option (List D)
abbrev AF:=Env->Option (List D)
abbrev SF:=Env->Option Out
@[simp] def big:Nat:=1000000
@[simp] def Za(i:Nat):EF:=λr=>match r[i]? with
 | some (some (.pl d))=>some d
 | _=>none
@[simp] def Zl(i:Nat):BF:=λr=>match r[i]? with
 | some (some b)=>some b
 | _=>none
@[simp] def bOf(f:EF):BF:=λr=>(f r).map B.pl
def ZaM:Ky->D
 | .inl i=>.int i
 | .inr x=>.str x
def Ze(kvs:List (List Ky × D)):List (D × D):=kvs.map λp=>(.tuple (p.1.map ZaM),p.2)
@[simp] def frz:B->Option D
 | .pl d=>some d
 | .ol ds=>some (.list ds)
 | .ot kvs=>some (.dict (Ze kvs))
 | .hd es=>some (.dict es)
 | _=>none
@[simp] def eOf(f:BF):EF:=λr=>(f r).bind frz
@[simp] def eC(d:D):EF:=λ_=>some d
@[simp] def op2(g:D->D->Option D)(a b:EF):EF:=λr=>match a r with
 | some x=>match b r with
  | some y=>g x y
  | none=>none
 | none=>none
@[simp] def ZfU(g:Int->Int->Option D):D->D->Option D
 | .int i,.int j=>g i j
 | _,_=>none
def Z6(i:Int):Bool:=Nat.blt i.natAbs 18446744073709551616
@[simp] def Zbk(x y:D):Option D:=ZfU (λi j=>some (.int (i+j))) x y
@[simp] def Zl4(x y:D):Option D:=ZfU (λi j=>some (.int (i-j))) x y
@[simp] def Zdp(x y:D):Option D:=ZfU (λi j=>if Z6 i||Z6 j then some (.int (i*j))else none) x y
@[simp] def Zu7(x y:D):Option D:=ZfU (λi j=>if 0<j then some (.int (i % j))else none) x y
@[simp] def gLt(x y:D):Option D:=ZfU (λi j=>some (.bool (decide (i<j)))) x y
@[simp] def gLe(x y:D):Option D:=ZfU (λi j=>some (.bool (decide (i<=j)))) x y
@[simp] def gGt(x y:D):Option D:=ZfU (λi j=>some (.bool (decide (j<i)))) x y
def Zag(d:D):Bool:=d.canLay0&&decide (d.depth<=60)
@[simp] def gEq(a b:D):Option D:=if Zag a&&Zag b then some (.bool (ZAr a b))else none
@[simp] def gNe(a b:D):Option D:=if Zag a&&Zag b then some (.bool (!PyData.eqv a b))else none
@[simp] def ZkX(a b:D):Option D:=match b with
 | .none=>match a with
  | .none=>some (.bool true)
  | _=>some (.bool false)
 | _=>none
@[simp] def Zgb(a b:D):Option D:=match b with
 | .none=>match a with
  | .none=>some (.bool false)
  | _=>some (.bool true)
 | _=>none
@[simp] def ZfH(g g':D->D->Option D)(a b c:EF):EF:=λr=>match a r with
 | some x=>match b r with
  | some y=>match g x y with
   | some (.bool true)=>match c r with
    | some z=>g' y z
    | none=>none
   | some (.bool false)=>some (.bool false)
   | _=>none
  | none=>none
 | none=>none
@[simp] def Zuh(a:EF):EF:=λr=>match a r with
 | some (.bool b)=>some (.bool (!b))
 | _=>none
@[simp] def ZgI(a b:EF):EF:=λr=>match a r with
 | some (.bool true)=>b r
 | some (.bool false)=>some (.bool false)
 | _=>none
@[simp] def tV(a:EF):TF:=λr=>match a r with
 | some (.bool b)=>some b
 | _=>none
@[simp] def Zb7(a:TF):TF:=λr=>(a r).map (!·)
@[simp] def ZhC(a b:TF):TF:=λr=>match a r with
 | some true=>b r
 | some false=>some false
 | none=>none
@[simp] def tOr(a b:TF):TF:=λr=>match a r with
 | some true=>some true
 | some false=>b r
 | none=>none
@[simp] def eIf(c:TF)(a b:EF):EF:=λr=>match c r with
 | some true=>a r
 | some false=>b r
 | none=>none
@[simp] def Zbo:B->Option (List D)
 | .pl (.tuple ds)=>some ds
 | .pl (.list ds)=>some ds
 | .ol ds=>some ds
 | _=>none
def ixN(n:Nat)(i:Int):Option Nat :=
 if 0<=i then(if i<n then some i.toNat else none)else(if -(n:Int)<=i then some (i+n).toNat else none)
def atD(ds:List D)(i:Int):Option D:=match ixN ds.length i with
 | some j=>ds[j]?
 | none=>none
@[simp] def eIx(a:BF)(b:EF):EF:=λr=>match a r with
 | some x=>match Zbo x with
  | some ds=>match b r with
   | some (.int i)=>atD ds i
   | _=>none
  | none=>none
 | none=>none
@[simp] def ZyV:B->Option Nat
 | .pl (.tuple ds)=>some ds.length
 | .pl (.list ds)=>some ds.length
 | .ol ds=>some ds.length
 | .ok kvs=>some kvs.length
 | _=>none
@[simp] def Zaz(a:BF):EF:=λr=>match a r with
 | some x=>(ZyV x).map λ(n:Nat)=>Zz6 (n:Int)
 | none=>none
@[simp] def Zaq(a:BF):EF:=λr=>match a r with
 | some x=>(Zbo x).map λds=>.tuple ds
 | none=>none
@[simp] def Zh0(a:BF):BF:=λr=>match a r with
 | some x=>(Zbo x).map λds=>.ol ds
 | none=>none
def ZfJ:List D->Option (List Bool)
 | []=>some []
 | .bool b::r=>(ZfJ r).map (b::·)
 | _::_=>none
@[simp] def Zmg:B->Option (List D)
 | .pl (.list ds)=>some ds
 | .ol ds=>some ds
 | _=>none
@[simp] def ZjC(a:BF):EF:=λr=>match a r with
 | some x=>match Zmg x with
  | some ds=>(ZfJ ds).map λbs=>.bool (bs.all id)
  | none=>none
 | none=>none
@[simp] def Zm:AF:=λ_=>some []
@[simp] def Zc(a:EF)(b:AF):AF:=λr=>match a r with
 | some x=>(b r).map (x::·)
 | none=>none
@[simp] def ZcF(a:AF):EF:=λr=>(a r).map λds=>.tuple ds
@[simp] def Zfo(a:AF):BF:=λr=>(a r).map λds=>.ol ds
inductive Ty where
 | bool | int | str | tuple | list | dict
@[simp] def Ziy:Ty->D->Bool
 | .bool,.bool _=>true
 | .int,.int _=>true
 | .int,.bool _=>true
 | .str,.str _=>true
 | .tuple,.tuple _=>true
 | .list,.list _=>true
 | .dict,.dict _=>true
 | _,_=>false
@[simp] def ZdM(a:EF)(t:Ty):EF:=λr=>match a r with
 | some (.dict _)=>none
 | some d=>some (.bool (Ziy t d))
 | none=>none
@[simp] def Zr8(x y:D):Option D:=ZfU (λi j=>some (.int (if j > i then j else i))) x y
@[simp] def Zxy(x y:D):Option D:=ZfU (λi j=>some (.int (if j<i then j else i))) x y
@[simp] def Zpu(a:EF):EF:=λr=>match a r with
 | some (.int i)=>some (.int i)
 | some (.bool b)=>some (.int (if b then 1 else 0))
 | _=>none
@[simp] def Zmd(a b:BF):BF:=λr=>match a r with
 | some (.ol xs)=>match b r with
  | some (.ol ys)=>if xs.length+ys.length<big then some (.ol (xs++ys))else none
  | _=>none
 | _=>none
@[simp] def ZuM(a:BF)(b:EF):BF:=λr=>match a r with
 | some (.ol xs)=>match b r with
  | some (.int k)=>if decide (k.natAbs<1000)&&decide (xs.length<1000)then some (.ol (Zz3 k.toNat xs).flatten)else none
  | _=>none
 | _=>none
def sIx(n d:Nat):Option Int->Nat
 | none=>d
 | some v=>if v<0 then(v+(n:Int)).toNat else min v.toNat n
def cutD(xs:List D)(lo hi:Option Int):List D:=(xs.drop (sIx xs.length 0 lo)).take (sIx xs.length xs.length hi-sIx xs.length 0 lo)
@[simp] def ZrX(a:Option EF)(r:Env):Option (Option Int):=match a with
 | none=>some none
 | some f=>match f r with
  | some (.int i)=>some (some i)
  | _=>none
@[simp] def ZuR(a:BF)(lo hi:Option EF):BF:=λr=>match a r with
 | some x=>match Zmg x with
  | some xs=>match ZrX lo r with
   | some l=>match ZrX hi r with
    | some h=>some (.ol (cutD xs l h))
    | none=>none
   | none=>none
  | none=>none
 | none=>none
def ZaP:List D->Option (List Int)
 | []=>some []
 | .int i::r=>(ZaP r).map (i::·)
 | _::_=>none
def Zj8:List D->Option (List (List Int))
 | []=>some []
 | .tuple ds::r=>match ZaP ds with
  | some ns=>(Zj8 r).map (ns::·)
  | none=>none
 | _::_=>none
def lexLt:List Int->List Int->Bool
 | [],[]=>false
 | [],_::_=>true
 | _::_,[]=>false
 | a::r,b::q=>if a=b then lexLt r q else decide (a<b)
def sortI(ns:List Int):List Int:=ns.mergeSort λa b=>decide (a<=b)
def Zee(ts:List (List Int)):List (List Int):=ts.mergeSort λa b=>!lexLt b a
def ofInts(ns:List Int):List D:=ns.map λi=>Zz6 i
def ZfG(ts:List (List Int)):List D:=ts.map λt=>Zz1 (ofInts t)
def ZfC(ds:List D):Option (List D) :=
 if ds.length<64 then match ZaP ds with
  | some ns=>some (ofInts (sortI ns))
  | none=>match Zj8 ds with
   | some ts=>if ds.length<2||ts.all (λt=>!t.isEmpty)then some (ZfG (Zee ts))else none
   | none=>none
 else none
@[simp] def Zvq:B->Option (List D)
 | .pl (.tuple ds)=>some ds
 | .pl (.list ds)=>some ds
 | .ol ds=>some ds
 | .ok kvs=>some (kvs.map λp=>ZaM p.1)
 | .ot kvs=>some (kvs.map λp=>.tuple (p.1.map ZaM))
 | .otl kvs=>some (kvs.map λp=>.tuple (p.1.map ZaM))
 | _=>none
@[simp] def Zgi(a:BF):BF:=λr=>match a r with
 | some x=>match Zvq x with
  | some ds=>(ZfC ds).map λds=>.ol ds
  | none=>none
 | none=>none
def dedup:List Int->List Int->List Int
 | acc,[]=>acc
 | acc,i::r=>if acc.contains i then dedup acc r else dedup (acc++[i]) r
def Zrm(ns:List Int):Bool:=ns.all λn=>decide (0<=n)&&decide (n<8)
@[simp] def Zf7(a:BF):BF:=λr=>match a r with
 | some x=>match Zmg x with
  | some ds=>match ZaP ds with
   | some ns=>if Zrm ns then some (.ol (ofInts (sortI (dedup [] ns))))else none
   | none=>none
  | none=>none
 | none=>none
@[simp] def Zo(m:List D->Option D)(a:AF):EF:=λr=>match a r with
 | some ds=>m ds
 | none=>none
@[simp] def Z4(a:BF):IF:=λr=>match a r with
 | some x=>Zbo x
 | none=>none
def Zb4(lo:Int)(n:Nat):List D:=(ZzA n).map λ(k:Nat)=>Zz6 (lo+(k:Int))
def okR(j:Int):Bool:=Nat.blt j.natAbs 1000000
@[simp] def Zb8(a:EF):IF:=λr=>match a r with
 | some (.int j)=>if okR j then some (Zb4 0 j.toNat)else none
 | _=>none
@[simp] def ZjV(a b:EF):IF:=λr=>match a r with
 | some (.int i)=>match b r with
  | some (.int j)=>if okR i&&okR j then some (Zb4 i (j-i).toNat)else none
  | _=>none
 | _=>none
@[simp] def ZkJ(i:IF):EF:=λr=>match i r with
 | some ds=>if ds.length<big then some (.tuple ds)else none
 | none=>none
def ZaJ(c:TF)(e:EF)(r:Env):List D->Option (List D)
 | []=>some []
 | x::xs=>match c (some (.pl x)::r)with
  | some true=>match e (some (.pl x)::r)with
   | some y=>(ZaJ c e r xs).map (y::·)
   | none=>none
  | some false=>ZaJ c e r xs
  | none=>none
@[simp] def ZZ:TF:=λ_=>some true
@[simp] def ZM(i:IF)(c:TF)(e:EF):BF:=λr=>match i r with
 | some xs=>if xs.length<big then(ZaJ c e r xs).map λys=>.ol ys else none
 | none=>none
@[simp] def Zt(a b:SF):SF:=λr=>match a r with
 | some (.nx r')=>b r'
 | some (.rt d)=>some (.rt d)
 | some (.bk r')=>some (.bk r')
 | some (.ct r')=>some (.ct r')
 | none=>none
@[simp] def Zan:SF:=λr=>some (.nx r)
@[simp] def Zjz:SF:=λ_=>none
@[simp] def ZF(a:EF):SF:=λr=>(a r).map Out.rt
@[simp] def ZW(i:Nat)(a:EF):SF:=λr=>(a r).map λd=>.nx (r.set i (some (.pl d)))
@[simp] def Z1(i:Nat)(a:BF):SF:=λr=>(a r).map λb=>.nx (r.set i (some b))
@[simp] def ZlE(i:Nat)(r:Env):Env:=match r[i]? with
 | some (some (.ol ds))=>r.set i (some (.pl (.list ds)))
 | some (some (.ot kvs))=>r.set i (some (.pl (.dict (Ze kvs))))
 | _=>r
@[simp] def Zfi(i:Nat):SF->SF:=λa r=>a (ZlE i r)
@[simp] def ZrJ(a:EF):SF:=λr=>(a r).map λ_=>.nx r
@[simp] def sIf(c:TF)(a b:SF):SF:=λr=>match c r with
 | some true=>a r
 | some false=>b r
 | none=>none
def Z7(i:Nat)(body:SF):List D->Env->Option Out
 | [],r=>some (.nx r)
 | x::xs,r=>match body (r.set i (some (.pl x)))with
  | some (.nx r')=>Z7 i body xs r'
  | some (.ct r')=>Z7 i body xs r'
  | some (.bk r')=>some (.nx r')
  | some (.rt d)=>some (.rt d)
  | none=>none
@[simp] def ZaN(i:Nat)(it:IF)(body:SF):SF:=λr=>match it r with
 | some xs=>if xs.length<big then Z7 i body xs r else none
 | none=>none
def Za4(c:TF)(body:SF):Nat->Env->Option Out
 | 0,_=>none
 | n+1,r=>match c r with
  | some true=>match body r with
   | some (.nx r')=>Za4 c body n r'
   | some (.ct r')=>Za4 c body n r'
   | some (.bk r')=>some (.nx r')
   | some (.rt d)=>some (.rt d)
   | none=>none
  | some false=>some (.nx r)
  | none=>none
@[simp] def Zev(i:Nat)(a:EF):SF:=λr=>match r[i]? with
 | some (some (.ol ds))=>match a r with
  | some d=>if ds.length<big then some (.nx (r.set i (some (.ol (ds++[d])))))else none
  | none=>none
 | _=>none
@[simp] def Zrw(i:Nat)(k v:EF):SF:=λr=>match v r with
 | some d=>match r[i]? with
  | some (some (.ol ds))=>match k r with
   | some (.int n)=>match ixN ds.length n with
    | some j=>some (.nx (r.set i (some (.ol (ds.set j d)))))
    | none=>none
   | _=>none
  | _=>none
 | none=>none
def putD{k v:Type}[DecidableEq k](kvs:List (k × v))(x:k)(y:v):List (k × v) :=
 if(kvs.any λp=>decide (p.1=x))=true then kvs.map (λp=>if p.1=x then(p.1,y)else p)else kvs++[(x,y)]
def Zg{k v:Type}[DecidableEq k](kvs:List (k × v))(x:k):Option v:=(kvs.find? λp=>decide (p.1=x)).map (·.2)
@[simp] def ZiJ:D->Option Ky
 | .int i=>some (.inl i)
 | .str x=>some (.inr x)
 | _=>none
def Zhb:List D->Option (List Ky)
 | []=>some []
 | d::r=>match ZiJ d with
  | some k=>(Zhb r).map (k::·)
  | none=>none
def tkL:D->Option (List Ky)
 | .tuple ds=>Zhb ds
 | _=>none
def ZlX:List D->Option (List Ky)
 | []=>some []
 | .int i::r=>(ZlX r).map (ZBk i::·)
 | _::_=>none
def ZaT:D->Option (List Ky)
 | .tuple ds=>ZlX ds
 | _=>none
@[simp] def ZfT(i:Nat)(k v:EF):SF:=λr=>match v r with
 | some d=>match k r with
  | some x=>match r[i]? with
   | some (some (.ok kvs))=>match ZiJ x with
    | some y=>if kvs.length<big then some (.nx (r.set i (some (.ok (putD kvs y d)))))else none
    | none=>none
   | some (some (.ot kvs))=>match ZaT x with
    | some y=>if kvs.length<big then some (.nx (r.set i (some (.ot (putD kvs y d)))))else none
    | none=>none
   | _=>none
  | none=>none
 | none=>none
@[simp] def fDk:BF:=λ_=>some (.ok [])
@[simp] def fDt:BF:=λ_=>some (.ot [])
@[simp] def ZuT:BF:=λ_=>some (.otl [])
@[simp] def Zo4(k v:EF):BF:=λr=>match k r with
 | some x=>match v r with
  | some d=>match ZiJ x with
   | some y=>some (.ok [(y,d)])
   | none=>none
  | none=>none
 | none=>none
def ZbT{k v:Type}[DecidableEq k](kvs:List (k × List v))(x:k):List (k × List v):=match Zg kvs x with
 | some _=>kvs
 | none=>kvs++[(x,[])]
def ZdH{k v:Type}[DecidableEq k]:List (k × List v)->k->v->List (k × List v)
 | [],_,_=>[]
 | (x,ds)::r,y,d=>if x=y then(x,ds++[d])::r else(x,ds)::ZdH r y d
@[simp] def ZoV(i:Nat)(k v:EF):SF:=λr=>match k r with
 | some x=>match r[i]? with
  | some (some (.otl kvs))=>match ZaT x with
   | some y=>if kvs.length<big then
     match v (r.set i (some (.otl (ZbT kvs y))))with
     | some d=>match Zg (ZbT kvs y) y with
      | some ds=>if ds.length<big then some (.nx (r.set i (some (.otl (ZdH (ZbT kvs y) y d)))))else none
      | none=>none
     | none=>none
    else none
   | none=>none
  | _=>none
 | none=>none
@[simp] def Zmb(i:Nat)(k:EF):SF:=λr=>match k r with
 | some x=>match r[i]? with
  | some (some (.otl kvs))=>match ZaT x with
   | some y=>if kvs.length<big then
     match Zg kvs y with
     | none=>some (.nx (r.set i (some (.otl (kvs++[(y,[])])))))
     | some _=>none
    else none
   | none=>none
  | _=>none
 | none=>none
@[simp] def Zpk(i:Nat)(k v:EF):SF:=λr=>match k r with
 | some x=>match r[i]? with
  | some (some (.otl kvs))=>match ZaT x with
   | some y=>match v r with
    | some d=>match Zg kvs y with
     | some ds=>if ds.length<big then some (.nx (r.set i (some (.otl (ZdH kvs y d)))))else none
     | none=>none
    | none=>none
   | none=>none
  | _=>none
 | none=>none
@[simp] def hasB(b:B)(x:D):Option Bool:=match b with
 | .ok kvs=>(ZiJ x).map λy=>(Zg kvs y).isSome
 | .ot kvs=>(ZaT x).map λy=>(Zg kvs y).isSome
 | .otl kvs=>(ZaT x).map λy=>(Zg kvs y).isSome
 | _=>none
@[simp] def ZlD(k:EF)(a:BF):EF:=λr=>match k r with
 | some x=>match a r with
  | some b=>(hasB b x).map λc=>.bool (!c)
  | none=>none
 | none=>none
@[simp] def Zod(i:Nat)(k:EF):BF:=λr=>match k r with
 | some x=>match r[i]? with
  | some (some (.ok kvs))=>match ZiJ x with
   | some y=>(Zg kvs y).map B.pl
   | none=>none
  | some (some (.ot kvs))=>match ZaT x with
   | some y=>(Zg kvs y).map B.pl
   | none=>none
  | some (some (.otl kvs))=>match ZaT x with
   | some y=>(Zg kvs y).map B.ol
   | none=>none
  | _=>none
 | none=>none
abbrev fnD(t:Nat)(cs:List D):D:=.dict [(.none,.int (Int.ofNat t)),(.none,.list cs)]
@[simp] def Ze8(n:Nat)(ds:List D):Env:=ds.map (λd=>some (B.pl d))++Zz3 (n-ds.length) none
@[simp] def fnOf(k n:Nat)(m:SF):List D->Option D:=λds =>
 if ds.length=k then match m (Ze8 n ds)with
  | some (.nx _)=>some .none
  | some (.rt d)=>some d
  | _=>none
 else none
end HM
namespace HM
open PySem
def Zc0(c:TF)(e:EF)(r:Env):List D->Option (List D)
 | []=>some []
 | .tuple [x,y]::xs=>match c (some (.pl x)::some (.pl y)::r)with
  | some true=>match e (some (.pl x)::some (.pl y)::r)with
   | some z=>(Zc0 c e r xs).map (z::·)
   | none=>none
  | some false=>Zc0 c e r xs
  | none=>none
 | _=>none
@[simp] def Zdb(i:IF)(c:TF)(e:EF):BF:=λr=>match i r with
 | some xs=>if xs.length<big then(Zc0 c e r xs).map λys=>.ol ys else none
 | none=>none
def Zoo(ds:List D)(i:Int):Option Bool:=(ZaP ds).map λns=>ns.contains i
@[simp] def Zoi(k:EF)(a:BF):EF:=λr=>match k r with
 | some (.int i)=>match a r with
  | some b=>match Zbo b with
   | some ds=>(Zoo ds i).map λc=>.bool c
   | none=>none
  | none=>none
 | _=>none
@[simp] def ZhZ(k:EF)(a:BF):EF:=λr=>match k r with
 | some (.int i)=>match a r with
  | some b=>match Zbo b with
   | some ds=>(Zoo ds i).map λc=>.bool (!c)
   | none=>none
  | none=>none
 | _=>none
end HM
namespace HM
open PySem
@[simp] def Zly(n:Nat)(c:TF)(body:SF):SF:=λr=>Za4 c body n r
end HM
namespace HM
open PySem
def Zpb(ds:List D)(x:D):Option Bool:=if Zag x&&ds.all Zag then some (ds.any λd=>ZAr d x)else none
@[simp] def ZhY(k:EF)(a:BF):EF:=λr=>match k r with
 | some x=>match a r with
  | some b=>match Zbo b with
   | some ds=>(Zpb ds x).map λc=>.bool (!c)
   | none=>none
  | none=>none
 | none=>none
end HM
namespace HM
open PySem
def Zff:List (D × D)->Option (List (List Ky × D))
 | []=>some []
 | (k,v)::r=>match tkL k with
  | some ks=>(Zff r).map ((ks,v)::·)
  | none=>none
@[simp] def ZkK:B->Option (List (List Ky × D))
 | .ot kvs=>some kvs
 | .pl (.dict es)=>Zff es
 | .hd es=>Zff es
 | _=>none
@[simp] def ZoM(k:EF)(a:BF):EF:=λr=>match k r with
 | some x=>match a r with
  | some b=>match ZkK b with
   | some kvs=>(ZaT x).map λy=>.bool (Zg kvs y).isSome
   | none=>none
  | none=>none
 | none=>none
@[simp] def Zct(k:EF)(a:BF):EF:=λr=>match k r with
 | some x=>match a r with
  | some b=>match ZkK b with
   | some kvs=>(ZaT x).map λy=>.bool (!(Zg kvs y).isSome)
   | none=>none
  | none=>none
 | none=>none
@[simp] def Zam(a:BF)(k:EF):EF:=λr=>match a r with
 | some b=>match ZkK b with
  | some kvs=>match k r with
   | some x=>match ZaT x with
    | some y=>Zg kvs y
    | none=>none
   | none=>none
  | none=>none
 | none=>none
@[simp] def ZjG(a:BF)(k e:EF):EF:=λr=>match a r with
 | some b=>match ZkK b with
  | some kvs=>match k r with
   | some x=>match e r with
    | some z=>match ZaT x with
     | some y=>some ((Zg kvs y).getD z)
     | none=>none
    | none=>none
   | none=>none
  | none=>none
 | none=>none
@[simp] def Zj1:D->Bool
 | .none=>true
 | .bool _=>true
 | .int _=>true
 | .str _=>true
 | _=>false
@[simp] def Zhf(f:BF):EF:=λr=>(f r).bind frz
@[simp] def Zol(m:List D->Option D)(a:AF):EF:=λr=>match a r with
 | some ds=>match m ds with
  | some d=>if Zj1 d then some d else none
  | none=>none
 | none=>none
theorem Zwc(ks:List Ky):tkL (.tuple (ks.map ZaM))=some ks:=by
 show Zhb (ks.map ZaM)=some ks
 induction ks with
 | nil=>rfl
 | cons k ks ih=>show(match ZiJ (ZaM k)with | some q=>(Zhb (ks.map ZaM)).map (q::·) | none=>none)=_;rw[ih];cases k<;>rfl
theorem dec_enc(kvs:List (List Ky × D)):Zff (Ze kvs)=some kvs:=by
 induction kvs with
 | nil=>rfl
 | cons p kvs ih=>obtain⟨k,d⟩:=p;show(match tkL (.tuple (k.map ZaM))with | some ks=>(Zff (Ze kvs)).map ((ks,d)::·) | none=>none)=_;rw[Zwc,ih];rfl
end HM
namespace HM
open PySem
@[simp] def Ziv(a:BF):EF:=λr=>match a r with
 | some x=>match Zmg x with
  | some ds=>match ZaP ds with
   | some ns=>ns.max?.map λi=>Zz6 i
   | none=>none
  | none=>none
 | none=>none
end HM
namespace HM
open PySem
end HM
namespace HM
open PySem
@[simp] def ZjS(i:Nat)(f:BF):SF:=λr=>match r[i]? with
 | some (some (.ol ds))=>match f r with
  | some (.ol es)=>if ds.length+es.length<big then some (.nx (r.set i (some (.ol (ds++es)))))else none
  | _=>none
 | _=>none
@[simp] def ZuW(i j:Nat):SF:=λr=>match r[j]? with
 | some (some (.ol ds))=>match ds[ds.length-1]? with
  | some d=>some (.nx ((r.set j (some (.ol ds.dropLast))).set i (some (.pl d))))
  | none=>none
 | _=>none
@[simp] def Zjj(m:List D->Option D)(a:AF):BF:=λr=>match a r with
 | some ds=>match m ds with
  | some (.list ys)=>some (.ol ys)
  | _=>none
 | none=>none
def Zbc:Option B->Bool
 | some (.hd _)=>true
 | _=>false
@[simp] def Ze2(i:Nat)(g:SF):SF:=λr=>match r[i]? with
 | some (some (.pl (.dict es)))=>if r.all (λq=>!Zbc q)then match g (r.set i (some (.hd es)))with
   | some (.nx r')=>match r'[i]? with
    | some (some (.hd es'))=>if(r'.set i none).all (λq=>!Zbc q)then some (.nx (r'.set i (some (.pl (.dict es')))))else none
    | _=>none
   | some (.rt d)=>some (.rt d)
   | _=>none
  else none
 | _=>g r
@[simp] def ZaO(i:Nat):IF:=λr=>match r[i]? with
 | some (some (.pl (.tuple ds)))=>some ds
 | some (some (.pl (.list ds)))=>some ds
 | some (some (.hd es))=>(Zff es).map λkvs=>kvs.map λp=>.tuple (p.1.map ZaM)
 | _=>none
@[simp] def eHd(i:Nat):EF:=λr=>match r[i]? with
 | some (some (.pl d))=>some d
 | some (some (.hd es))=>some (.dict es)
 | _=>none
end HM
namespace HM
open PySem
end HM
namespace HM
open PySem
def Zed:Nat->D->Bool
 | _,.none=>true
 | _,.bool _=>true
 | _,.int _=>true
 | _,.str _=>true
 | n+1,.tuple ds=>ds.all (Zed n)
 | _,_=>false
@[simp] def ZeY(a b:D):Option D:=if a.canLay0&&Zag b then some (.bool (!PyData.eqv a b))else none
end HM
namespace HM
open PySem
abbrev AP:=Nat->List D->List D->Option D
def ZiI:D->Option (Nat × List D)
 | .dict [(.none,.int (Int.ofNat t)),(.none,.list cs)]=>some (t,cs)
 | _=>none
@[simp] def Zdc(ap:AP)(i:Nat)(a:AF):EF:=λr=>match r[i]? with
 | some (some (.pl d))=>match ZiI d with
  | some (t,cs)=>match a r with
   | some ds=>ap t cs ds
   | none=>none
  | none=>none
 | _=>none
def noF:Nat->D->Bool
 | _,.none=>true
 | _,.bool _=>true
 | _,.int _=>true
 | _,.str _=>true
 | n+1,.tuple ds=>ds.all (noF n)
 | n+1,.list ds=>ds.all (noF n)
 | n+1,.dict es=>es.all λp=>(match p.1 with | .none=>false | _=>true)&&noF n p.2
 | _,_=>false
def Zlk:List Nat->Env->Option (List D)
 | [],_=>some []
 | i::is,r=>match r[i]? with
  | some (some (.pl d))=>(Zlk is r).map (d::·)
  | _=>none
@[simp] def Zim(m:List D->Option D)(t:Nat)(is:List Nat)(a:EF):EF:=λr=>match a r with
 | some d1=>match Zlk is r with
  | some cs=>if cs.all (noF 20)then match m [d1,fnD t cs]with
    | some d=>if noF 20 d then some d else none
    | none=>none
   else none
  | none=>none
 | none=>none
def Zli(n m:Nat)(e:EF):List D->List D->Option D:=λcs ds=>if ds.length=n/\cs.length=m/\ds.all (noF 20)=true then e ((ds++cs).map λd=>some (B.pl d))else none
@[simp] def Zgc(a:BF):EF:=λr=>match a r with
 | some x=>match Zmg x with
  | some ds=>match ZaP ds with
   | some ns=>some (match ns.min? with | some i=>.int i | none=>.none)
   | none=>none
  | none=>none
 | none=>none
abbrev NF:=Env->Option (List (List Ky × D))
@[simp] def ZkS(a:SF)(m:NF):NF:=λr=>match a r with
 | some (.nx r')=>m r'
 | _=>none
@[simp] def Zpn(j:Nat):NF:=λr=>match r[j]? with
 | some (some (.ot kvs))=>some kvs
 | _=>none
def newOf(k n:Nat)(m:NF):List D->Option (List (List Ky × D)):=λds=>if ds.length=k then m (Ze8 n ds)else none
@[simp] def ZjL(m:List D->Option (List (List Ky × D)))(a:AF):BF:=λr=>match a r with
 | some ds=>match m ds with
  | some kvs=>if kvs.all (λp=>Zj1 p.2)then some (.ot kvs)else none
  | none=>none
 | none=>none
end HM
namespace HM
open PySem
end HM
namespace HM
open PySem
@[simp] def Zgh(ap:AP)(i:Nat)(a:AF):EF:=λr=>match r[i]? with
 | some (some (.pl d))=>match ZiI d with
  | some (t,cs)=>match a r with
   | some ds=>match ap t cs ds with
    | some z=>if Zed 400 z then some z else none
    | none=>none
   | none=>none
  | none=>none
 | _=>none
end HM
namespace HP
open PySem PySem.Spec PyProof.Rows L2
@[reducible] def Zds(H':Hp)(b:Addr):HO->Prop
 | .tbl _=>∃ps',H' b=some (.tbl ps')
 | o=>H' b=some o
def ZaG(H H':Hp):Prop:=∀b o,H b=some o->Zds H' b o
theorem Zds.of{H':Hp}{b:Addr}{o:HO}(h:H' b=some o):Zds H' b o:=by cases o<;>first | exact h | exact⟨_,h⟩
theorem Zds.ex{H':Hp}{b:Addr}{o:HO}(h:Zds H' b o):∃u,H' b=some u:=by cases o<;>first | exact⟨_,h⟩ | (obtain⟨ps,e⟩:=h; exact⟨_,e⟩)
theorem Zds.no{H':Hp}{b:Addr}{o:HO}(h:Zds H' b o)(n:∀ps,o≠.tbl ps):H' b=some o:=by cases o<;>first | exact h | exact absurd rfl (n _)
theorem ZaG.of{H H':Hp}(s:Zs H H'):ZaG H H':=λb o h=>.of (s b o h)
theorem ZaG.refl(H:Hp):ZaG H H:=.of (.refl H)
theorem ZaG.trans{H H1 H2:Hp}(a:ZaG H H1)(b:ZaG H1 H2):ZaG H H2:=λc o h=>by have h1:=a c o h;cases o<;>first | exact b c _ h1 | (obtain⟨ps,e⟩:=h1; exact(show ∃ps',H2 c=some (.tbl ps') from b c _ e))
theorem ZaG.free{H H':Hp}(e:ZaG H H'){l:Addr}(h:H' l=none):H l=none:=by
 cases q:H l with
 | none=>rfl
 | some o=>obtain⟨u,z⟩:=(e l o q).ex;rw[h]at z; cases z
theorem ZaG.back{H H':Hp}(e:ZaG H H'){l:Addr}{o u:HO}(h:H l=some o)(h':H' l=some u)(n:∀ps,u≠.tbl ps):o=u:=by have z:=e l o h;cases o<;>first | (obtain⟨ps,q⟩:=z; rw[h']at q; cases q; exact absurd rfl (n _)) | (have z:H' l=some _:=z; rw[h']at z; cases z; rfl)
def Zcj(H:Hp):Hp:=λb=>match H b with
 | some (.tbl _)=>none
 | x=>x
def nt:HO->Bool
 | .tbl _=>false
 | _=>true
def NoT(F:Hp):Prop:=∀b o,F b=some o->nt o=true
theorem ZcD{H:Hp}{b:Addr}{o:HO}(h:H b=some o)(n:nt o=true):Zcj H b=some o:=by unfold Zcj; rw[h];cases o<;>first | rfl | cases n
theorem Zhd{H:Hp}{b:Addr}{o:HO}(h:Zcj H b=some o):H b=some o/\nt o=true:=by
 unfold Zcj at h;split at h
 ·cases h
 ·rename_i n
  refine⟨h,?_⟩;cases o<;>first | rfl | exact absurd h (n _)
theorem Zex{H:Hp}:Zs (Zcj H) H:=λb o h=>(Zhd h).1
theorem NoT.drop{H:Hp}:NoT (Zcj H):=λb o h=>(Zhd h).2
theorem NoT.sub{F H:Hp}(n:NoT F)(s:Zs F H):Zs F (Zcj H):=λb o h=>ZcD (s b o h) (n b o h)
theorem NoT.upd{F:Hp}{p:Addr}{o:HO}(n:NoT F)(h:nt o=true):NoT (upd F p o):=λb u z=>by
 by_cases hb:b=p
 ·subst hb; rw[ZH]at z; cases z; exact h
 ·rw[ZD hb]at z; exact n b u z
theorem ZaG.ntb{H H':Hp}(s:ZaG H H'){b:Addr}{o:HO}(h:H b=some o)(n:nt o=true):H' b=some o:=(s b o h).no λps z=>by subst z; cases n
def Dk(vvs:List (List Key × V))(u:HO):Prop:=u=.dT vvs\/∃o,u=.frz o (.dT vvs)
def sw(a:Addr)(ob:HO)(G:Hp):Hp:=λb=>if b=a then(G a).map (λ_=>ob)else G b
class FX where
 tl:List (Addr × Str)
 fv:Nat->List PyData->Hp->Addr->Prop
 sw:∀{t:Nat} {cs:List PyData} {F:Hp} {a b:Addr} {ob:HO} {vvs:List (List Key × V)},(∀u,F a=some u->Dk vvs u)->Dk vvs ob->fv t cs F b->fv t cs (sw a ob F) b
 drop:∀{t:Nat} {cs:List PyData} {F:Hp} {a:Addr},fv t cs F a->fv t cs (Zcj F) a
 mono:∀{t:Nat} {cs:List PyData} {F F':Hp} {a:Addr},fv t cs F a->Zs F F'->fv t cs F' a
variable[FX]
def Zbw(a:Addr)(o:Obj):HO:=.ext λh=>h.get? a=some o
def ZlN(o:Obj)(q:Str):Prop:=∃vs t,o.data=.fields vs/\vs[1]?=some (.str q t)
def Tb(H:Hp):Prop:=∀P q,(P,q)∈FX.tl->∃ps,H P=some (.tbl ps)/\TriplesOk ps.toList/\∀pos c,ZDh pos ps.toList=some c->∃a o,c=.ref a/\H a=some (Zbw a o)/\ZlN o q
def Zl1:HO->Bool
 | .lst _=>true
 | .dK _=>true
 | .dT _=>true
 | _=>false
def te:HO->Bool
 | .tbl _=>true
 | .ext _=>true
 | _=>false
theorem ZsY{o:HO}(h:Zl1 o=true)(h':te o=true):False:=by cases o<;>simp_all [Zl1,te]
theorem Tb.keep{H H':Hp}(t:Tb H)(k:∀a o,H a=some o->te o=true->H' a=some o):Tb H':=λP q hP=>by obtain⟨ps,h1,h2,h3⟩:=t P q hP;refine⟨ps,k _ _ h1 rfl,h2,λpos c hc=>?_⟩;obtain⟨a,o,e1,e2,e3⟩:=h3 pos c hc;exact⟨a,o,e1,k _ _ e2 rfl,e3⟩
theorem Dk.te{vvs:List (List Key × V)}{u:HO}(h:Dk vvs u):te u=false:=by rcases h with h | ⟨o,h⟩<;>subst h<;>rfl
theorem Dk.ntt{vvs:List (List Key × V)}{u:HO}(h:Dk vvs u):nt u=true:=by rcases h with h | ⟨o,h⟩<;>subst h<;>rfl
theorem Tb.sw{G:Hp}{a:Addr}{ob:HO}{vvs:List (List Key × V)}(hG:∀u,G a=some u->Dk vvs u)(t:Tb G):Tb (HP.sw a ob G):=t.keep λb o z ht=>by
 have hb:b≠a:=λe=>by subst e; rw[(hG o z).te]at ht; cases ht
 unfold HP.sw; rw[if_neg hb]; exact z
theorem Tb.unsw{G:Hp}{a:Addr}{ob:HO}{vvs:List (List Key × V)}(hob:Dk vvs ob)(t:Tb (HP.sw a ob G)):Tb G:=t.keep λb o z ht=>by
 unfold HP.sw at z;split at z
 ·obtain⟨u,_,e⟩:=Zzs.mp z
  subst e; rw[hob.te]at ht; cases ht
 ·exact z
theorem Zds.cong{H H':Hp}{b:Addr}{o:HO}(e:H' b=H b)(h:Zds H b o):Zds H' b o:=by unfold Zds at h ⊢; rw[e]; exact h
theorem ZaG.sw{H0 H:Hp}{a:Addr}{ob:HO}(s:ZaG H0 H):ZaG (HP.sw a ob H0) (HP.sw a ob H):=λb o z=>by
 by_cases hb:b=a
 ·subst hb
  unfold HP.sw at z;rw[if_pos rfl]at z;obtain⟨u,h1,h2⟩:=Zzs.mp z;obtain⟨w,hw⟩:=(s _ _ h1).ex;refine .of ?_;unfold HP.sw;rw[if_pos rfl,hw,h2.symm]; rfl
 ·unfold HP.sw at z
  rw[if_neg hb]at z;refine(s b o z).cong ?_;unfold HP.sw; rw[if_neg hb]
theorem Tb.same{H H':Hp}(t:Tb H)(s:Zs H H'):Tb H':=t.keep λa o h _=>s a o h
theorem Zj4{F F':Hp}{a:Addr}{u:HO}(r:Rd F a u)(s:Zs F F'):Rd F' a u:=r.imp (λh=>s _ _ h) λ⟨o,h⟩=>⟨o,s _ _ h⟩
def ZoK(K:Zzp)(a:Addr)(vs:List V):Prop:=∃(o:Obj) (its:Array Value) (n:Nat),K.lookup a=some o/\o.cls=.type "tuple"/\o.data=.seq its n/\its.size<=sizeLine/\Vals vs its.toList
theorem Zur{K:Zzp}{F F':Hp}{a:Addr}{vs:List V}(h:SqT K F a vs)(s:Zs F F'):SqT K F' a vs:=h.imp (λh=>Zj4 h s) id
inductive Rep(K:Zzp)(F:Hp):PyData->V->Prop where
 | non:Rep K F .none .non
 | bl (b:Bool):Rep K F (.bool b) (.bl b)
 | int (i:Int):Rep K F (.int i) (.int i)
 | str (x:Str):Rep K F (.str x) (.str x)
 | tupk {a:Addr} {x:Str} (h:ZoK K a [.str x]):Rep K F (.tuple [.str x]) (.ref a)
 | tup {a:Addr} {ds:List PyData} {vs:List V} (h:F a=some (.tup vs)) (hl:ds.length=vs.length) (hr:∀(i:Nat) (d:PyData) (v:V),ds[i]?=some d->vs[i]?=some v->Rep K F d v):Rep K F (.tuple ds) (.ref a)
 | lst {a:Addr} {ds:List PyData} {vs:List V} (h:SqL K F a vs) (hl:ds.length=vs.length) (hr:∀(i:Nat) (d:PyData) (v:V),ds[i]?=some d->vs[i]?=some v->Rep K F d v):Rep K F (.list ds) (.ref a)
 | dct {a:Addr} {es:List (PyData × PyData)} {kvs:List (List Key × PyData)} {vvs:List (List Key × V)} (h:Rd F a (.dT vvs)) (he:es=HM.Ze kvs) (hk:kvs.map (·.1)=vvs.map (·.1)) (hr:∀(i:Nat) (d:PyData) (v:V),(kvs.map (·.2))[i]?=some d->(vvs.map (·.2))[i]?=some v->Rep K F d v):Rep K F (.dict es) (.ref a)
 | fn {a:Addr} {t:Nat} {cs:List PyData} (h:FX.fv t cs F a):Rep K F (.dict [(.none,.int (Int.ofNat t)),(.none,.list cs)]) (.ref a)
def Zy(K:Zzp)(F:Hp)(ds:List PyData)(vs:List V):Prop:=ds.length=vs.length/\∀(i:Nat) (d:PyData) (v:V),ds[i]?=some d->vs[i]?=some v->Rep K F d v
section
variable{K:Zzp}{F F':Hp}{d:PyData}{v:V}{ds es:List PyData}{vs us:List V}
theorem Rep.mono(r:Rep K F d v)(s:Zs F F'):Rep K F' d v:=by
 induction r with
 | non=>exact .non
 | bl b=>exact .bl b
 | int i=>exact .int i
 | str x=>exact .str x
 | tup h hl _ ih=>exact .tup (s _ _ h) hl ih
 | tupk h=>exact .tupk h
 | lst h hl _ ih=>exact .lst (s.seq h) hl ih
 | dct h he hk _ ih=>exact .dct (Zj4 h s) he hk ih
 | fn h=>exact .fn (FX.mono h s)
theorem Rep.drop(r:Rep K F d v):Rep K (Zcj F) d v:=by
 induction r with
 | non=>exact .non
 | bl b=>exact .bl b
 | int i=>exact .int i
 | str x=>exact .str x
 | tup h hl _ ih=>exact .tup (ZcD h rfl) hl ih
 | tupk h=>exact .tupk h
 | lst h hl _ ih =>
  refine .lst ?_ hl ih;rcases h with(h | ⟨o,h⟩) | h
  ·exact .inl (.inl (ZcD h rfl))
  ·exact .inl (.inr ⟨o,ZcD h rfl⟩)
  ·exact .inr h
 | dct h he hk _ ih =>
  refine .dct ?_ he hk ih;rcases h with h | ⟨o,h⟩
  ·exact .inl (ZcD h rfl)
  ·exact .inr ⟨o,ZcD h rfl⟩
 | fn h=>exact .fn (FX.drop h)
theorem Zy.drop'(r:Zy K F ds vs):Zy K (Zcj F) ds vs:=⟨r.1,λi d v h1 h2=>(r.2 i d v h1 h2).drop⟩
theorem ZaG.dr{H H':Hp}(s:ZaG H H'):Zs (Zcj H) H':=λb o h=>s.ntb (Zhd h).1 (Zhd h).2
theorem Rep.monoT{H H':Hp}(r:Rep K H d v)(s:ZaG H H'):Rep K H' d v:=r.drop.mono s.dr
theorem Zy.mono(r:Zy K F ds vs)(s:Zs F F'):Zy K F' ds vs:=⟨r.1,λi d v h1 h2=>(r.2 i d v h1 h2).mono s⟩
theorem Zy.nil:Zy K F [] []:=⟨rfl,λi d v h=>by simp at h⟩
theorem Zy.cons(r:Rep K F d v)(q:Zy K F ds vs):Zy K F (d::ds) (v::vs) :=
 ⟨by rw[ZzG,ZzG,q.1],λi e u h1 h2=>by
  cases i with
  | zero=>rw[ZBV]at h1 h2;cases h1; cases h2; exact r
  | succ i=>rw[ZAa]at h1 h2;exact q.2 i e u h1 h2⟩
theorem Zy.nil_inv(r:Zy K F [] vs):vs=[]:=ZB1 r.1.symm
theorem Zy.cons_inv(r:Zy K F (d::ds) vs):∃v us,vs=v::us/\Rep K F d v/\Zy K F ds us:=by
 cases vs with
 | nil=>exact absurd r.1 (by simp)
 | cons v us =>
  refine⟨v,us,rfl,r.2 0 d v rfl rfl,?_,λi e u h1 h2=>r.2 (i+1) e u ?_ ?_⟩
  ·have:=r.1
   rw[ZzG,ZzG]at this;omega
  ·rw[ZAa]; exact h1
  ·rw[ZAa]; exact h2
theorem Zy.append(r:Zy K F ds vs)(q:Zy K F es us):Zy K F (ds++es) (vs++us):=by
 refine⟨by rw[ZzL,ZzL,r.1,q.1],λi e u h1 h2=>?_⟩
 by_cases hi:i<ds.length
 ·rw[Zz4 hi]at h1
  rw[Zz4 (by rw[<-r.1]; exact hi)]at h2;exact r.2 i e u h1 h2
 ·rw[ZAf (by omega)]at h1
  rw[ZAf (by have:=r.1; omega),<-r.1]at h2;exact q.2 _ e u h1 h2
theorem Zy.get(r:Zy K F ds vs){i:Nat}(h:ds[i]?=some d):∃v,vs[i]?=some v/\Rep K F d v:=by
 have hi:i<vs.length:=by rw[<-r.1]; exact(ZzF.mp h).1
 exact⟨vs[i],ZzD hi,r.2 i d _ h (ZzD hi)⟩
theorem Zy.drop(r:Zy K F ds vs)(n:Nat):Zy K F (ds.drop n) (vs.drop n) :=
 ⟨by rw[ZB8,ZB8,r.1],λi e u h1 h2=>by rw[List.getElem?_drop]at h1 h2;exact r.2 _ e u h1 h2⟩
theorem Zy.take(r:Zy K F ds vs)(n:Nat):Zy K F (ds.take n) (vs.take n) :=
 ⟨by rw[ZA3,ZA3,r.1],λi e u h1 h2=>by
  by_cases hi:i<n
  ·rw[ZDG hi]at h1 h2
   exact r.2 _ e u h1 h2
  ·rw[List.getElem?_take_eq_none (by omega)]at h1
   cases h1⟩
theorem Zy.set(r:Zy K F ds vs)(q:Rep K F d v)(j:Nat):Zy K F (ds.set j d) (vs.set j v):=by
 refine⟨by rw[ZAG,ZAG,r.1],λi e u h1 h2=>?_⟩;have hi:i<ds.length:=by have:=(ZzF.mp h1).1; rwa [ZAG]at this
 by_cases e1:j=i
 ·subst e1
  rw[ZAl hi]at h1;rw[ZAl (by rw[<-r.1]; exact hi)]at h2;cases h1; cases h2; exact q
 ·rw[Zz2 e1]at h1 h2
  exact r.2 i e u h1 h2
theorem Zy.rep(r:Zy K F ds vs)(k:Nat):Zy K F (Zz3 k ds).flatten (Zz3 k vs).flatten:=by
 induction k with
 | zero=>exact Zy.nil
 | succ k ih=>rw[ZBd,ZBd,ZBL,ZBL]; exact r.append ih
theorem Zy.one(r:Rep K F d v):Zy K F [d] [v]:=.cons r .nil
end
def Fre(H:Hp)(a:Addr)(o:HO):Prop:=H a=none\/∃xs,o=.tup xs/\H a=some (.tup xs)
theorem Fre.back{H H':Hp}{a:Addr}{o:HO}(s:ZaG H H')(f:Fre H' a o):Fre H a o:=by
 rcases f with f | ⟨xs,e,f⟩
 ·exact .inl (s.free f)
 ·cases q:H a with
  | none=>exact .inl q
  | some u =>
   have:=s.back q f λ_ z=>by cases z
   subst this;exact .inr ⟨xs,e,q⟩
theorem Fre.no{H:Hp}{a:Addr}{o u:HO}(f:Fre H a o)(h:H a=some u)(n:∀xs,u≠.tup xs):False:=by
 rcases f with f | ⟨xs,_,f⟩
 ·rw[h]at f; cases f
 ·rw[h]at f; cases f; exact n xs rfl
structure Ext(F H F' H':Hp):Prop where
 ff:Zs F F'
 hh:ZaG H H'
 sub:Zs F' H'
 new:∀a o,F' a=some o->F a=some o\/Fre H a o
 tab:Tb H->Tb H'
 nts:NoT F->NoT F'
theorem Ext.refl{F H:Hp}(s:Zs F H):Ext F H F H:=⟨Zs.refl F,ZaG.refl H,s,λ_ _ h=>.inl h,id,id⟩
theorem Ext.trans{F H F1 H1 F2 H2:Hp}(a:Ext F H F1 H1)(b:Ext F1 H1 F2 H2):Ext F H F2 H2 :=
 ⟨a.ff.trans b.ff,a.hh.trans b.hh,b.sub,λx o h=>by
  rcases b.new x o h with q | q
  ·exact a.new x o q
  ·exact .inr (q.back a.hh),λt=>b.tab (a.tab t),λt=>b.nts (a.nts t)⟩
theorem Zk1{F:Hp}{p:Addr}{o:HO}(h:F p=none):Zs F (upd F p o):=λb q z=>by rw[ZD (ZaB z h)]; exact z
theorem Ext.lay{F H F' H':Hp}(e:Ext F H F' H'){p:Addr}{o:HO}(h:H' p=none)(no:nt o=true:=by rfl):Ext F H (upd F' p o) (upd H' p o):=by
 have hF:F' p=none:=e.sub.free h;refine⟨λb q z=>?_,e.hh.trans (.of (Zk1 h)),λb q z=>?_,λb q z=>?_,λt=>(e.tab t).same (Zk1 h),λt=>(e.nts t).upd no⟩
 ·rw[ZD (ZaB (e.ff b q z) hF)]; exact e.ff b q z
 ·by_cases hb:b=p
  ·subst hb; rw[ZH]at z ⊢; exact z
  ·rw[ZD hb]at z ⊢; exact e.sub b q z
 ·by_cases hb:b=p
  ·subst hb; exact .inr (.inl (e.hh.free h))
  ·rw[ZD hb]at z; exact e.new b q z
theorem Ext.lay'{F H F' H':Hp}(e:Ext F H F' H'){p:Addr}{o:HO}(h:H' p=none):Ext F H F' (upd H' p o):=by refine⟨e.ff,e.hh.trans (.of (Zk1 h)),λb q z=>?_,e.new,λt=>(e.tab t).same (Zk1 h),e.nts⟩;rw[ZD (ZaB (e.sub b q z) h)]; exact e.sub b q z
theorem Zs.upd'{F:Hp}{p:Addr}{o:HO}(h:F p=none):Zs F (upd F p o):=λb q z=>by rw[ZD (ZaB z h)]; exact z
def Zcl(F H:Hp):Hp:=λa=>match H a with
 | some (.tup xs)=>some (.tup xs)
 | _=>F a
theorem ZkO{F H:Hp}{a:Addr}{xs:List V}(h:H a=some (.tup xs)):Zcl F H a=some (.tup xs):=by unfold Zcl; rw[h]
theorem ZdZ{F H:Hp}(s:Zs F H):Zs F (Zcl F H):=λa o h=>by
 have:=s a o h;unfold Zcl;split
 ·rename_i xs q
  rw[q]at this;exact this
 ·exact h
theorem Ext.tups{F H F' H':Hp}(e:Ext F H F' H'):Ext F H (Zcl F' H') H':=by
 have key:Ext F' H' (Zcl F' H') H':=by
  refine⟨ZdZ e.sub,ZaG.refl H',λa o h=>?_,λa o h=>?_,id,λn a o h=>?_⟩
  ·unfold Zcl at h
   split at h
   ·rename_i xs q; rw[q]; exact h
   ·exact e.sub a o h
  ·unfold Zcl at h
   split at h
   ·rename_i xs q
    cases h;exact .inr (.inr ⟨xs,rfl,q⟩)
   ·exact .inl h
  ·unfold Zcl at h
   split at h
   ·cases h; rfl
   ·exact n a o h
 exact e.trans key
inductive Zai(K:Zzp)(F H:Hp):HM.B->V->List Addr->Prop where
 | pl {d:PyData} {v:V} (r:Rep K F d v):Zai K F H (.pl d) v []
 | ol {a:Addr} {ds:List PyData} {vs:List V} (h:H a=some (.lst vs)) (r:Zy K F ds vs):Zai K F H (.ol ds) (.ref a) [a]
 | ok {a:Addr} {kvs:List (Key × PyData)} {vvs:List (Key × V)} (h:H a=some (.dK vvs)) (hk:kvs.map (·.1)=vvs.map (·.1)) (r:Zy K F (kvs.map (·.2)) (vvs.map (·.2))):Zai K F H (.ok kvs) (.ref a) [a]
 | ot {a:Addr} {kvs:List (List Key × PyData)} {vvs:List (List Key × V)} (h:H a=some (.dT vvs)) (hk:kvs.map (·.1)=vvs.map (·.1)) (r:Zy K F (kvs.map (·.2)) (vvs.map (·.2))):Zai K F H (.ot kvs) (.ref a) [a]
 | otl {a:Addr} {kvs:List (List Key × List PyData)} {vvs:List (List Key × V)} {ls:List Addr} (h:H a=some (.dT vvs)) (hk:kvs.map (·.1)=vvs.map (·.1)) (hv:vvs.map (·.2)=ls.map V.ref)
   (r:∀(i:Nat) (ds:List PyData) (l:Addr),(kvs.map (·.2))[i]?=some ds->ls[i]?=some l->∃vs,H l=some (.lst vs)/\Zy K F ds vs):Zai K F H (.otl kvs) (.ref a) (a::ls)
 | hd {a:Addr} {o:Obj} {es:List (PyData × PyData)} {kvs:List (List Key × PyData)} {vvs:List (List Key × V)} (h:F a=some (.frz o (.dT vvs))) (he:es=HM.Ze kvs) (hk:kvs.map (·.1)=vvs.map (·.1)) (r:Zy K F (kvs.map (·.2)) (vvs.map (·.2))):Zai K F H (.hd es) (.ref a) []
 | hf {a:Addr} {t:Nat} {cs:List PyData} (h:FX.fv t cs F a):Zai K F H (.hd [(.none,.int (Int.ofNat t)),(.none,.list cs)]) (.ref a) []
section
variable{K:Zzp}{F F' H H':Hp}{b:HM.B}{v:V}{fp:List Addr}
theorem Zai.mono(r:Zai K F H b v fp)(s:Zs F F')(k:∀a∈fp,∀o,H a=some o->Zds H' a o):Zai K F' H' b v fp:=by
 cases r with
 | pl r=>exact .pl (r.mono s)
 | ol h r=>exact .ol (k _ (by simp) _ h) (r.mono s)
 | ok h hk r=>exact .ok (k _ (by simp) _ h) hk (r.mono s)
 | ot h hk r=>exact .ot (k _ (by simp) _ h) hk (r.mono s)
 | hd h he hk r=>exact .hd (s _ _ h) he hk (r.mono s)
 | hf h=>exact .hf (FX.mono h s)
 | otl h hk hv r=>refine .otl (k _ (by simp) _ h) hk hv λi ds l h1 h2=>?_;obtain⟨vs,q1,q2⟩:=r i ds l h1 h2;exact⟨vs,k l (Zzu _ (ZzU h2)) _ q1,q2.mono s⟩
theorem Zai.there2(r:Zai K F H b v fp){a:Addr}(h:a∈fp):∃o,H a=some o/\Zl1 o=true:=by
 cases r with
 | pl r=>simp at h
 | hd _ _ _ _=>simp at h
 | hf _=>simp at h
 | ol q r=>simp at h; subst h; exact⟨_,q,rfl⟩
 | ok q hk r=>simp at h; subst h; exact⟨_,q,rfl⟩
 | ot q hk r=>simp at h; subst h; exact⟨_,q,rfl⟩
 | @otl a' kvs vvs ls q hk hv r =>
  rcases ZzH.mp h with e | e
  ·subst e; exact⟨_,q,rfl⟩
  ·obtain⟨i,hi⟩:=List.getElem?_of_mem e
   have hl:kvs.length=ls.length:=by have e1:=congrArg ZAi hk;have e2:=congrArg ZAi hv;rw[Zzr,Zzr]at e1 e2;omega
   have hi':i<kvs.length:=by rw[hl]; exact(ZzF.mp hi).1
   obtain⟨vs,q1,_⟩:=r i (kvs[i].2) a (by simp[hi']) hi;exact⟨_,q1,rfl⟩
theorem Zai.there'(r:Zai K F H b v fp){a:Addr}(h:a∈fp):∃o,H a=some o/\∀xs,o≠.tup xs:=by
 cases r with
 | pl r=>simp at h
 | hd _ _ _ _=>simp at h
 | hf _=>simp at h
 | ol q r=>simp at h; subst h; exact⟨_,q,λ_ z=>by cases z⟩
 | ok q hk r=>simp at h; subst h; exact⟨_,q,λ_ z=>by cases z⟩
 | ot q hk r=>simp at h; subst h; exact⟨_,q,λ_ z=>by cases z⟩
 | @otl a' kvs vvs ls q hk hv r =>
  rcases ZzH.mp h with e | e
  ·subst e; exact⟨_,q,λ_ z=>by cases z⟩
  ·obtain⟨i,hi⟩:=List.getElem?_of_mem e
   have hl:kvs.length=ls.length:=by have e1:=congrArg ZAi hk;have e2:=congrArg ZAi hv;rw[Zzr,Zzr]at e1 e2;omega
   have hi':i<kvs.length:=by rw[hl]; exact(ZzF.mp hi).1
   obtain⟨vs,q1,_⟩:=r i (kvs[i].2) a (by simp[hi']) hi;exact⟨_,q1,λ_ z=>by cases z⟩
theorem Zai.there(r:Zai K F H b v fp){a:Addr}(h:a∈fp):∃o,H a=some o:=let ⟨o,q,_⟩:=r.there' h; ⟨o,q⟩
end
structure Zbv(K:Zzp)(F0 H0 F H:Hp)(r:HM.Env)(σ:L2.St)(fp:Nat->List Addr):Prop where
 ext:Ext F0 H0 F H
 len:r.length=σ.length
 at_:∀(i:Nat) (b:HM.B),r[i]?=some (some b)->∃v,σ[i]?=some (some v)/\Zai K F H b v (fp i)
 emp:∀(i:Nat),(∀b,r[i]?≠some (some b))->fp i=[]
 own:∀(i:Nat) (a:Addr),a∈fp i->F a=none/\H0 a=none
 nd:∀i,(fp i).Nodup
 dis:∀(i j:Nat) (a:Addr),i≠j->a∈fp i->¬a∈fp j
 tb:Tb H0
 nt:NoT F0
def At(K:Zzp)(F0 H0 F H:Hp)(r:HM.Env)(σ:L2.St):Prop:=∃fp,Zbv K F0 H0 F H r σ fp
section
variable{K:Zzp}{F0 H0 F H F' H':Hp}{r:HM.Env}{σ:L2.St}{fp:Nat->List Addr}{i:Nat}{b:HM.B}{v:V}{d:PyData}
theorem Zbv.bound(e:Zbv K F0 H0 F H r σ fp){a:Addr}(h:a∈fp i):∃b,r[i]?=some (some b):=by
 cases q:r[i]? with
 | none=>rw[e.emp i (λb z=>by rw[q]at z; cases z)]at h; simp at h
 | some x =>
  cases x with
  | none=>rw[e.emp i (λb z=>by rw[q]at z; cases z)]at h; simp at h
  | some b=>exact⟨b,rfl⟩
theorem Zbv.there'(e:Zbv K F0 H0 F H r σ fp){a:Addr}(h:a∈fp i):∃o,H a=some o/\∀xs,o≠.tup xs:=by obtain⟨b,hb⟩:=e.bound h;obtain⟨v,_,q⟩:=e.at_ i b hb;exact q.there' h
theorem Zbv.there2(e:Zbv K F0 H0 F H r σ fp){a:Addr}(h:a∈fp i):∃o,H a=some o/\Zl1 o=true:=by obtain⟨b,hb⟩:=e.bound h;obtain⟨v,_,q⟩:=e.at_ i b hb;exact q.there2 h
theorem Zbv.there(e:Zbv K F0 H0 F H r σ fp){a:Addr}(h:a∈fp i):∃o,H a=some o:=let ⟨o,q,_⟩:=e.there' h; ⟨o,q⟩
theorem Zbv.sub(e:Zbv K F0 H0 F H r σ fp):Zs F H:=e.ext.sub
theorem Zbv.grow(e:Zbv K F0 H0 F H r σ fp)(x:Ext F H F' H'):Zbv K F0 H0 F' H' r σ fp:=by
 refine⟨e.ext.trans x,e.len,λi b h=>?_,e.emp,λi a h=>⟨?_,(e.own i a h).2⟩,e.nd,e.dis,e.tb,e.nt⟩
 ·obtain⟨v,h1,h2⟩:=e.at_ i b h
  exact⟨v,h1,h2.mono x.ff λa _ o q=>x.hh a o q⟩
 ·cases q:F' a with
  | none=>rfl
  | some o =>
   rcases x.new a o q with z | z
   ·rw[(e.own i a h).1]at z; cases z
   ·obtain⟨o',h',hn⟩:=e.there' h
    exact(z.no h' hn).elim
theorem At.grow(e:At K F0 H0 F H r σ)(x:Ext F H F' H'):At K F0 H0 F' H' r σ:=let ⟨fp,e⟩:=e; ⟨fp,e.grow x⟩
theorem At.tb(e:At K F0 H0 F H r σ):Tb H:=let ⟨_,e⟩:=e; e.ext.tab e.tb
theorem At.tbx(e:At K F0 H0 F H r σ)(x:Ext F H F' H'):Tb H':=x.tab e.tb
theorem At.nt(e:At K F0 H0 F H r σ):NoT F:=let ⟨_,e⟩:=e; e.ext.nts e.nt
theorem At.ntx(e:At K F0 H0 F H r σ)(x:Ext F H F' H'):NoT F':=x.nts e.nt
theorem At.nt0(e:At K F0 H0 F H r σ):NoT F0:=let ⟨_,e⟩:=e; e.nt
theorem At.sub(e:At K F0 H0 F H r σ):Zs F H:=let ⟨_,e⟩:=e; e.ext.sub
theorem At.ext(e:At K F0 H0 F H r σ):Ext F0 H0 F H:=let ⟨_,e⟩:=e; e.ext
theorem At.refl(e:At K F0 H0 F H r σ):Ext F H F H:=.refl e.sub
theorem At.plain(e:At K F0 H0 F H r σ)(h:r[i]?=some (some (.pl d))):∃v,σ[i]?=some (some v)/\Rep K F d v:=by
 obtain⟨fp,e⟩:=e;obtain⟨v,h1,h2⟩:=e.at_ i _ h;generalize fp i=f at h2;cases h2 with
 | pl q=>exact⟨v,h1,q⟩
theorem At.any(e:At K F0 H0 F H r σ)(h:r[i]?=some (some b)):∃v fp,σ[i]?=some (some v)/\Zai K F H b v fp:=by obtain⟨fp,e⟩:=e;obtain⟨v,h1,h2⟩:=e.at_ i _ h;exact⟨v,_,h1,h2⟩
theorem At.store(e:At K F0 H0 F H r σ){fp':List Addr}(q:Zai K F H b v fp')(nd:fp'.Nodup)(h1:∀a∈fp',F a=none/\H0 a=none)(h2:∀fp,Zbv K F0 H0 F H r σ fp->∀j a,j≠i->a∈fp j->¬a∈fp') :
  At K F0 H0 F H (r.set i (some b)) (σ.set i (some v)):=by
 obtain⟨fp,e⟩:=e;have h2:=h2 fp e
 by_cases hi:i<r.length
 ·refine⟨λj=>if j=i then fp' else fp j,e.ext,by rw[ZAG,ZAG,e.len],λj c h=>?_,λj h=>?_,λj a h=>?_,λj=>?_,λj k a hjk h=>?_,e.tb,e.nt⟩
  ·by_cases hj:j=i
   ·subst hj
    rw[ZAl hi]at h;cases h;refine⟨v,ZAl (by rw[<-e.len]; exact hi),?_⟩;rw[if_pos rfl]; exact q
   ·rw[Zz2 (ZAx hj)]at h
    obtain⟨u,q1,q2⟩:=e.at_ j c h;refine⟨u,by rw[Zz2 (ZAx hj)]; exact q1,?_⟩;rw[if_neg hj]; exact q2
  ·by_cases hj:j=i
   ·subst hj
    exact absurd (ZAl hi) (h b)
   ·show(if j=i then fp' else fp j)=[]
    rw[if_neg hj];exact e.emp j λc z=>h c (by rw[Zz2 (ZAx hj)]; exact z)
  ·by_cases hj:j=i
   ·rw[if_pos hj]at h; exact h1 a h
   ·rw[if_neg hj]at h; exact e.own j a h
  ·show(if j=i then fp' else fp j).Nodup
   by_cases hj:j=i
   ·rw[if_pos hj]; exact nd
   ·rw[if_neg hj]; exact e.nd j
  ·show ¬a∈(if k=i then fp' else fp k)
   by_cases hj:j=i
   ·rw[if_pos hj]at h
    by_cases hk:k=i
    ·exact absurd (hj.trans hk.symm) hjk
    ·rw[if_neg hk]; exact λz=>h2 k a hk z h
   ·rw[if_neg hj]at h
    by_cases hk:k=i
    ·rw[if_pos hk]; exact h2 j a hj h
    ·rw[if_neg hk]; exact e.dis j k a hjk h
 ·have e1:r.set i (some b)=r:=ZDI (by omega)
  have e2:σ.set i (some v)=σ:=ZDI (by have:=e.len; omega);rw[e1,e2];exact⟨fp,e⟩
theorem At.set(e:At K F0 H0 F H r σ)(q:Rep K F d v):At K F0 H0 F H (r.set i (some (.pl d))) (σ.set i (some v)) :=
 e.store (.pl q) ZA9 (λa h=>by simp at h) λ_ _ _ _ _ _ h=>by simp at h
theorem Zbv.changeW(e:Zbv K F0 H0 F H r σ fp)(hv:σ[i]?=some (some v)){fp':List Addr}(q:Zai K F H' b v fp')(nd:fp'.Nodup)(h1:∀a∈fp',a∈fp i\/(F a=none/\H0 a=none/\∀j,a ∉ fp j))
  (h2:∀a o,H a=some o->¬a∈fp i->H' a=some o):At K F0 H0 F H' (r.set i (some b)) σ:=by
 have sF:Zs F H':=λa o z=>h2 a o (e.sub a o z) λm=>by rw[(e.own i a m).1]at z; cases z
 have sH:ZaG H0 H':=λa o z=>by
  have nm:¬a∈fp i:=λm=>by rw[(e.own i a m).2]at z; cases z
  have y:=e.ext.hh a o z;cases o<;>first | exact h2 a _ y nm | (obtain⟨ps,q⟩:=y; exact⟨ps,h2 a _ q nm⟩)
 have sT:Tb H0->Tb H':=λt=>(e.ext.tab t).keep λa o z ho=>h2 a o z λm=>by obtain⟨o',q1,q2⟩:=e.there2 m;rw[z]at q1; cases q1; exact ZsY q2 ho
 have e':Zbv K F0 H0 F H' (r.set i none) (σ.set i none) (λj=>if j=i then[]else fp j):=by
  refine⟨⟨e.ext.ff,sH,sF,e.ext.new,sT,e.ext.nts⟩,by rw[ZAG,ZAG,e.len],λj c h=>?_,λj h=>?_,λj a h=>?_,λj=>?_,λj k a hjk h=>?_,e.tb,e.nt⟩
  ·by_cases hj:j=i
   ·subst hj
    by_cases hi:j<r.length
    ·rw[ZAl hi]at h; cases h
    ·rw[ZD8 (by rw[ZAG]; omega)]at h; cases h
   ·rw[Zz2 (ZAx hj)]at h
    obtain⟨u,q1,q2⟩:=e.at_ j c h;refine⟨u,by rw[Zz2 (ZAx hj)]; exact q1,?_⟩;rw[if_neg hj];exact q2.mono (Zs.refl F) λa ha o z=>.of (h2 a o z (e.dis j i a hj ha))
  ·show(if j=i then[]else fp j)=[]
   by_cases hj:j=i
   ·rw[if_pos hj]
   ·rw[if_neg hj]
    exact e.emp j λc z=>h c (by rw[Zz2 (ZAx hj)]; exact z)
  ·by_cases hj:j=i
   ·rw[if_pos hj]at h; simp at h
   ·rw[if_neg hj]at h; exact e.own j a h
  ·show(if j=i then[]else fp j).Nodup
   by_cases hj:j=i
   ·rw[if_pos hj]; exact ZA9
   ·rw[if_neg hj]; exact e.nd j
  ·show ¬a∈(if k=i then[]else fp k)
   by_cases hj:j=i
   ·rw[if_pos hj]at h; simp at h
   ·rw[if_neg hj]at h
    by_cases hk:k=i
    ·rw[if_pos hk]; simp
    ·rw[if_neg hk]; exact e.dis j k a hjk h
 have hF:∀a∈fp',F a=none/\H0 a=none:=λa ha=>by
  rcases h1 a ha with z | z
  ·exact e.own i a z
  ·exact⟨z.1,z.2.1⟩
 have e2:=At.store (i:=i) ⟨_,e'⟩ q nd hF λfq eq j a hj ha z=>by
  obtain⟨c,hc⟩:=eq.bound ha;rw[Zz2 (ZAx hj)]at hc;obtain⟨u1,s1,r1⟩:=eq.at_ j c (by rw[Zz2 (ZAx hj)]; exact hc);obtain⟨u2,s2,r2⟩:=e.at_ j c hc;rw[Zz2 (ZAx hj),s2]at s1;cases s1;have hm:a∈fp j:=by
   have r2':=r2.mono (H':=H') (Zs.refl F) λa ha o z=>.of (h2 a o z (e.dis j i a hj ha))
   clear r2
   generalize fq j=f1 at r1 ha;generalize fp j=f2 at r2' ⊢;cases r1 with
   | pl _=>simp at ha
   | hd _ _ _ _=>simp at ha
   | hf _=>simp at ha
   | ol _ _=>cases r2' with | ol _ _=>exact ha
   | ok _ _ _=>cases r2' with | ok _ _ _=>exact ha
   | ot _ _ _=>cases r2' with | ot _ _ _=>exact ha
   | otl a1 _ v1 _ =>
    cases r2' with
    | otl a2 _ v2 _ =>
     rw[a1]at a2;cases a2;rw[v1]at v2;have:∀{l l':List Addr},l.map V.ref=l'.map V.ref->l=l':=by
      intro l
      induction l with
      | nil=>intro l' h; cases l' with | nil=>rfl | cons _ _=>simp at h
      | cons x xs ih =>
       intro l' h;cases l' with
       | nil=>simp at h
       | cons y ys =>
        rw[Zzw,Zzw]at h;injection h with h1 h2
        injection h1 with h1
        rw[h1,ih h2]
     rw[<-this v2]; exact ha
  rcases h1 a z with w | w
  ·exact e.dis j i a hj hm w
  ·exact w.2.2 j hm
 rw[ZCY,ZCY]at e2;have es:σ.set i (some v)=σ:=by have hi:i<σ.length:=(ZzF.mp hv).1;have hq:σ[i]=some v:=(ZzF.mp hv).2;rw[<-hq];exact ZB4 hi
 rwa [es]at e2
theorem Zbv.change(e:Zbv K F0 H0 F H r σ fp)(hv:σ[i]?=some (some v)){fp':List Addr}(q:Zai K F H' b v fp')(nd:fp'.Nodup)(h1:∀a∈fp',a∈fp i\/H a=none)
  (h2:∀a o,H a=some o->¬a∈fp i->H' a=some o):At K F0 H0 F H' (r.set i (some b)) σ :=
 e.changeW hv q nd (λa ha=>(h1 a ha).imp id λz=>⟨e.sub.free z,e.ext.hh.free z,λj hj=>by obtain⟨o,ho⟩:=e.there hj;rw[z]at ho; cases ho⟩) h2
theorem At.storeNew{Hb:Hp}(e:At K F0 H0 F H r σ)(hb:At K F0 H0 F' Hb r σ)(sb:ZaG Hb H){fp':List Addr}(q:Zai K F H b v fp')(nd:fp'.Nodup)(h1:∀a∈fp',F a=none/\Hb a=none) :
  At K F0 H0 F H (r.set i (some b)) (σ.set i (some v)):=by
 refine e.store q nd (λa h=>⟨(h1 a h).1,hb.ext.hh.free (h1 a h).2⟩) λfp e1 j a hj ha z=>?_;obtain⟨fq,eb⟩:=hb;obtain⟨c,hc⟩:=e1.bound ha;obtain⟨u1,s1,r1⟩:=e1.at_ j c hc;obtain⟨u2,s2,r2⟩:=eb.at_ j c hc;rw[s2]at s1;cases s1;have hn:=(h1 a z).2;have old:∀{x:Addr} {o o':HO},Hb x=some o->H x=some o'->(∀ps,o'≠.tbl ps)->o=o':=λ{x o o'} h1 h2 n=>sb.back h1 h2 n;generalize fp j=f1 at r1 ha;generalize fq j=f2 at r2;cases r1 with
 | pl _=>simp at ha
 | hd _ _ _ _=>simp at ha
 | hf _=>simp at ha
 | ol k _=>cases r2 with | ol k' _=>simp at ha; subst ha; rw[hn]at k'; cases k'
 | ok k _ _=>cases r2 with | ok k' _ _=>simp at ha; subst ha; rw[hn]at k'; cases k'
 | ot k _ _=>cases r2 with | ot k' _ _=>simp at ha; subst ha; rw[hn]at k'; cases k'
 | otl k _ v1 _ =>
  cases r2 with
  | otl k' hk' v2 r2' =>
   have eo:=old k' k λ_ z=>by cases z
   injection eo with eo
   subst eo;have v2':=v2;rw[v1]at v2;rcases ZzH.mp ha with z2 | z2
   ·subst z2; rw[hn]at k'; cases k'
   ·have:V.ref a∈ZDb V.ref _:=Zzx.mpr ⟨a,z2,rfl⟩
    rw[v2]at this;obtain⟨a',m1,m2⟩:=Zzx.mp this;injection m2 with m2
    subst m2;obtain⟨o,ho⟩:=Zai.there (Zai.otl k' hk' v2' r2') (Zzu _ m1);rw[hn]at ho; cases ho
theorem At.rebase(e:At K F0 H0 F H r σ):At K F H0 F H r σ:=by obtain⟨fp,e⟩:=e;exact⟨fp,⟨Zs.refl F,e.ext.hh,e.ext.sub,λ_ _ z=>.inl z,e.ext.tab,id⟩,e.len,e.at_,e.emp,e.own,e.nd,e.dis,e.tb,e.ext.nts e.nt⟩
theorem Ext.unbase{F1 H1:Hp}(x:Ext F0 H0 F1 H1)(y:Ext F1 H0 F H):Ext F0 H0 F H :=
 ⟨x.ff.trans y.ff,y.hh,y.sub,λa o z=>(y.new a o z).elim (λq=>x.new a o q) .inr,y.tab,λt=>y.nts (x.nts t)⟩
theorem At.unbase{F1 H1:Hp}(x:Ext F0 H0 F1 H1)(n:NoT F0)(e:At K F1 H0 F H r σ):At K F0 H0 F H r σ:=by obtain⟨fp,e⟩:=e;exact⟨fp,x.unbase e.ext,e.len,e.at_,e.emp,e.own,e.nd,e.dis,e.tb,n⟩
theorem Zbv.freeze{fp:Nat->List Addr}(e:Zbv K F0 H0 F H r σ fp)(i:Nat){b:HM.B}{a:Addr}{ob:HO}{d:PyData}(hb:r[i]?=some (some b))(h1:σ[i]?=some (some (.ref a)))(hfp:fp i=[a])(ha:H a=some ob)(hr:Zs F (upd F a ob)->Rep K (upd F a ob) d (.ref a))(no:HP.nt ob=true:=by rfl) :
  ∃F',Ext F0 H0 F' H/\Zs F F'/\At K F0 H0 F' H (r.set i (some (.pl d))) σ:=by
 have hF:F a=none:=(e.own i a (by rw[hfp]; simp)).1;have s:Zs F (upd F a ob):=Zs.upd' hF;have x:Ext F0 H0 (upd F a ob) H:=by
  refine⟨e.ext.ff.trans s,e.ext.hh,λc o z=>?_,λc o z=>?_,e.ext.tab,λt=>(e.ext.nts t).upd no⟩
  ·by_cases hc:c=a
   ·subst hc; rw[ZH]at z; cases z; exact ha
   ·rw[ZD hc]at z; exact e.sub c o z
  ·by_cases hc:c=a
   ·subst hc; exact .inr (.inl (e.own i c (by rw[hfp]; simp)).2)
   ·rw[ZD hc]at z; exact e.ext.new c o z
 refine⟨_,x,s,?_⟩;have e1:Zbv K F0 H0 (upd F a ob) H (r.set i none) (σ.set i none) (λj=>if j=i then[]else fp j):=by
  refine⟨x,by rw[ZAG,ZAG,e.len],λj c h=>?_,λj h=>?_,λj c h=>?_,λj=>?_,λj k c hjk h=>?_,e.tb,e.nt⟩
  ·by_cases hj:j=i
   ·subst hj
    rw[ZAl (ZzF.mp hb).1]at h; cases h
   ·rw[Zz2 (ZAx hj)]at h
    obtain⟨u,q1,q2⟩:=e.at_ j c h;refine⟨u,by rw[Zz2 (ZAx hj)]; exact q1,?_⟩;rw[if_neg hj]; exact q2.mono s λ_ _ _ z=>.of z
  ·show(if j=i then[]else fp j)=[]
   by_cases hj:j=i
   ·rw[if_pos hj]
   ·rw[if_neg hj]
    exact e.emp j λc z=>h c (by rw[Zz2 (ZAx hj)]; exact z)
  ·by_cases hj:j=i
   ·rw[if_pos hj]at h; simp at h
   ·rw[if_neg hj]at h
    have hca:c≠a:=λz=>e.dis j i c hj h (by rw[hfp,z]; simp);exact⟨by rw[ZD hca]; exact(e.own j c h).1,(e.own j c h).2⟩
  ·show(if j=i then[]else fp j).Nodup
   by_cases hj:j=i
   ·rw[if_pos hj]; exact ZA9
   ·rw[if_neg hj]; exact e.nd j
  ·show ¬c∈(if k=i then[]else fp k)
   by_cases hj:j=i
   ·rw[if_pos hj]at h; simp at h
   ·rw[if_neg hj]at h
    by_cases hk:k=i
    ·rw[if_pos hk]; simp
    ·rw[if_neg hk]; exact e.dis j k c hjk h
 have rp:=hr s;have e2:=At.set (i:=i) ⟨_,e1⟩ rp;rw[ZCY,ZCY]at e2;have es:σ.set i (some (.ref a))=σ:=by have hi:i<σ.length:=(ZzF.mp h1).1;have hq:σ[i]=some (.ref a):=(ZzF.mp h1).2;rw[<-hq];exact ZB4 hi
 rwa [es]at e2
theorem At.freeze(e:At K F0 H0 F H r σ)(i:Nat):∃F',Ext F0 H0 F' H/\Zs F F'/\At K F0 H0 F' H (HM.ZlE i r) σ:=by
 unfold HM.ZlE;split
 ·rename_i ds hb
  obtain⟨fp,e⟩:=e;obtain⟨v,h1,h2⟩:=e.at_ i _ hb;generalize hfp:fp i=f at h2;cases h2 with
  | @ol a _ vs ha q=>exact e.freeze i hb h1 hfp ha λs=>.lst (.of ZH) q.1 (q.mono s).2
 ·rename_i kvs hb
  obtain⟨fp,e⟩:=e;obtain⟨v,h1,h2⟩:=e.at_ i _ hb;generalize hfp:fp i=f at h2;cases h2 with
  | @ot a _ vvs ha hk q=>exact e.freeze i hb h1 hfp ha λs=>.dct (.inl ZH) rfl hk (q.mono s).2
 ·exact⟨F,e.ext,Zs.refl F,e⟩
end
inductive Now(K:Zzp)(r:HM.Env)(σ:L2.St)(H:Hp)(C:Hp->Hp->Hp->Prop):Prop
 | mk (F0 H0 F:Hp) (at_:At K F0 H0 F H r σ) (k:C F0 H0 F):Now K r σ H C
end HP
namespace HP
open PySem PySem.Spec PyProof.Rows L2
variable[FX]
def tAt(K:Zzp)(r:HM.Env)(P:Hp->Hp->Hp->V->Prop):TE:=λσ H Q=>Now K r σ H λF0 H0 F=>∀v F' H',Ext F H F' H'->P H F' H' v->Q v H'
def XE(X:Cx)(e:Expr)(f:HM.EF):Prop:=∀r d,f r=some d->PE X e (tAt X.K r λ_ F' _ v=>Rep X.K F' d v)
def XB(X:Cx)(e:Expr)(f:HM.BF):Prop:=∀r b,f r=some b->PE X e (tAt X.K r λ_ F' H' v=>∃fp,Zai X.K F' H' b v fp)
def XF(X:Cx)(e:Expr)(f:HM.BF):Prop:=∀r b,f r=some b->PE X e (tAt X.K r λH F' H' v=>∃fp,Zai X.K F' H' b v fp/\fp.Nodup/\∀a∈fp,F' a=none/\H a=none)
def XT(X:Cx)(e:Expr)(f:HM.TF):Prop:=∀r c,f r=some c->PT X e λσ H Q=>Now X.K r σ H λF0 H0 F=>∀F' H',Ext F H F' H'->Q c H'
def XW(X:Cx)(e:Expr)(f:HM.TF):Prop:=∀r c,f r=some c->PW X e λσ H Q=>Now X.K r σ H λF0 H0 F=>∀F' H',Ext F H F' H'->Q c H'
structure XA(X:Cx)(es:List Expr)(f:HM.AF):Prop where
 len:∀r ds,f r=some ds->ds.length=es.length
 pa:∀r ds,f r=some ds->PA X es λσ H Q=>Now X.K r σ H λF0 H0 F=>∀vs F' H',Ext F H F' H'->Zy X.K F' ds vs->Q vs H'
def ItD(K:Zzp)(J:It)(ds:List PyData)(F:Hp):Prop:=∀F' H,Zs F F'->Zs F' H ->
 (∀(i:Nat) (d:PyData),ds[i]?=some d->J.go i H/\∀x H',J.yld i H x H'->H'=H/\Rep K (Zcl F' H) d x)/\J.stop ds.length H
def XI(X:Cx)(tg e:Expr)(f:HM.IF):Prop:=∀r ds,f r=some ds->PI X tg e λσ H R=>Now X.K r σ H λF0 H0 F=>∀J F' H',Ext F H F' H'->ItD X.K J ds F'->R J H'
def Zza(K:Zzp)(F0 H0:Hp)(o:HM.Out)(E:Ends):Prop:=match o with
 | .nx r=>∀σ F H,At K F0 H0 F H r σ->E.nx σ H
 | .rt d=>∀v F H,Ext F0 H0 F H->Rep K F d v->E.rt v H
 | .bk r=>∀σ F H,At K F0 H0 F H r σ->E.bk σ H
 | .ct r=>∀σ F H,At K F0 H0 F H r σ->E.ct σ H
def tSt(K:Zzp)(r:HM.Env)(o:HM.Out):TS:=λE σ H=>Now K r σ H λF0 H0 F=>Zza K F0 H0 o E
def XS(X:Cx)(st:Stmt)(g:HM.SF):Prop:=∀r o,g r=some o->PS X st (tSt X.K r o)
def XSs(X:Cx)(sts:List Stmt)(g:HM.SF):Prop:=∀r o,g r=some o->PSs X sts (tSt X.K r o)
theorem PE.imp{X:Cx}{e:Expr}{t u:TE}(h:PE X e t)(hi:∀σ H Q,u σ H Q->t σ H Q):PE X e u:=λpins s σ H Q I q=>h pins s σ H Q I (hi σ H Q q)
theorem PT.imp{X:Cx}{e:Expr}{t u:TT}(h:PT X e t)(hi:∀σ H Q,u σ H Q->t σ H Q):PT X e u:=λpins s σ H Q I q=>h pins s σ H Q I (hi σ H Q q)
theorem PW.imp{X:Cx}{e:Expr}{t u:TT}(h:PW X e t)(hi:∀σ H Q,u σ H Q->t σ H Q):PW X e u:=λwh pins s σ H Q I q=>h wh pins s σ H Q I (hi σ H Q q)
theorem PA.imp{X:Cx}{es:List Expr}{t u:TA}(h:PA X es t)(hi:∀σ H Q,u σ H Q->t σ H Q):PA X es u:=λp pins s σ H Q I q=>h p pins s σ H Q I (hi σ H Q q)
theorem PS.imp{X:Cx}{st:Stmt}{t u:TS}(h:PS X st t)(hi:∀E σ H,u E σ H->t E σ H):PS X st u:=λpins s σ H E I q=>h pins s σ H E I (hi E σ H q)
theorem PSs.imp{X:Cx}{sts:List Stmt}{t u:TS}(h:PSs X sts t)(hi:∀E σ H,u E σ H->t E σ H):PSs X sts u:=λpins s σ H E I q=>h pins s σ H E I (hi E σ H q)
section
variable{X:Cx}{a b c e:Expr}{fa fb fc:HM.EF}{pos p:Pos}
theorem ZuI{i:Nat}{r:HM.Env}{d:PyData}(h:HM.Za i r=some d):r[i]?=some (some (.pl d)):=by
 unfold HM.Za at h;split at h
 ·rename_i q; cases h; exact q
 ·cases h
theorem ZuQ{i:Nat}{r:HM.Env}{d:HM.B}(h:HM.Zl i r=some d):r[i]?=some (some d):=by
 unfold HM.Zl at h;split at h
 ·rename_i q; cases h; exact q
 ·cases h
theorem Zb(i:Nat){x:Str}{pos:Pos}(hN:X.N[i]?=some x:=by rfl)(hv:Vis X.env.scope x:=by first | exact ZAe rfl | exact ZzY (ZAe rfl) | exact ZzY (ZzY rfl))(hd:(x==("__debug__":Str))=false:=by decide)
  (hcd:(x==("__classdict__":Str))=false:=by decide):XE X (.Name x pos) (HM.Za i):=by
 intro r d h;refine PE.imp (ZbU hN hv hd hcd) λσ H Q ⟨F0,H0,F,at_,k⟩=>?_;obtain⟨v,h1,h2⟩:=at_.plain (ZuI h);exact⟨v,h1,k v F H at_.refl h2⟩
theorem Zq(i:Nat){x:Str}{pos:Pos}(hN:X.N[i]?=some x:=by rfl)(hv:Vis X.env.scope x:=by first | exact ZAe rfl | exact ZzY (ZAe rfl) | exact ZzY (ZzY rfl))(hd:(x==("__debug__":Str))=false:=by decide)
  (hcd:(x==("__classdict__":Str))=false:=by decide):XB X (.Name x pos) (HM.Zl i):=by
 intro r d h;refine PE.imp (ZbU hN hv hd hcd) λσ H Q ⟨F0,H0,F,at_,k⟩=>?_;obtain⟨v,fp,h1,h2⟩:=at_.any (ZuQ h);exact⟨v,h1,k v F H at_.refl ⟨fp,h2⟩⟩
theorem Zeg{v:V}{d:PyData}(h:PE X e (tC v))(r:∀F,Rep X.K F d v):XE X e (HM.eC d):=by intro r' d' h';cases h';exact PE.imp h λσ H Q ⟨F0,H0,F,at_,k⟩=>k v F H at_.refl (r F)
theorem Zi{i:Int}{j:Nat}:XE X (.Constant (.int i) j pos) (HM.eC (.int i)):=Zeg Zs1 λ_=>.int i
theorem ZcK{q:Bool}{j:Nat}:XE X (.Constant (.bool q) j pos) (HM.eC (.bool q)):=Zeg Zx1 λ_=>.bl q
theorem ZbD{j:Nat}:XE X (.Constant .none j pos) (HM.eC .none):=Zeg Zta λ_=>.non
theorem Zk4{x:Str}{j:Nat}:XE X (.Constant (.str x) j pos) (HM.eC (.str x)):=Zeg ZwQ λ_=>.str x
theorem ZjN{x:Str}{i:Int}(hm:∃t,X.mg x=some (.int i t))(hg:Gl X x:=by rfl)(hd:(x==("__debug__":Str))=false:=by decide):XE X (.Name x pos) (HM.eC (.int i)):=by obtain⟨t,hm⟩:=hm;exact Zeg (Zl3 hg hm (v:=.int i) ⟨t,rfl⟩ hd) λ_=>.int i
theorem ZiX{i:Int}{j:Nat}{p':Pos}:XE X (.UnaryOp .USub (.Constant (.int i) j p') pos) (HM.eC (.int (-i))):=by intro r d h;cases h;intro pins s σ H Q I q;obtain⟨F0,H0,F,at_,k⟩:=q;refine UnaryOp_ (thn (Zs1 pins s σ H (λv H'=>v=.int i/\H'=H) I ⟨rfl,rfl⟩) λu s1 ⟨x,H1,I1,r1,e1,e2⟩=>?_);subst e1 e2;obtain⟨t,rfl⟩:=r1;exact neg_int ⟨.int (-i),H1,I1.tok _,⟨_,rfl⟩,k _ F H1 at_.refl (.int _)⟩
theorem ZaI(h:XE X e fa):XB X e (HM.bOf fa):=by intro r b hb;obtain⟨d,h1,h2⟩:=Zzs.mp hb;subst h2;exact PE.imp (h r d h1) λσ H Q ⟨F0,H0,F,at_,k⟩=>⟨F0,H0,F,at_,λv F' H' x q=>k v F' H' x ⟨[],.pl q⟩⟩
theorem ZaX{f:HM.BF}(h:XF X e f):XB X e f:=λr b hb=>PE.imp (h r b hb) λσ H Q ⟨F0,H0,F,at_,k⟩=>⟨F0,H0,F,at_,λv F' H' x ⟨fp,q,_⟩=>k v F' H' x ⟨fp,q⟩⟩
theorem ZdO{f:HM.BF}(h:XF X e f):XE X e (HM.eOf f):=by
 intro r d hd;unfold HM.eOf at hd;obtain⟨b,h1,h2⟩:=ZCw.mp hd;refine PE.imp (h r b h1) λσ H Q ⟨F0,H0,F,at_,k⟩=>⟨F0,H0,F,at_,λv F' H' x ⟨fp,q,_,hn⟩=>?_⟩;cases q with
 | pl q=>cases h2;exact k v F' H' x q
 | @ol l ds vs hl q =>
  cases h2;have hF:F' l=none:=(hn l (by simp)).1;have s:Zs F' (upd F' l (.lst vs)):=Zs.upd' hF;refine k _ (upd F' l (.lst vs)) H' ⟨x.ff.trans s,x.hh,λc o z=>?_,λc o z=>?_,x.tab,λt=>(x.nts t).upd rfl⟩ (.lst (.of ZH) q.1 (q.mono s).2)
  ·by_cases hc:c=l
   ·subst hc; rw[ZH]at z; cases z; exact hl
   ·rw[ZD hc]at z; exact x.sub c o z
  ·by_cases hc:c=l
   ·subst hc; exact .inr (.inl (hn c (by simp)).2)
   ·rw[ZD hc]at z; exact x.new c o z
 | @ot l kvs vvs hl hk q =>
  cases h2;have hF:F' l=none:=(hn l (by simp)).1;have s:Zs F' (upd F' l (.dT vvs)):=Zs.upd' hF;refine k _ (upd F' l (.dT vvs)) H' ⟨x.ff.trans s,x.hh,λc o z=>?_,λc o z=>?_,x.tab,λt=>(x.nts t).upd rfl⟩ (.dct (.inl ZH) rfl hk (q.mono s).2)
  ·by_cases hc:c=l
   ·subst hc; rw[ZH]at z; cases z; exact hl
   ·rw[ZD hc]at z; exact x.sub c o z
  ·by_cases hc:c=l
   ·subst hc; exact .inr (.inl (hn c (by simp)).2)
   ·rw[ZD hc]at z; exact x.new c o z
 | ok _ _ _=>cases h2
 | hd h3 h4 h5 h6=>cases h2; exact k _ F' H' x (.dct (.inr ⟨_,h3⟩) h4 h5 h6.2)
 | hf h3=>cases h2; exact k _ F' H' x (.fn h3)
 | otl _ _ _ _=>cases h2
def Bin(K:Zzp)(r:R2)(g:PyData->PyData->Option PyData):Prop:=∀(F H:Hp) (x y z:PyData) (v w:V) (Q:VK),Zs F H->g x y=some z->Rep K F x v->Rep K F y w->(∀u,Rep K F z u->Q u H)->r v w H Q
structure ZoB(X:Cx)(op:Operator)(g:PyData->PyData->Option PyData):Prop where
 ex:∃r,OpR X (ZCO op) r/\Bin X.K r g
structure Ze7(X:Cx)(op:CmpOp)(g:PyData->PyData->Option PyData):Prop where
 ex:∃r,OpR X (ZAu op) r/\Bin X.K r g
 n1:op≠.In
 n2:op≠.NotIn
theorem ZhT{g:PyData->PyData->Option PyData}{r:HM.Env}{d:PyData}(h:HM.op2 g fa fb r=some d):∃x y,fa r=some x/\fb r=some y/\g x y=some d:=by
 unfold HM.op2 at h;split at h
 ·split at h
  ·exact⟨_,_,by assumption,by assumption,h⟩
  ·cases h
 ·cases h
theorem two{K:Zzp}{r:HM.Env}{x y:PyData}{P:Hp->Hp->Hp->V->Prop}{σ:L2.St}{H:Hp}{Q:VK}{R:V->V->Hp->VK->Prop}(h:tAt K r P σ H Q)
  (hk:∀H F2 H2 v w,Zs F2 H2->Rep K F2 x v->Rep K F2 y w->(∀u F3 H3,Ext F2 H2 F3 H3->P H F3 H3 u->Q u H3)->ZaG H H2->R v w H2 Q) :
  tOp R (tAt K r λ_ F' _ v=>Rep K F' x v) (tAt K r λ_ F' _ v=>Rep K F' y v) σ H Q:=by
 obtain⟨F0,H0,F,at_,k⟩:=h;refine⟨F0,H0,F,at_,λv F1 H1 x1 r1=>⟨F0,H0,F1,at_.grow x1,λw F2 H2 x2 r2=>?_⟩⟩;exact hk H F2 H2 v w x2.sub (r1.mono x2.ff) r2 (λu F3 H3 x3 q=>k u F3 H3 ((x1.trans x2).trans x3) q) (x1.hh.trans x2.hh)
theorem ZN{op:Operator}{g:PyData->PyData->Option PyData}(o:ZoB X op g)(ha:XE X a fa)(hb:XE X b fb):XE X (.BinOp a op b pos) (HM.op2 g fa fb):=by intro r d h;obtain⟨x,y,h1,h2,h3⟩:=ZhT h;obtain⟨R,o1,o2⟩:=o.ex;refine PE.imp (ZrN o1 (ha r x h1) (hb r y h2)) λσ H Q q=>?_;exact two q λ_ F2 H2 v w s r1 r2 k _=>o2 F2 H2 x y d v w Q s h3 r1 r2 λu ru=>k u F2 H2 (.refl s) ru
theorem ZhJ{op:CmpOp}{g:PyData->PyData->Option PyData}(o:Ze7 X op g)(ha:XE X a fa)(hb:XE X b fb):XE X (.Compare a [op] [b] pos) (HM.op2 g fa fb):=by intro r d h;obtain⟨x,y,h1,h2,h3⟩:=ZhT h;obtain⟨R,o1,o2⟩:=o.ex;refine PE.imp (Zq1 o1 (ha r x h1) (hb r y h2) (Zk0 _ o.n1 o.n2)) λσ H Q q=>?_;exact two q λ_ F2 H2 v w s r1 r2 k _=>o2 F2 H2 x y d v w Q s h3 r1 r2 λu ru=>k u F2 H2 (.refl s) ru
theorem ZfL{r:HM.Env}{c:Bool}(h:HM.tV fa r=some c):fa r=some (.bool c):=by
 unfold HM.tV at h;split at h
 ·rename_i q; cases h; exact q
 ·cases h
theorem Rep.bool_inv{K:Zzp}{F:Hp}{c:Bool}{v:V}(h:Rep K F (.bool c) v):v=.bl c:=by cases h; rfl
theorem Rep.int_inv{K:Zzp}{F:Hp}{i:Int}{v:V}(h:Rep K F (.int i) v):v=.int i:=by cases h; rfl
theorem Rep.none_inv{K:Zzp}{F:Hp}{v:V}(h:Rep K F .none v):v=.non:=by cases h; rfl
theorem Z9{op:CmpOp}{g:PyData->PyData->Option PyData}(o:Ze7 X op g)(ha:XE X a fa)(hb:XE X b fb):XT X (.Compare a [op] [b] pos) (HM.tV (HM.op2 g fa fb)):=by intro r d h;obtain⟨x,y,h1,h2,h3⟩:=ZhT (ZfL h);obtain⟨R,o1,o2⟩:=o.ex;refine PT.imp (ZlS o1 (ha r x h1) (hb r y h2) (Zk0 _ o.n1 o.n2)) λσ H Q ⟨F0,H0,F,at_,k⟩=>?_;refine⟨F0,H0,F,at_,λv F1 H1 x1 r1=>⟨F0,H0,F1,at_.grow x1,λw F2 H2 x2 r2=>?_⟩⟩;refine o2 F2 H2 x y _ v w _ x2.sub h3 (r1.mono x2.ff) r2 λu ru=>?_;exact⟨d,ru.bool_inv,k F2 H2 (x1.trans x2)⟩
theorem ZbB(h:XE X e fa)(he:∀whole,isTrue e X.env whole=(do let v <-whole; standAt e.pos; holding [v] (truthy v)):=by intro _; rfl):XT X e (HM.tV fa):=by intro r c hc;refine PT.imp (Zxj (h r _ (ZfL hc)) he) λσ H Q ⟨F0,H0,F,at_,k⟩=>?_;exact⟨F0,H0,F,at_,λv F1 H1 x1 r1=>⟨c,r1.bool_inv,k F1 H1 x1⟩⟩
theorem ZcL{t:HM.TF}(h:XT X a t):XT X (.UnaryOp .Not a pos) (HM.Zb7 t):=by intro r c hc;obtain⟨d,h1,h2⟩:=Zzs.mp hc;subst h2;refine PT.imp (ZwI (h r d h1)) λσ H Q ⟨F0,H0,F,at_,k⟩=>?_;exact⟨F0,H0,F,at_,λF1 H1 x1=>k F1 H1 x1⟩
theorem ZiY{t:HM.TF}(h:XW X e t):XT X e t:=λr c hc=>(h r c hc).pt
theorem Zqw{t:HM.TF}(h:XT X a t):XW X (.BoolOp .And [a] pos) t:=λr c hc=>ZvX (h r c hc)
theorem ZhK{t:HM.TF}(h:XT X a t):XW X (.BoolOp .Or [a] pos) t:=λr c hc=>Zxg (h r c hc)
theorem Zpm{e:Expr}:PW X e λ_ _ _=>False:=λ_ _ _ _ _ _ _ h=>h.elim
theorem ZgT{e:Expr}:PE X e λ_ _ _=>False:=λ_ _ _ _ _ _ h=>h.elim
theorem Zsc{t u:HM.TF}{rest:List Expr}(ha:XT X a t)(hb:XW X (.BoolOp .And (b::rest) pos) u):XW X (.BoolOp .And (a::b::rest) pos) (HM.ZhC t u):=by
 intro r c hc;unfold HM.ZhC at hc;split at hc
 ·rename_i q
  refine PW.imp (Ztm (ha r true q) (hb r c hc)) λσ H Q ⟨F0,H0,F,at_,k⟩=>?_;exact⟨F0,H0,F,at_,λF1 H1 x1=>ZkN ⟨F0,H0,F1,at_.grow x1,λF2 H2 x2=>k F2 H2 (x1.trans x2)⟩⟩
 ·rename_i q
  cases hc;refine PW.imp (Ztm (ha r false q) Zpm) λσ H Q ⟨F0,H0,F,at_,k⟩=>?_;exact⟨F0,H0,F,at_,λF1 H1 x1=>ZkQ (k F1 H1 x1)⟩
 ·cases hc
theorem ZgY{t u:HM.TF}{rest:List Expr}(ha:XT X a t)(hb:XW X (.BoolOp .Or (b::rest) pos) u):XW X (.BoolOp .Or (a::b::rest) pos) (HM.tOr t u):=by
 intro r c hc;unfold HM.tOr at hc;split at hc
 ·rename_i q
  cases hc;refine PW.imp (Zvl (ha r true q) Zpm) λσ H Q ⟨F0,H0,F,at_,k⟩=>?_;exact⟨F0,H0,F,at_,λF1 H1 x1=>ZkN (k F1 H1 x1)⟩
 ·rename_i q
  refine PW.imp (Zvl (ha r false q) (hb r c hc)) λσ H Q ⟨F0,H0,F,at_,k⟩=>?_;exact⟨F0,H0,F,at_,λF1 H1 x1=>ZkQ ⟨F0,H0,F1,at_.grow x1,λF2 H2 x2=>k F2 H2 (x1.trans x2)⟩⟩
 ·cases hc
theorem ZeD{op:BoolOp}(h:XE X a fa):XE X (.BoolOp op [a] pos) fa:=λr d hd=>Zxz (h r d hd)
theorem ZeE{rest:List Expr}(ha:XE X a fa)(hb:XE X (.BoolOp .And (b::rest) pos) fb):XE X (.BoolOp .And (a::b::rest) pos) (HM.ZgI fa fb):=by
 intro r d hd;unfold HM.ZgI at hd;split at hd
 ·rename_i q
  refine PE.imp (ZsJ (ha r _ q) (hb r d hd)) λσ H Q ⟨F0,H0,F,at_,k⟩=>?_;exact⟨F0,H0,F,at_,λv F1 H1 x1 r1=>⟨true,r1.bool_inv,ZkN ⟨F0,H0,F1,at_.grow x1,λw F2 H2 x2 r2=>k w F2 H2 (x1.trans x2) r2⟩⟩⟩
 ·rename_i q
  cases hd;refine PE.imp (ZsJ (ha r _ q) ZgT) λσ H Q ⟨F0,H0,F,at_,k⟩=>?_;exact⟨F0,H0,F,at_,λv F1 H1 x1 r1=>⟨false,r1.bool_inv,ZkQ (k _ F1 H1 x1 (.bl false))⟩⟩
 ·cases hd
theorem Zwt(ha:XE X a fa):XE X (.UnaryOp .Not a pos) (HM.Zuh fa):=by
 intro r d hd;unfold HM.Zuh at hd;split at hd
 ·rename_i c q
  cases hd;refine PE.imp (ZxO (ha r _ q)) λσ H Q ⟨F0,H0,F,at_,k⟩=>?_;exact⟨F0,H0,F,at_,λv F1 H1 x1 r1=>⟨c,r1.bool_inv,k _ F1 H1 x1 (.bl _)⟩⟩
 ·cases hd
theorem Zvf{t:HM.TF}(hc:XT X c t)(ha:XE X a fa)(hb:XE X b fb):XE X (.IfExp c a b pos) (HM.eIf t fa fb):=by
 intro r d hd;unfold HM.eIf at hd;split at hd
 ·rename_i q
  refine PE.imp (Zpr (hc r _ q) (ha r d hd) ZgT) λσ H Q ⟨F0,H0,F,at_,k⟩=>?_;exact⟨F0,H0,F,at_,λF1 H1 x1=>ZkN ⟨F0,H0,F1,at_.grow x1,λw F2 H2 x2 r2=>k w F2 H2 (x1.trans x2) r2⟩⟩
 ·rename_i q
  refine PE.imp (Zpr (hc r _ q) ZgT (hb r d hd)) λσ H Q ⟨F0,H0,F,at_,k⟩=>?_;exact⟨F0,H0,F,at_,λF1 H1 x1=>ZkQ ⟨F0,H0,F1,at_.grow x1,λw F2 H2 x2 r2=>k w F2 H2 (x1.trans x2) r2⟩⟩
 ·cases hd
theorem Znu{op op':CmpOp}{g g':PyData->PyData->Option PyData}(o:Ze7 X op g)(o':Ze7 X op' g')(ha:XE X a fa)(hb:XE X b fb)(hc:XE X c fc)
  (hm:lastMarks [op,op'] [b,c]=false:=by with_unfolding_all rfl):XE X (.Compare a [op,op'] [b,c] pos) (HM.ZfH g g' fa fb fc):=by
 intro r d hd;unfold HM.ZfH at hd;obtain⟨R,o1,o2⟩:=o.ex;obtain⟨R',o1',o2'⟩:=o'.ex;split at hd
 ·rename_i x hx
  split at hd
  ·rename_i y hy
   split at hd
   ·rename_i hg
    split at hd
    ·rename_i z hz
     refine PE.imp (Zpy o1 o1' (ha r x hx) (hb r y hy) (hc r z hz) hm) λσ H Q ⟨F0,H0,F,at_,k⟩=>?_;refine⟨F0,H0,F,at_,λv F1 H1 x1 r1=>⟨F0,H0,F1,at_.grow x1,λw F2 H2 x2 r2=>?_⟩⟩;refine o2 F2 H2 x y _ v w _ x2.sub hg (r1.mono x2.ff) r2 λu ru=>?_;refine⟨true,ru.bool_inv,ZkN ⟨F0,H0,F2,(at_.grow x1).grow x2,λw' F3 H3 x3 r3=>?_⟩⟩;exact o2' F3 H3 y z d w w' Q x3.sub hd (r2.mono x3.ff) r3 λu' ru'=>k u' F3 H3 ((x1.trans x2).trans x3) ru'
    ·cases hd
   ·rename_i hg
    cases hd;refine PE.imp (Zpy o1 o1' (ha r x hx) (hb r y hy) ZgT hm) λσ H Q ⟨F0,H0,F,at_,k⟩=>?_;refine⟨F0,H0,F,at_,λv F1 H1 x1 r1=>⟨F0,H0,F1,at_.grow x1,λw F2 H2 x2 r2=>?_⟩⟩;refine o2 F2 H2 x y _ v w _ x2.sub hg (r1.mono x2.ff) r2 λu ru=>?_;exact⟨false,ru.bool_inv,ZkQ (k _ F2 H2 (x1.trans x2) (.bl false))⟩
   ·cases hd
  ·cases hd
 ·cases hd
theorem Zk:XA X [] HM.Zm:=by refine⟨λr ds h=>by cases h; rfl,λr ds h=>?_⟩;cases h;exact PA.imp ZbV λσ H Q ⟨F0,H0,F,at_,k⟩=>k [] F H at_.refl .nil
theorem Zd{es:List Expr}{f:HM.AF}(ha:XE X e fa)(hr:XA X es f)(hs:ZzC (e::es) X.env=(false,eval e X.env)::ZzC es X.env:=by rfl):XA X (e::es) (HM.Zc fa f):=by
 refine⟨λr ds h=>?_,λr ds h=>?_⟩
 ·unfold HM.Zc at h
  split at h
  ·obtain⟨xs,h1,h2⟩:=Zzs.mp h
   subst h2;rw[ZzG,ZzG,hr.len r xs h1]
  ·cases h
 unfold HM.Zc at h;split at h
 ·rename_i x hx
  obtain⟨xs,h1,h2⟩:=Zzs.mp h;subst h2;refine PA.imp (Zas (ha r x hx) (hr.pa r xs h1) hs) λσ H Q ⟨F0,H0,F,at_,k⟩=>?_;exact⟨F0,H0,F,at_,λv F1 H1 x1 r1=>⟨F0,H0,F1,at_.grow x1,λvs F2 H2 x2 r2=>k (v::vs) F2 H2 (x1.trans x2) (.cons (r1.mono x2.ff) r2)⟩⟩
 ·cases h
theorem Zc7{es:List Expr}{f:HM.AF}{x1:Nat}(h:XA X es f)(hl:es.length<=100:=by exact Nat.le_of_ble_eq_true rfl):XE X (.Tuple es x1 pos) (HM.ZcF f):=by
 intro r d hd;obtain⟨ds,h1,h2⟩:=Zzs.mp hd;subst h2;refine PE.imp (ZwN (h.pa r ds h1)) λσ H Q ⟨F0,H0,F,at_,k⟩=>⟨F0,H0,F,at_,λvs F1 H1 x1 r1=>⟨?_,λp hp=>?_⟩⟩
 ·have e1:=h.len r ds h1
  have e2:=r1.1;have e3:(100:Nat)<=sizeLine:=by decide
  omega
 ·have hF:F1 p=none:=x1.sub.free hp
  exact k _ (upd F1 p (.tup vs)) _ (x1.lay hp) (.tup ZH r1.1 (r1.mono (Zs.upd' hF)).2)
theorem Zcu{es:List Expr}{f:HM.AF}(h:XA X es f)(hl:es.length<=100:=by exact Nat.le_of_ble_eq_true rfl):XF X (.List es pos) (HM.Zfo f):=by
 intro r d hd;obtain⟨ds,h1,h2⟩:=Zzs.mp hd;subst h2;refine PE.imp (Zxx (h.pa r ds h1)) λσ H Q ⟨F0,H0,F,at_,k⟩=>⟨F0,H0,F,at_,λvs F1 H1 x1 r1=>⟨?_,λp hp=>?_⟩⟩
 ·have e1:=h.len r ds h1
  have e2:=r1.1;have e3:(100:Nat)<=sizeLine:=by decide
  omega
 ·have hF:F1 p=none:=x1.sub.free hp
  refine k _ F1 _ (x1.lay' hp) ⟨[p],.ol ZH r1,by simp,λa ha=>?_⟩;have:a=p:=by simpa using ha
  subst this;exact⟨hF,x1.hh.free hp⟩
end
end HP
namespace HP
open PySem PySem.Spec PyProof.Rows L2
variable[FX]
section
variable{X:Cx}{a b c e:Expr}{fa fb fc:HM.EF}{pos p:Pos}{st:Stmt}{rest:List Stmt}{g u:HM.SF}
theorem ZmB(h:X.xe=λ_ _=>False):PassesOwn (model X.prog X.w) X.A X.env X.xe:=by rw[h]; exact PassesOwn.never
theorem ZV:XSs X [] HM.Zan:=by intro r o h;cases h;exact PSs.imp Zv2 λE σ H ⟨F0,H0,F,at_,k⟩=>k σ F H at_
theorem Zj(h:XS X st g):XSs X [st] g:=λr o ho=>ZqB (h r o ho)
theorem Zh(h1:XS X st g)(h2:XSs X rest u):XSs X (st::rest) (HM.Zt g u):=by
  intro r o h
  unfold HM.Zt at h
  split at h
  · rename_i r' q
    refine PSs.imp (Zii (h1 r _ q) (h2 r' o h)) λE σ H ⟨F0,H0,F,at_,k⟩=>?_
    exact⟨F0,H0,F,at_,λσ' F' H' at'=>⟨F0,H0,F',at',k⟩⟩
  all_goals first
    | cases h
      rename_i q
      refine PSs.imp (Zii (h1 r _ q) Zg6) λE σ H ⟨F0,H0,F,at_,k⟩=>?_
      exact⟨F0,H0,F,at_,k⟩
    | cases h
theorem Znv:XS X st HM.Zjz:=λr o h=>nomatch h
theorem Zz(h:XE X e fa):XS X (.Return (some e) pos) (HM.ZF fa):=by intro r o ho;obtain⟨d,h1,h2⟩:=Zzs.mp ho;subst h2;refine PS.imp (ZoC (h r d h1)) λE σ H ⟨F0,H0,F,at_,k⟩=>?_;exact⟨F0,H0,F,at_,λv F' H' x q=>k v F' H' (at_.ext.trans x) q⟩
theorem Zqx(h:XE X e fa)(hs:ZBC e none pos.line X.env=pure false:=by rfl):XS X (.Expr e pos) (HM.ZrJ fa):=by intro r o ho;obtain⟨d,h1,h2⟩:=Zzs.mp ho;subst h2;refine PS.imp (ZhX (h r d h1) hs) λE σ H ⟨F0,H0,F,at_,k⟩=>?_;exact⟨F0,H0,F,at_,λv F' H' x q=>k σ F' H' (at_.grow x)⟩
theorem Zar{t:HM.TF}{sa sb:List Stmt}(hc:XT X c t)(ha:XSs X sa g)(hb:XSs X sb u):XS X (.If c sa sb pos) (HM.sIf t g u):=by
 intro r o ho;unfold HM.sIf at ho;split at ho
 ·rename_i q
  refine PS.imp (Zvh (hc r _ q) (ha r o ho) Zg6) λE σ H ⟨F0,H0,F,at_,k⟩=>?_;exact⟨F0,H0,F,at_,λF' H' x=>ZkN ⟨F0,H0,F',at_.grow x,k⟩⟩
 ·rename_i q
  refine PS.imp (Zvh (hc r _ q) Zg6 (hb r o ho)) λE σ H ⟨F0,H0,F,at_,k⟩=>?_;exact⟨F0,H0,F,at_,λF' H' x=>ZkQ ⟨F0,H0,F',at_.grow x,k⟩⟩
 ·cases ho
theorem Zdt(i:Nat)(h:XS X st g):XS X st (HM.Zfi i g):=by intro r o ho;refine PS.imp (h (HM.ZlE i r) o ho) λE σ H ⟨F0,H0,F,at_,k⟩=>?_;obtain⟨F',_,_,a'⟩:=at_.freeze i;exact⟨F0,H0,F',a',k⟩
theorem ZL(i:Nat){x:Str}{p':Pos}(hN:X.N.Nodup)(h:XE X e fa)(hi:X.N[i]?=some x:=by rfl)(hx:Loc X.env.scope x:=by first | exact ZAe rfl | exact ZzY rfl)
  (hs:ZBC e (some (.Name x p')) pos.line X.env=pure false:=by rfl) (hf:X.fn x=true\/X.env.scope.names.lookup x=some .local:=by first | exact .inl rfl | exact .inr rfl) :
  XS X (.Assign [.Name x p'] e pos) (HM.ZW i fa):=by
 intro r o ho;obtain⟨d,h1,h2⟩:=Zzs.mp ho;subst h2;refine PS.imp (Zpt hN hi hx (h r d h1) hs hf) λE σ H ⟨F0,H0,F,at_,k⟩=>?_;exact⟨F0,H0,F,at_,λv F' H' x q=>k _ F' H' ((at_.grow x).set q)⟩
theorem Zat(i:Nat){x:Str}{p':Pos}{f:HM.BF}(hN:X.N.Nodup)(h:XF X e f)(hi:X.N[i]?=some x:=by rfl)(hx:Loc X.env.scope x:=by first | exact ZAe rfl | exact ZzY rfl)
  (hs:ZBC e (some (.Name x p')) pos.line X.env=pure false:=by rfl) (hf:X.fn x=true\/X.env.scope.names.lookup x=some .local:=by first | exact .inl rfl | exact .inr rfl) :
  XS X (.Assign [.Name x p'] e pos) (HM.Z1 i f):=by
 intro r o ho;obtain⟨d,h1,h2⟩:=Zzs.mp ho;subst h2;refine PS.imp (Zpt hN hi hx (h r d h1) hs hf) λE σ H ⟨F0,H0,F,at_,k⟩=>?_;exact⟨F0,H0,F,at_,λv F' H' x ⟨fp,q,nd,hn⟩=>k _ F' H' ((at_.grow x).storeNew at_ x.hh q nd hn)⟩
theorem Za5(i:Nat){x:Str}{p':Pos}{iter:Expr}{body:List Stmt}{fi:HM.IF}(hN:X.N.Nodup)(hxe:X.xe=λ_ _=>False)(hc:X.calm=true)(hi:XI X (.Name x p') iter fi)(hb:XSs X body g)(hix:X.N[i]?=some x:=by rfl)
  (hx:Loc X.env.scope x:=by first | exact ZAe rfl | exact ZzY rfl) (hf:X.fn x=true\/X.env.scope.names.lookup x=some .local:=by first | exact .inl rfl | exact .inr rfl)
  (hs:∀x,ZBb iter X.env x=pure x:=by intro _; rfl):XS X (.For (.Name x p') iter body [] pos) (HM.ZaN i fi g):=by
 intro r o ho;unfold HM.ZaN at ho;split at ho
 ·rename_i ds hds
  split at ho
  ·rename_i hbig
   have pb:PSs X body (λE σ H=>∃r o,g r=some o/\tSt X.K r o E σ H):=λpins s σ H E I ⟨r,o,h1,h2⟩=>hb r o h1 pins s σ H E I h2;refine PS.imp (Zw7 (ZmB hxe) hc (hi r ds hds) (ZjO hN hix hx hf) pb hs) λE σ H ⟨F0,H0,F,at_,k⟩=>?_;refine⟨F0,H0,F,at_,λJ F1 H1 x1 it=>?_⟩;refine⟨λn m σ H=>∃F r,At X.K F0 H0 F H r σ/\Zs F1 F/\n+m=ds.length/\HM.Z7 i g (ds.drop n) r=some o,⟨ds.length,F1,r,at_.grow x1,Zs.refl _,by omega,ho⟩,?_⟩
   rintro n m σ H ⟨F2,r2,at2,s2,hn,go⟩
   obtain⟨it1,it2⟩:=it F2 H s2 at2.sub;cases m with
   | zero =>
    have e:n=ds.length:=by omega
    subst e;rw[List.drop_length]at go;cases go;exact .inl ⟨it2,k σ F2 H at2⟩
   | succ m =>
    have hlt:n<ds.length:=by omega
    rw[ZDB hlt]at go;obtain⟨j1,j2⟩:=it1 n ds[n] (ZzD hlt);refine .inr ⟨j1,λσ' H'=>∃F r,At X.K F0 H0 F H' r σ'/\Zs F1 F/\HM.Z7 i g (ds.drop (n+1)) r=some o,λσ' H' ⟨F,r,a1,a2,a3⟩=>⟨m,by omega,F,r,a1,a2,by omega,a3⟩,λy H' hy=>?_⟩;obtain⟨e1,ry⟩:=j2 y H' hy;subst e1;obtain⟨F3,at3,s3,ry⟩:∃F3,At X.K F0 H0 F3 H' r2 σ/\Zs F1 F3/\Rep X.K F3 ds[n] y:=⟨_,at2.grow at2.refl.tups,s2.trans (ZdZ at2.sub),ry⟩;have a3:=at3.set (i:=i) ry;have a4:=a3.rebase;unfold HM.Z7 at go;split at go
    ·rename_i r' hr
     exact⟨_,_,hr,F3,H0,F3,a4,λσ' F' H' a'=>⟨F',r',a'.unbase at3.ext at3.nt0,s3.trans a'.ext.ff,go⟩⟩
    ·rename_i r' hr
     exact⟨_,_,hr,F3,H0,F3,a4,λσ' F' H' a'=>⟨F',r',a'.unbase at3.ext at3.nt0,s3.trans a'.ext.ff,go⟩⟩
    ·rename_i r' hr
     cases go;exact⟨_,_,hr,F3,H0,F3,a4,λσ' F' H' a'=>k σ' F' H' (a'.unbase at3.ext at3.nt0)⟩
    ·rename_i d hr
     cases go;exact⟨_,_,hr,F3,H0,F3,a4,λv F' H' x q=>k v F' H' (at3.ext.unbase x) q⟩
    ·cases go
  ·cases ho
 ·cases ho
end
def spD(K:Zzp)(n:Nat)(M:List PyData->Option PyData):Sp:=λvs H Q _=>∃F ds d,vs.length=n/\Zs F H/\Tb H/\NoT F/\Zy K F ds vs/\M ds=some d/\∀v F' H',Ext F H F' H'->Rep K F' d v->Q v H'
structure Callee(P:Program)(w:World)(K:Zzp)(mg:Str->Option Value)(base:Heap)(k:Nat)(x:Str)(M:List PyData->Option PyData):Prop where
 ex:∃f fd ps,(∀ds d,M ds=some d->ds.length=ps.length)/\ZdK P w K mg base CX0 k f fd ps (spD K ps.length M)/\mg x=some (.ref f)/\ZAU K (.ref f)=true/\Binds K fd ps []
theorem Callee.mono{P:Program}{w:World}{K:Zzp}{mg:Str->Option Value}{base:Heap}{j k:Nat}{x:Str}{M:List PyData->Option PyData}(C:Callee P w K mg base j x M)(h:j<=k):Callee P w K mg base k x M:=by obtain⟨f,fd,ps,l,F,r⟩:=C.ex;exact⟨f,fd,ps,l,F.mono h,r⟩
section
variable{X:Cx}{pos p:Pos}{e:Expr}{es:List Expr}{f:HM.AF}
theorem Zn{k:Nat}{x:Str}{M:List PyData->Option PyData}(C:Callee X.prog X.w X.K X.mg X.base k x M)(hr:Zal k X.A)(ha:XA X (e::es) f)(hg:Gl X x:=by rfl)(hdb:(x==("__debug__":Str))=false:=by decide)
  (he:ZzC (e::es) X.env=(false,eval e X.env)::ZzC es X.env:=by rfl) (hpl:(backTo pos (ZzC es X.env)).any (·.1)=false:=by rfl):XE X (.Call (.Name x p) (e::es) [] pos) (HM.Zo M f):=by
 intro r d hd;unfold HM.Zo at hd;split at hd
 ·rename_i ds hds
  obtain⟨fa,fd,ps,hl,F,hm,hk,hb⟩:=C.ex;refine PE.imp (Zj7 (E:=E0) F hr hg hm hk hb .nil Znr (ha.pa r ds hds) hdb he hpl) λσ H Q ⟨F0,H0,F1,at_,k⟩=>?_;refine⟨F0,H0,F1,at_,λvs F' H' x q=>?_⟩;show spD X.K ps.length M (vs++[]) H' Q E0;rw[Zz8];exact⟨F',ds,d,by rw[<-q.1]; exact hl ds d hd,x.sub,at_.tbx x,at_.ntx x,q,hd,λv F2 H2 x2 q2=>k v F2 H2 (x.trans x2) q2⟩
 ·cases hd
end
theorem ZgX{K:Zzp}{F H:Hp}{N:List Str}{ds:List PyData}{vs:List V}(s:Zs F H)(tb:Tb H)(nt:NoT F)(q:Zy K F ds vs)(hl:ds.length<=N.length):At K F H F H (HM.Ze8 N.length ds) (L2.start N vs):=by
 have hv:=q.1;refine⟨λ_=>[],.refl s,?_,λi b h=>?_,λ_ _=>rfl,λi a h=>by simp at h,λ_=>ZA9,λi j a _ h=>by simp at h,tb,nt⟩
 ·unfold HM.Ze8 L2.start
  rw[ZzL,ZzL,Zzr,Zzr,ZAj,ZAj,hv]
 ·unfold HM.Ze8 at h
  by_cases hi:i<ds.length
  ·rw[Zz4 (by rw[Zzr]; exact hi),ZzR,ZzD hi]at h
   cases h;obtain⟨v,h1,h2⟩:=q.get (ZzD hi);refine⟨v,?_,.pl h2⟩;unfold L2.start;rw[Zz4 (by rw[Zzr,<-hv]; exact hi),ZzR,h1];rfl
  ·rw[ZAf (by rw[Zzr]; omega),ZBU]at h
   split at h<;>cases h
theorem ZqT{P:Program}{w:World}{K:Zzp}{mg:Str->Option Value}{base:Heap}{k:Nat}{x qual:Str}{st:Stmt}{f:Addr}{fd:FuncData}{N ps:List Str}{g:HM.SF}(Fn:Fun K x qual st f fd)(S:Zx N ps (Zf st))
  (body:∀(cdv:Value) (A:Around) (outer:List Env) (s:Shared) (H:Hp) (E:XK),Zal k (A.deeper (envOfC qual (Zf st) s.heap.objs.size f cdv))->XSs (ZgM CX0 P w K mg base N qual (Zf st) f cdv A outer s H E).nox (Za1 st) g) :
  ZdK P w K mg base CX0 (k+1) f fd ps (spD K ps.length (HM.fnOf ps.length N.length g)):=by
 have hpl:ps.length<=N.length:=by have:=congrArg ZAi S.pre; rw[ZA3]at this; omega
 refine Fn.ok S (λvs H Q E h=>?_) (λcdv A outer s H vs Q E hr h=>?_)
 ·obtain⟨_,_,_,h,_⟩:=h
  exact h
 ·obtain⟨F,ds,d,hl,sub,tb,nt,q,hM,kk⟩:=h
  unfold HM.fnOf at hM;split at hM
  ·rename_i hds
   have a0:=ZgX (N:=N) sub tb nt q (by omega);split at hM
   ·rename_i r hr'
    cases hM;exact⟨_,body cdv A outer s H E hr _ _ hr',F,H,F,a0,λσ F' H' a'=>kk .non F' H' a'.ext .non⟩
   ·rename_i d' hr'
    cases hM;exact⟨_,body cdv A outer s H E hr _ _ hr',F,H,F,a0,λv F' H' x q=>kk v F' H' x q⟩
   ·cases hM
  ·cases hM
theorem Zu{P:Program}{w:World}{K:Zzp}{mg:Str->Option Value}{base:Heap}{k:Nat}{x qual:Str}{st:Stmt}{f:Addr}{fd:FuncData}{N ps:List Str}{g:HM.SF}(Fn:Fun K x qual st f fd)(S:Zx N ps (Zf st))(hm:mg x=some (.ref f))(hb:Binds K fd ps [])
  (body:∀(cdv:Value) (A:Around) (outer:List Env) (s:Shared) (H:Hp) (E:XK),Zal k (A.deeper (envOfC qual (Zf st) s.heap.objs.size f cdv))->XSs (ZgM CX0 P w K mg base N qual (Zf st) f cdv A outer s H E).nox (Za1 st) g) :
  Callee P w K mg base (k+1) x (HM.fnOf ps.length N.length g):=by
 refine⟨f,fd,ps,λds d h=>?_,ZqT Fn S body,hm,Fn.kp,hb⟩;unfold HM.fnOf at h;split at h
 ·assumption
 ·cases h
end HP
namespace HP
open PySem PySem.Spec PyProof.Rows L2
variable[FX]
section
variable{X:Cx}{a b c e:Expr}{fa fb fc:HM.EF}{pos p:Pos}
theorem ZgS{h:Int->Int->Option PyData}{x y z:PyData}(e:HM.ZfU h x y=some z):∃i j,x=.int i/\y=.int j/\h i j=some z:=by
 unfold HM.ZfU at e;split at e
 ·exact⟨_,_,rfl,rfl,e⟩
 ·cases e
theorem Zpz{K:Zzp}{g:Int->Int->V}{h:Int->Int->PyData}(hr:∀F i j,Rep K F (h i j) (g i j)):Bin K (rI0 g) (HM.ZfU λi j=>some (h i j)):=by intro F H x y z v w Q s e r1 r2 k;obtain⟨i,j,rfl,rfl,e⟩:=ZgS e;cases e;exact⟨i,j,r1.int_inv,r2.int_inv,k _ (hr F i j)⟩
theorem ZbS:ZoB X .Add HM.Zbk:=⟨_,ZwX,Zpz λ_ _ _=>.int _⟩
theorem Zt8:ZoB X .Sub HM.Zl4:=⟨_,ZxU,Zpz λ_ _ _=>.int _⟩
theorem Zfq:ZoB X .Mult HM.Zdp:=by
 refine⟨_,ZxS,λF H x y z v w Q s e r1 r2 k=>?_⟩;obtain⟨i,j,rfl,rfl,e'⟩:=ZgS e;split at e'
 ·rename_i hs
  cases e';refine⟨i,j,r1.int_inv,r2.int_inv,?_,k _ (.int _)⟩;unfold HM.Z6 at hs;rw[ZA2,ZCs,ZCs]at hs;unfold ZrB;omega
 ·cases e'
theorem oMod:ZoB X .Mod HM.Zu7:=by
 refine⟨_,Zw9,λF H x y z v w Q s e r1 r2 k=>?_⟩;obtain⟨i,j,rfl,rfl,e'⟩:=ZgS e;split at e'
 ·rename_i hs
  cases e';exact⟨i,j,r1.int_inv,r2.int_inv,hs,k _ (.int _)⟩
 ·cases e'
theorem cLt:Ze7 X .Lt HM.gLt:=⟨⟨_,Zyi,Zpz λ_ _ _=>.bl _⟩,by decide,by decide⟩
theorem cLe:Ze7 X .LtE HM.gLe:=⟨⟨_,Zyp,Zpz λ_ _ _=>.bl _⟩,by decide,by decide⟩
theorem cGt:Ze7 X .Gt HM.gGt:=⟨⟨_,Zx2,Zpz λ_ _ _=>.bl _⟩,by decide,by decide⟩
theorem Rep.non_iff{K:Zzp}{F:Hp}{d:PyData}{v:V}(h:Rep K F d v):decide (v=.non)=match d with | .none=>true | _=>false:=by cases h<;>first | rfl | exact decide_eq_false (λz=>nomatch z)
theorem Zoq:Ze7 X .Is HM.ZkX:=by
 refine⟨⟨_,Zxr,λF H x y z v w Q s e r1 r2 k=>?_⟩,by decide,by decide⟩;unfold HM.ZkX at e;split at e
 ·refine⟨r2.none_inv,k _ ?_⟩
  rw[r1.non_iff];split at e
  ·cases e; exact .bl _
  ·rename_i hx
   cases e;cases x<;>first | exact .bl _ | exact absurd rfl hx
 ·cases e
theorem Zno:Ze7 X .IsNot HM.Zgb:=by
 refine⟨⟨_,ZvC,λF H x y z v w Q s e r1 r2 k=>?_⟩,by decide,by decide⟩;unfold HM.Zgb at e;split at e
 ·refine⟨r2.none_inv,k _ ?_⟩
  rw[r1.non_iff];split at e
  ·cases e; exact .bl _
  ·rename_i hx
   cases e;cases x<;>first | exact .bl _ | exact absurd rfl hx
 ·cases e
theorem ZhH{h:Heap}:∀{ds:List PyData} {us:List Value},ds.length=us.length->(∀(i:Nat) d u,ds[i]?=some d->us[i]?=some u->∃as,Reads h u d as)->∃as,ReadsAll h us ds as
 | [],[],_,_=>⟨[],.nil⟩
 | [],_::_,hl,_=>by simp at hl
 | _::_,[],hl,_=>by simp at hl
 | d::ds,u::us,hl,k=>by obtain⟨as,h1⟩:=k 0 d u rfl rfl;obtain⟨bs,h2⟩:=ZhH (ds:=ds) (us:=us) (by simpa using hl) λi d u e1 e2=>k (i+1) d u (by simpa using e1) (by simpa using e2);exact⟨_,.cons h1 h2⟩
theorem ZqE:∀{ds:List PyData},ZB2 ds=true->∀{i:Nat} {d:PyData},ds[i]?=some d->d.canLay0=true
 | [],_,i,d,e=>by simp at e
 | x::ds,h,i,d,e=>by
  have h':(x.canLay0&&ZB2 ds)=true:=h;rw[ZzK]at h';cases i with
  | zero=>rw[ZBV]at e; cases e; exact h'.1
  | succ i=>rw[ZAa]at e; exact ZqE h'.2 e
theorem Zo7{ds:List PyData}(h:ZB2 ds=true){i:Nat}{d:PyData}(e:ds[i]?=some d):d.canLay0=true:=ZqE h e
theorem Rep.reads{pins:List (Addr × Obj)}{s:Shared}{σ:L2.St}{H F:Hp}{d:PyData}{v:V}(I:Inv X pins σ H s)(sub:Zs F H)(r:Rep X.K F d v):d.canLay0=true->∀u,RelV v u->∃as,Reads s.heap u d as:=by
 induction r with
 | non=>intro _ u ru; cases ru; exact⟨[],.none⟩
 | bl b=>intro _ u ru; cases ru; exact⟨[],.bool b⟩
 | int i=>intro _ u ru; obtain⟨t,rfl⟩:=ru; exact⟨[],.int i t⟩
 | str x=>intro _ u ru; obtain⟨t,rfl⟩:=ru; exact⟨[],.str x t⟩
 | dct _ _ _ _ _=>intro z; cases z
 | fn _=>intro z; cases z
 | @tupk a x h=>intro z u ru;cases ru;obtain⟨its,rv,⟨o,ho,hc,n,hd⟩,_⟩:=I.tuple (.inr h);obtain⟨u,rfl,t,rfl⟩:=rv.one;exact⟨_,.tuple ho hc hd (by simpa using ReadsAll.cons (.str x t) .nil)⟩
 | @tup a ds vs h hl _ ih =>
  intro z u ru;cases ru;obtain⟨its,rv,⟨o,ho,hc,n,hd⟩,_⟩:=I.tuple (.of (sub _ _ h));obtain⟨as,hr⟩:=ZhH (h:=s.heap) (ds:=ds) (us:=its) (hl.trans rv.length) λi d u e1 e2=>by
   have hi:i<vs.length:=by rw[<-hl]; exact(ZzF.mp e1).1
   obtain⟨u',q1,q2⟩:=rv.get (ZzD hi);rw[e2]at q1;cases q1;exact ih i d _ e1 (ZzD hi) (Zo7 z e1) u q2
  exact⟨_,.tuple ho hc hd (by simpa using hr)⟩
 | @lst a ds vs h hl _ ih =>
  intro z u ru;cases ru;obtain⟨its,rv,⟨o,n,ho,hc,_,hd⟩,_⟩:=I.list (sub.seq h);obtain⟨as,hr⟩:=ZhH (h:=s.heap) (ds:=ds) (us:=its) (hl.trans rv.length) λi d u e1 e2=>by
   have hi:i<vs.length:=by rw[<-hl]; exact(ZzF.mp e1).1
   obtain⟨u',q1,q2⟩:=rv.get (ZzD hi);rw[e2]at q1;cases q1;exact ih i d _ e1 (ZzD hi) (Zo7 z e1) u q2
  exact⟨_,.list ho hc hd (by simpa using hr)⟩
def ZwW(K:Zzp)(neg:Bool):R2:=λv w H Q=>∃F x y,Zs F H/\Rep K F x v/\Rep K F y w/\HM.Zag x=true/\HM.Zag y=true/\Q (.bl (if neg then !PyData.eqv x y else ZAr x y)) H
theorem Zc6{d:PyData}(h:HM.Zag d=true):d.canLay0=true/\d.depth<=60:=by unfold HM.Zag at h;simpa using h
theorem Zx5{k:Nat}(hr:Zal k X.A):OpR X (ZAu .Eq) (ZwW X.K false):=by intro pins s σ H v w u u' Q I r1 r2 ⟨F,x,y,sub,q1,q2,p1,p2,q⟩;obtain⟨a1,a2⟩:=Zc6 p1;obtain⟨b1,b2⟩:=Zc6 p2;obtain⟨as,h1⟩:=q1.reads I sub a1 u r1;obtain⟨bs,h2⟩:=q2.reads I sub b1 u' r2;refine PySem.SeqAt.eqOverData X.prog X.w X.A X.xe s u u' x y as bs _ h1 h2 a1 b1 ?_ ⟨.bl _,H,I,rfl,q⟩;have:=hr.un;have:min x.depth y.depth<=60:=ZAd (ZDU _ _) a2;omega
theorem Zx9{k:Nat}(hr:Zal k X.A):OpR X (ZAu .NotEq) (ZwW X.K true):=by intro pins s σ H v w u u' Q I r1 r2 ⟨F,x,y,sub,q1,q2,p1,p2,q⟩;obtain⟨a1,a2⟩:=Zc6 p1;obtain⟨b1,b2⟩:=Zc6 p2;obtain⟨as,h1⟩:=q1.reads I sub a1 u r1;obtain⟨bs,h2⟩:=q2.reads I sub b1 u' r2;refine ZD3 X.prog X.w X.A X.xe s u u' x y as bs _ h1 h2 a1 b1 ?_ ⟨.bl _,H,I,rfl,q⟩;have:=hr.un;have:min x.depth y.depth<=60:=ZAd (ZDU _ _) a2;omega
theorem cEq{k:Nat}(hr:Zal k X.A):Ze7 X .Eq HM.gEq:=by
 refine⟨⟨_,Zx5 hr,λF H x y z v w Q s e r1 r2 k=>?_⟩,by decide,by decide⟩;unfold HM.gEq at e;split at e
 ·rename_i hp
  cases e;rw[ZzK]at hp;exact⟨F,x,y,s,r1,r2,hp.1,hp.2,k _ (.bl _)⟩
 ·cases e
theorem cNe{k:Nat}(hr:Zal k X.A):Ze7 X .NotEq HM.gNe:=by
 refine⟨⟨_,Zx9 hr,λF H x y z v w Q s e r1 r2 k=>?_⟩,by decide,by decide⟩;unfold HM.gNe at e;split at e
 ·rename_i hp
  cases e;rw[ZzK]at hp;exact⟨F,x,y,s,r1,r2,hp.1,hp.2,k _ (.bl _)⟩
 ·cases e
theorem ZgR{K:Zzp}{F H:Hp}{q:HM.B}{v:V}{fp:List Addr}{ds:List PyData}(sub:Zs F H)(r:Zai K F H q v fp)(h:HM.Zbo q=some ds):∃a vs,v=.ref a/\(SqL K H a vs\/SqT K H a vs)/\Zy K F ds vs:=by
 cases r with
 | pl r =>
  cases r with
  | tup h1 h2 h3=>cases h; exact⟨_,_,rfl,.inr (.of (sub _ _ h1)),h2,h3⟩
  | @tupk a x h1=>cases h; exact⟨_,_,rfl,.inr (.inr h1),.one (.str x)⟩
  | lst h1 h2 h3=>cases h; exact⟨_,_,rfl,.inl (sub.seq h1),h2,h3⟩
  | dct _ _ _ _=>cases h
  | fn _=>cases h
  | non=>cases h
  | bl _=>cases h
  | int _=>cases h
  | str _=>cases h
 | ol h1 r=>cases h; exact⟨_,_,rfl,.inl (.of h1),r⟩
 | ok _ _ _=>cases h
 | hd _ _ _ _=>cases h
 | hf _=>cases h
 | ot _ _ _=>cases h
 | otl _ _ _ _=>cases h
theorem Zv9{K:Zzp}{F:Hp}{ds:List PyData}{vs:List V}{i:Int}{d:PyData}(r:Zy K F ds vs)(h:HM.atD ds i=some d):∃v,atI vs i=some v/\Rep K F d v:=by
 unfold HM.atD at h;split at h
 ·rename_i j hj
  obtain⟨v,h1,h2⟩:=r.get h;refine⟨v,?_,h2⟩;unfold atI;rw[<-r.1,show ixN ds.length i=some j from hj];exact h1
 ·cases h
theorem ZJ{fb':HM.BF}(ha:XB X a fb')(hb:XE X b fb)(hs:ZqR b:=by intro _ _; rfl):XE X (.Subscript a b pos) (HM.eIx fb' fb):=by
 intro r d h;unfold HM.eIx at h;split at h
 ·rename_i x hx
  split at h
  ·rename_i ds hds
   split at h
   ·rename_i i hi
    refine PE.imp (Zym Zxm (ha r x hx) (hb r _ hi) hs) λσ H Q ⟨F0,H0,F,at_,k⟩=>?_;refine⟨F0,H0,F,at_,λv F1 H1 x1 ⟨fp,r1⟩=>⟨F0,H0,F1,at_.grow x1,λw F2 H2 x2 r2=>?_⟩⟩;obtain⟨l,vs,e1,hq,rs⟩:=ZgR x2.sub (r1.mono x2.ff λ_ _ _ z=>x2.hh _ _ z) hds;obtain⟨u,hu,ru⟩:=Zv9 rs h;have fin:=k u F2 H2 (x1.trans x2) ru;rcases hq with hq | hq
    ·exact .inl ⟨l,vs,i,u,e1,r2.int_inv,hq,hu,fin⟩
    ·exact .inr (.inl ⟨l,vs,i,u,e1,r2.int_inv,hq,hu,fin⟩)
   ·cases h
  ·cases h
 ·cases h
def PAB(X:Cx)(e:Expr)(r:HM.Env)(q:HM.B):Prop:=PA X [e] λσ H Q=>Now X.K r σ H λF0 H0 F=>∀v fp F' H',Ext F H F' H'->Zai X.K F' H' q v fp->Q [v] H'
theorem ZfI{f:HM.BF}{r:HM.Env}{q:HM.B}(ha:XB X e f)(h:f r=some q)(hs:ZzC [e] X.env=[(false,eval e X.env)]:=by rfl):PAB X e r q:=by refine PA.imp (Zas (ha r q h) ZbV hs) λσ H Q ⟨F0,H0,F,at_,k⟩=>?_;exact⟨F0,H0,F,at_,λv F1 H1 x1 ⟨fp,r1⟩=>k v fp F1 H1 x1 r1⟩
end
end HP
namespace HP
open PySem PySem.Spec PyProof.Rows L2
variable[FX]
theorem ZxF:ZAt "all" = some (.builtin "all"):=by decide +kernel
theorem Zw8:ZAt "len" = some (.builtin "len"):=by decide +kernel
theorem Zto:ZAt "max" = some (.builtin "max"):=by decide +kernel
theorem ZtD:ZAt "min" = some (.builtin "min"):=by decide +kernel
theorem Zmv:ZAt "sorted" = some (.builtin "sorted"):=by decide +kernel
theorem Zng:ZAt "isinstance" = some (.builtin "isinstance"):=by decide +kernel
theorem ZoZ:ZAt "int" = some (.type "int"):=by decide +kernel
theorem ZvI:ZAt "bool" = some (.type "bool"):=by decide +kernel
theorem Zwr:ZAt "list" = some (.type "list"):=by decide +kernel
theorem ZkZ:ZAt "tuple" = some (.type "tuple"):=by decide +kernel
theorem ZxP:ZAt "set" = some (.type "set"):=by decide +kernel
section
variable{X:Cx}{a b c e:Expr}{fa fb fc:HM.EF}{pos p:Pos}{f:HM.BF}
theorem Zbl(hm:X.mg "len" = none)(ha:XB X a f)(hg:Gl X "len":=by rfl)(hs:ZzC [a] X.env=[(false,eval a X.env)]:=by rfl):XE X (.Call (.Name "len" p) [a] [] pos) (HM.Zaz f):=by
 intro r d h;unfold HM.Zaz at h;split at h
 ·rename_i x hx
  obtain⟨n,h1,h2⟩:=Zzs.mp h;subst h2;refine PE.imp (ZdL (Zom.or Zsw) hg hm Zw8 (ZfI ha hx hs) (he:=hs)) λσ H Q ⟨F0,H0,F,at_,k⟩=>?_;refine⟨F0,H0,F,at_,λv fp F1 H1 x1 r1=>?_⟩;have fin:=λ(m:Nat) (e:m=n)=>k (.int m) F1 H1 x1 (by rw[e]; exact .int _);cases r1 with
  | pl q =>
   cases q with
   | tup q1 q2 q3=>cases h1; exact .inl ⟨_,_,rfl,.inr (.of (x1.sub _ _ q1)),fin _ q2.symm⟩
   | tupk q1=>cases h1; exact .inl ⟨_,_,rfl,.inr (.inr q1),fin _ rfl⟩
   | lst q1 q2 q3=>cases h1; exact .inl ⟨_,_,rfl,.inl (x1.sub.seq q1),fin _ q2.symm⟩
   | dct _ _ _ _=>cases h1
   | fn _=>cases h1
   | non=>cases h1
   | bl _=>cases h1
   | int _=>cases h1
   | str _=>cases h1
  | ol q1 q2=>cases h1; exact .inl ⟨_,_,rfl,.inl (.of q1),fin _ q2.1.symm⟩
  | ok q1 q2 q3=>cases h1;refine .inr ⟨_,_,rfl,q1,fin _ ?_⟩;have:=congrArg ZAi q2;rw[Zzr,Zzr]at this;exact this.symm
  | ot _ _ _=>cases h1
  | otl _ _ _ _=>cases h1
  | hd _ _ _ _=>cases h1
  | hf _=>cases h1
 ·cases h
theorem Zaj(hm:X.mg "tuple" = none)(ha:XB X a f)(hg:Gl X "tuple":=by rfl)(hs:ZzC [a] X.env=[(false,eval a X.env)]:=by rfl):XE X (.Call (.Name "tuple" p) [a] [] pos) (HM.Zaq f):=by
 intro r d h;unfold HM.Zaq at h;split at h
 ·rename_i x hx
  obtain⟨ds,h1,h2⟩:=Zzs.mp h;subst h2;refine PE.imp (ZdG Znf hg hm ZkZ (ZfI ha hx hs) (he:=hs)) λσ H Q ⟨F0,H0,F,at_,k⟩=>?_;refine⟨F0,H0,F,at_,λv fp F1 H1 x1 r1=>?_⟩;have new:∀(vs:List V),Zy X.K F1 ds vs->∀l,H1 l=none->Q (.ref l) (upd H1 l (.tup vs)):=λvs q l hl=>k _ (upd F1 l (.tup vs)) _ (x1.lay hl) (.tup ZH q.1 (q.mono (Zs.upd' (x1.sub.free hl))).2);cases r1 with
  | pl q =>
   cases q with
   | tup q1 q2 q3=>cases h1; exact⟨_,_,rfl,.inr ⟨.of (x1.sub _ _ q1),k _ F1 H1 x1 (.tup q1 q2 q3)⟩⟩
   | tupk q1=>cases h1; exact⟨_,_,rfl,.inr ⟨.inr q1,k _ F1 H1 x1 (.tupk q1)⟩⟩
   | lst q1 q2 q3=>cases h1; exact⟨_,_,rfl,.inl ⟨x1.sub.seq q1,new _ ⟨q2,q3⟩⟩⟩
   | dct _ _ _ _=>cases h1
   | fn _=>cases h1
   | non=>cases h1
   | bl _=>cases h1
   | int _=>cases h1
   | str _=>cases h1
  | ol q1 q2=>cases h1; exact⟨_,_,rfl,.inl ⟨.of q1,new _ q2⟩⟩
  | ok _ _ _=>cases h1
  | ot _ _ _=>cases h1
  | otl _ _ _ _=>cases h1
  | hd _ _ _ _=>cases h1
  | hf _=>cases h1
 ·cases h
theorem Zfk{K:Zzp}{F H F1 H1:Hp}{ds:List PyData}{vs:List V}{l:Addr}{P:V->Hp->Hp->Prop}(x1:Ext F H F1 H1)(q:Zy K F1 ds vs)(hl:H1 l=none)
  (k:∀v F' H',Ext F H F' H'->(∃fp,Zai K F' H' (.ol ds) v fp/\fp.Nodup/\∀a∈fp,F' a=none/\H a=none)->P v F' H'):P (.ref l) F1 (upd H1 l (.lst vs)):=by
 refine k _ F1 _ (x1.lay' hl) ⟨[l],.ol ZH q,by simp,λa ha=>?_⟩;have:a=l:=by simpa using ha
 subst this;exact⟨x1.sub.free hl,x1.hh.free hl⟩
theorem ZiZ(hm:X.mg "list" = none)(ha:XB X a f)(hg:Gl X "list":=by rfl)(hs:ZzC [a] X.env=[(false,eval a X.env)]:=by rfl):XF X (.Call (.Name "list" p) [a] [] pos) (HM.Zh0 f):=by
 intro r d h;unfold HM.Zh0 at h;split at h
 ·rename_i x hx
  obtain⟨ds,h1,h2⟩:=Zzs.mp h;subst h2;refine PE.imp (ZdG ZoY hg hm Zwr (ZfI ha hx hs) (he:=hs)) λσ H Q ⟨F0,H0,F,at_,k⟩=>?_;refine⟨F0,H0,F,at_,λv fp F1 H1 x1 r1=>?_⟩;obtain⟨l,vs,e1,hq,rs⟩:=ZgR x1.sub r1 h1;subst e1;exact⟨l,vs,rfl,hq,λl' hl'=>Zfk (P:=λv _ H'=>Q v H') x1 rs hl' k⟩
 ·cases h
theorem Zlw{K:Zzp}{F:Hp}:∀{ds:List PyData} {vs:List V} {bs:List Bool},HM.ZfJ ds=some bs->Zy K F ds vs->vs=bs.map V.bl
 | [],vs,bs,h,r=>by cases h;exact r.nil_inv
 | d::ds,vs,bs,h,r=>by
  obtain⟨v,us,rfl,r1,r2⟩:=r.cons_inv;cases d with
  | bool b=>obtain⟨bs',h1,h2⟩:=Zzs.mp h;subst h2;rw[r1.bool_inv,Zlw h1 r2];rfl
  | none=>cases h
  | int _=>cases h
  | str _=>cases h
  | list _=>cases h
  | tuple _=>cases h
  | dict _=>cases h
end
end HP
namespace HP
open PySem PySem.Spec PyProof.Rows L2
variable[FX]
section
variable{X:Cx}{a b c e:Expr}{fa fb fc:HM.EF}{pos p:Pos}{f:HM.BF}
theorem Zql:∀{bs:List Bool} {us:List Value},Vals (bs.map V.bl) us->LSm.BoolsAre us bs:=by
 intro bs
 induction bs with
 | nil=>intro us r; rw[ZBf]at r; cases r; exact .nil
 | cons b bs ih =>
  intro us r;rw[Zzw]at r;cases r with
  | cons r1 r2=>cases r1;exact .cons b (ih r2)
theorem ZwO{A:Around}{s:Shared}{l:Addr}{vs:List Value}{bs:List Bool}{dflt:Bool}(hh:A.handled=none)(hl:s.heap.IsList l vs.toArray)(hb:LSm.BoolsAre vs bs){E:Value->Shared->Prop}{Q:Value->Shared->Prop}{prog:Program}{w:World}
  (h:∀it fp wr (P:Nat->Value->Prop) St,Walks prog w A it fp wr vs.length P St->St 0 (s.heap.push { cls:=.type "list_iterator",data:=.fields #[.ref l,rawInt 0] })->TruthOf prog w A P (λi=>(bs[i]?).getD dflt)->wr=[s.heap.objs.size]->it=s.heap.objs.size->Q (.ref it) { s with heap:=s.heap.push { cls:=.type "list_iterator",data:=.fields #[.ref l,rawInt 0] } }) :
  wpAny (model prog w) A (pyIter (.ref l)) Q E s:=by
 have hlt:l<s.heap.objs.size:=let ⟨_,e,_⟩:=hl; ZzJ e
 refine ZDu hl ?_;have W:=Walks.list (prog:=prog) (w:=w) hh s.heap.objs.size l (ZzQ hlt) vs.toArray;rw[ZzN]at W;refine h _ _ _ _ _ W ⟨⟨_,ZzM _ rfl,rfl,rfl⟩,hl.push _⟩ (λi v s' Q' E' hP hQ=>?_) rfl rfl;obtain⟨b,e,rfl⟩:=hb.get i v (by simpa using hP);simp only[e,Option.getD_some]at hQ;exact ZAL hQ
theorem ZsZ(hc:X.calm=true):Zbe X (.builtin "all") (λxs H Q=>∃(p:Addr) (bs:List Bool),xs=[.ref p]/\SqL X.K H p (bs.map V.bl)/\Q (.bl (bs.all id)) H):=by intro pins s σ H xs us Q I r h;obtain⟨p,bs,rfl,hq,q⟩:=h;obtain⟨u,rfl,rx⟩:=vals1 r;cases rx;obtain⟨its,rv,pl,hz⟩:=I.list hq;have hb:=Zql rv;refine call_all_walk (ZwO (dflt:=true) (A:=X.A.in1) (I.ok.hd hc) pl.isList hb λit fp wr P St W st tr e1 e2=>?_);subst e1 e2;refine⟨_,_,_,_,P,St,_,rfl,W,st,tr,λh' tk hk=>?_⟩;rw[hb.length,LSm.range_all bs];exact⟨.bl _,H,I.kept (LSm.kept_iter hk),rfl,q⟩
theorem ZgN{K:Zzp}{F H:Hp}{q:HM.B}{v:V}{fp:List Addr}{ds:List PyData}(sub:Zs F H)(r:Zai K F H q v fp)(h:HM.Zmg q=some ds):∃a vs,v=.ref a/\SqL K H a vs/\Zy K F ds vs:=by
 cases r with
 | pl r =>
  cases r with
  | lst h1 h2 h3=>cases h; exact⟨_,_,rfl,sub.seq h1,h2,h3⟩
  | dct _ _ _ _=>cases h
  | fn _=>cases h
  | tupk _=>cases h
  | tup _ _ _=>cases h
  | non=>cases h
  | bl _=>cases h
  | int _=>cases h
  | str _=>cases h
 | ol h1 r=>cases h; exact⟨_,_,rfl,.of h1,r⟩
 | ok _ _ _=>cases h
 | hd _ _ _ _=>cases h
 | hf _=>cases h
 | ot _ _ _=>cases h
 | otl _ _ _ _=>cases h
theorem ZhL(hm:X.mg "all" = none)(hc:X.calm=true)(ha:XB X a f)(hg:Gl X "all":=by rfl)(hs:ZzC [a] X.env=[(false,eval a X.env)]:=by rfl):XE X (.Call (.Name "all" p) [a] [] pos) (HM.ZjC f):=by
 intro r d h;unfold HM.ZjC at h;split at h
 ·rename_i x hx
  split at h
  ·rename_i ds hds
   obtain⟨bs,h1,h2⟩:=Zzs.mp h;subst h2;refine PE.imp (ZdL (ZsZ hc) hg hm ZxF (ZfI ha hx hs) (he:=hs)) λσ H Q ⟨F0,H0,F,at_,k⟩=>?_;refine⟨F0,H0,F,at_,λv fp F1 H1 x1 r1=>?_⟩;obtain⟨l,vs,e1,hq,rs⟩:=ZgN x1.sub r1 hds;rw[Zlw h1 rs]at hq;exact⟨l,bs,by rw[e1],hq,k _ F1 H1 x1 (.bl _)⟩
  ·cases h
 ·cases h
theorem ZoA{tyn:String}{t:HM.Ty}(hr:∀(s:Shared) (d:PyData) (v:V) (u:Value) (Q:Value->Shared->Prop),RelV v u->(∃(K:Zzp) (F:Hp),Rep K F d v)->(∀es,d≠.dict es)->(∀x,v=.ref x->∃o,s.heap.get? x=some o/\((∃ds,d=.tuple ds/\o.cls=.type "tuple")\/(∃ds,d=.list ds/\o.cls=.type "list")\/∃ds,d=.dict ds/\o.cls=.type "dict")) ->
   (∀tk,Q (.bool (HM.Ziy t d)) { s with toks:=tk })->wpAny (model X.prog X.w) X.A (call (.builtin "isinstance") [u,.type tyn]) Q X.xe s) :
  Zbe X (.builtin "isinstance") (λxs H Q=>∃F d v,xs=[v,.ty tyn]/\Zs F H/\Rep X.K F d v/\(∀es,d≠.dict es)/\Q (.bl (HM.Ziy t d)) H):=by
 intro pins s σ H xs us Q I r h;obtain⟨F,d,v,rfl,sub,rp,nd,q⟩:=h;obtain⟨u,u',rfl,ru,ru'⟩:=vals2 r;cases(show u'=ZCo tyn from ru');refine hr s d v u _ ru ⟨_,_,rp⟩ nd (λx e=>?_) λtk=>⟨.bl _,H,I.tok tk,rfl,q⟩;subst e;cases rp with
 | tup h1 h2 h3=>obtain⟨its,rv,⟨o,ho,hc,n,hd⟩,_⟩:=I.tuple (.of (sub _ _ h1));exact⟨o,ho,.inl ⟨_,rfl,hc⟩⟩
 | tupk h1=>obtain⟨its,rv,⟨o,ho,hc,n,hd⟩,_⟩:=I.tuple (.inr h1);exact⟨o,ho,.inl ⟨_,rfl,hc⟩⟩
 | lst h1 h2 h3=>obtain⟨its,rv,⟨o,n,ho,hc,_,hd⟩,_⟩:=I.list (sub.seq h1);exact⟨o,ho,.inr (.inl ⟨_,rfl,hc⟩)⟩
 | @dct a es kvs vvs h1 _ _ _=>obtain⟨_,_,xs,_,o,es,ep,q1,q2,_⟩:=(show Zah X.prog X.w H s.heap x (.dT vvs) from Zlm I.hok (Zj4 h1 sub));exact⟨o,q1,.inr (.inr ⟨_,rfl,q2.1⟩)⟩
 | fn _=>exact absurd rfl (nd _)
theorem ZuF:Zbe X (.builtin "isinstance") (λxs H Q=>∃F d v,xs=[v,.ty "bool"]/\Zs F H/\Rep X.K F d v/\(∀es,d≠.dict es)/\Q (.bl (HM.Ziy .bool d)) H):=by
 refine ZoA λs d v u Q ru ⟨K,F,rp⟩ nd ho k=>?_;cases rp with
 | non=>cases ru; exact IsiPair.NoneType_bool (k _)
 | bl _=>cases ru; exact IsiPair.bool_bool (k _)
 | int _=>obtain⟨t,rfl⟩:=ru; exact IsiPair.int_bool (k _)
 | str _=>obtain⟨t,rfl⟩:=ru; exact IsiPair.str_bool (k _)
 | tup _ _ _ | tupk _ =>
  cases ru;obtain⟨o,h1,⟨_,_,h2⟩ | ⟨_,e,_⟩ | ⟨_,e,_⟩⟩:=ho _ rfl
  ·exact IsiPair.tuple_bool h1 h2 (k _)
  ·cases e
  ·cases e
 | lst _ _ _ =>
  cases ru;obtain⟨o,h1,⟨_,e,_⟩ | ⟨_,_,h2⟩ | ⟨_,e,_⟩⟩:=ho _ rfl
  ·cases e
  ·exact IsiPair.list_bool h1 h2 (k _)
  ·cases e
 | dct _ _ _ _ =>
  cases ru;obtain⟨o,h1,⟨_,e,_⟩ | ⟨_,e,_⟩ | ⟨_,_,h2⟩⟩:=ho _ rfl
  ·cases e
  ·cases e
  ·exact IsiPair.dict_bool h1 h2 (k _)
 | fn _=>exact absurd rfl (nd _)
theorem Zwg:Zbe X (.builtin "isinstance") (λxs H Q=>∃F d v,xs=[v,.ty "int"]/\Zs F H/\Rep X.K F d v/\(∀es,d≠.dict es)/\Q (.bl (HM.Ziy .int d)) H):=by
 refine ZoA λs d v u Q ru ⟨K,F,rp⟩ nd ho k=>?_;cases rp with
 | non=>cases ru; exact IsiPair.NoneType_int (k _)
 | bl _=>cases ru; exact IsiPair.bool_int (k _)
 | int _=>obtain⟨t,rfl⟩:=ru; exact IsiPair.int_int (k _)
 | str _=>obtain⟨t,rfl⟩:=ru; exact IsiPair.str_int (k _)
 | tup _ _ _ | tupk _ =>
  cases ru;obtain⟨o,h1,⟨_,_,h2⟩ | ⟨_,e,_⟩ | ⟨_,e,_⟩⟩:=ho _ rfl
  ·exact IsiPair.tuple_int h1 h2 (k _)
  ·cases e
  ·cases e
 | lst _ _ _ =>
  cases ru;obtain⟨o,h1,⟨_,e,_⟩ | ⟨_,_,h2⟩ | ⟨_,e,_⟩⟩:=ho _ rfl
  ·cases e
  ·exact IsiPair.list_int h1 h2 (k _)
  ·cases e
 | dct _ _ _ _ =>
  cases ru;obtain⟨o,h1,⟨_,e,_⟩ | ⟨_,e,_⟩ | ⟨_,_,h2⟩⟩:=ho _ rfl
  ·cases e
  ·cases e
  ·exact IsiPair.dict_int h1 h2 (k _)
 | fn _=>exact absurd rfl (nd _)
theorem Zss:Zbe X (.builtin "isinstance") (λxs H Q=>∃F d v,xs=[v,.ty "tuple"]/\Zs F H/\Rep X.K F d v/\(∀es,d≠.dict es)/\Q (.bl (HM.Ziy .tuple d)) H):=by
 refine ZoA λs d v u Q ru ⟨K,F,rp⟩ nd ho k=>?_;cases rp with
 | non=>cases ru; exact IsiPair.NoneType_tuple (k _)
 | bl _=>cases ru; exact IsiPair.bool_tuple (k _)
 | int _=>obtain⟨t,rfl⟩:=ru; exact IsiPair.int_tuple (k _)
 | str _=>obtain⟨t,rfl⟩:=ru; exact IsiPair.str_tuple (k _)
 | tup _ _ _ | tupk _ =>
  cases ru;obtain⟨o,h1,⟨_,_,h2⟩ | ⟨_,e,_⟩ | ⟨_,e,_⟩⟩:=ho _ rfl
  ·exact IsiPair.tuple_tuple h1 h2 (k _)
  ·cases e
  ·cases e
 | lst _ _ _ =>
  cases ru;obtain⟨o,h1,⟨_,e,_⟩ | ⟨_,_,h2⟩ | ⟨_,e,_⟩⟩:=ho _ rfl
  ·cases e
  ·exact IsiPair.list_tuple h1 h2 (k _)
  ·cases e
 | dct _ _ _ _ =>
  cases ru;obtain⟨o,h1,⟨_,e,_⟩ | ⟨_,e,_⟩ | ⟨_,_,h2⟩⟩:=ho _ rfl
  ·cases e
  ·cases e
  ·exact IsiPair.dict_tuple h1 h2 (k _)
 | fn _=>exact absurd rfl (nd _)
theorem Znw{tyn:Str}{tys:String}{t:HM.Ty}{p2:Pos}(hR:Zbe X (.builtin "isinstance") (λxs H Q=>∃F d v,xs=[v,.ty tys]/\Zs F H/\Rep X.K F d v/\(∀es,d≠.dict es)/\Q (.bl (HM.Ziy t d)) H))(bt:ZAt tyn=some (.type tys))
  (hm:X.mg "isinstance" = none) (hm2:X.mg tyn=none) (ha:XE X a fa) (hg:Gl X "isinstance") (hg2:Gl X tyn) (hn:tyn ≠ "__name__") (hd:(tyn==("__debug__":Str))=false)
  (hs1:ZzC [a,.Name tyn p2] X.env=(false,eval a X.env)::ZzC [.Name tyn p2] X.env) (hs2:ZzC [.Name tyn p2] X.env=[(false,eval (.Name tyn p2) X.env)]):XE X (.Call (.Name "isinstance" p) [a,.Name tyn p2] [] pos) (HM.ZdM fa t):=by
 intro r d h;have key:∃x,fa r=some x/\(∀es,x≠.dict es)/\d=.bool (HM.Ziy t x):=by
  unfold HM.ZdM at h;split at h
  ·cases h
  ·rename_i x hn hx
   cases h;exact⟨x,hx,λes z=>hn es (by rw[z]),rfl⟩
  ·cases h
 obtain⟨x,h1,nd,h2⟩:=key;subst h2;refine PE.imp (ZdL hR hg hm Zng (Zas (ha r x h1) (Zas (Zwh (v:=.ty tys) hg2 hm2 bt rfl hn hd) ZbV (by rw[hs2]; rfl)) hs1) (he:=hs1) (hpl:=by rw[hs2]; rfl)) λσ H Q ⟨F0,H0,F,at_,k⟩=>?_;exact⟨F0,H0,F,at_,λv F1 H1 x1 r1=>⟨F1,x,v,rfl,x1.sub,r1,nd,k _ F1 H1 x1 (.bl _)⟩⟩
theorem Zkh{p2:Pos}(hm:X.mg "isinstance" = none)(hm2:X.mg "bool" = none)(ha:XE X a fa)(hg:Gl X "isinstance":=by rfl)(hg2:Gl X "bool":=by rfl)(hs1:ZzC [a,.Name "bool" p2] X.env=(false,eval a X.env)::ZzC [.Name "bool" p2] X.env:=by rfl) :
  XE X (.Call (.Name "isinstance" p) [a,.Name "bool" p2] [] pos) (HM.ZdM fa .bool):=Znw ZuF ZvI hm hm2 ha hg hg2 (by decide) (by decide) hs1 rfl
theorem Zk5{p2:Pos}(hm:X.mg "isinstance" = none)(hm2:X.mg "int" = none)(ha:XE X a fa)(hg:Gl X "isinstance":=by rfl)(hg2:Gl X "int":=by rfl)(hs1:ZzC [a,.Name "int" p2] X.env=(false,eval a X.env)::ZzC [.Name "int" p2] X.env:=by rfl) :
  XE X (.Call (.Name "isinstance" p) [a,.Name "int" p2] [] pos) (HM.ZdM fa .int):=Znw Zwg ZoZ hm hm2 ha hg hg2 (by decide) (by decide) hs1 rfl
theorem Zdu{p2:Pos}(hm:X.mg "isinstance" = none)(hm2:X.mg "tuple" = none)(ha:XE X a fa)(hg:Gl X "isinstance":=by rfl)(hg2:Gl X "tuple":=by rfl)(hs1:ZzC [a,.Name "tuple" p2] X.env=(false,eval a X.env)::ZzC [.Name "tuple" p2] X.env:=by rfl) :
  XE X (.Call (.Name "isinstance" p) [a,.Name "tuple" p2] [] pos) (HM.ZdM fa .tuple):=Znw Zss ZkZ hm hm2 ha hg hg2 (by decide) (by decide) hs1 rfl
theorem Zsd(hm:X.mg "max" = none)(hc:X.calm=true)(ha:XE X a fa)(hb:XE X b fb)(hg:Gl X "max":=by rfl)(hs1:ZzC [a,b] X.env=(false,eval a X.env)::ZzC [b] X.env:=by rfl)(hs2:ZzC [b] X.env=[(false,eval b X.env)]:=by rfl) :
  XE X (.Call (.Name "max" p) [a,b] [] pos) (HM.op2 HM.Zr8 fa fb):=by
 intro r d h;obtain⟨x,y,h1,h2,h3⟩:=ZhT h;obtain⟨i,j,rfl,rfl,e⟩:=ZgS h3;cases e;refine PE.imp (ZdL (ZtC hc) hg hm Zto (Zas (ha r _ h1) (Zas (hb r _ h2) ZbV hs2) hs1) (he:=hs1) (hpl:=by rw[hs2]; rfl)) λσ H Q ⟨F0,H0,F,at_,k⟩=>?_;exact⟨F0,H0,F,at_,λv F1 H1 x1 r1=>⟨F0,H0,F1,at_.grow x1,λw F2 H2 x2 r2=>⟨i,j,by rw[r1.int_inv,r2.int_inv],k _ F2 H2 (x1.trans x2) (.int _)⟩⟩⟩
theorem Zwu(hm:X.mg "min" = none)(hc:X.calm=true)(ha:XE X a fa)(hb:XE X b fb)(hg:Gl X "min":=by rfl)(hs1:ZzC [a,b] X.env=(false,eval a X.env)::ZzC [b] X.env:=by rfl)(hs2:ZzC [b] X.env=[(false,eval b X.env)]:=by rfl) :
  XE X (.Call (.Name "min" p) [a,b] [] pos) (HM.op2 HM.Zxy fa fb):=by
 intro r d h;obtain⟨x,y,h1,h2,h3⟩:=ZhT h;obtain⟨i,j,rfl,rfl,e⟩:=ZgS h3;cases e;refine PE.imp (ZdL (ZsL hc) hg hm ZtD (Zas (ha r _ h1) (Zas (hb r _ h2) ZbV hs2) hs1) (he:=hs1) (hpl:=by rw[hs2]; rfl)) λσ H Q ⟨F0,H0,F,at_,k⟩=>?_;exact⟨F0,H0,F,at_,λv F1 H1 x1 r1=>⟨F0,H0,F1,at_.grow x1,λw F2 H2 x2 r2=>⟨i,j,by rw[r1.int_inv,r2.int_inv],k _ F2 H2 (x1.trans x2) (.int _)⟩⟩⟩
theorem ZtK(hm:X.mg "int" = none)(ha:XE X a fa)(hg:Gl X "int":=by rfl)(hs:ZzC [a] X.env=[(false,eval a X.env)]:=by rfl):XE X (.Call (.Name "int" p) [a] [] pos) (HM.Zpu fa):=by
 intro r d h;unfold HM.Zpu at h;split at h
 ·rename_i i hi
  cases h;refine PE.imp (ZdG Zmu hg hm ZoZ (Zas (ha r _ hi) ZbV hs) (he:=hs)) λσ H Q ⟨F0,H0,F,at_,k⟩=>?_;exact⟨F0,H0,F,at_,λv F1 H1 x1 r1=>.inl ⟨i,by rw[r1.int_inv],k _ F1 H1 x1 (.int _)⟩⟩
 ·rename_i q hq
  cases h;refine PE.imp (ZdG Zmu hg hm ZoZ (Zas (ha r _ hq) ZbV hs) (he:=hs)) λσ H Q ⟨F0,H0,F,at_,k⟩=>?_;exact⟨F0,H0,F,at_,λv F1 H1 x1 r1=>.inr ⟨q,by rw[r1.bool_inv],k _ F1 H1 x1 (.int _)⟩⟩
 ·cases h
end
end HP
namespace HP
open PySem PySem.Spec PyProof.Rows L2
variable[FX]
section
variable{X:Cx}{a b c e:Expr}{fa fb fc:HM.EF}{pos p:Pos}{f:HM.BF}{tg:Expr}
theorem PI.imp{X:Cx}{tg e:Expr}{t u:TI}(h:PI X tg e t)(hi:∀σ H R,u σ H R->t σ H R):PI X tg e u:=λpins s σ H R I q=>h pins s σ H R I (hi σ H R q)
theorem ZxT{l:Expr}{tl:TE}(hl:PE X l tl):PI X tg l (λσ H R=>tl σ H λx H1=>∃a,x=.ref a/\((∃xs,SqL X.K H1 a xs)/\R (Itl X.K a) H1\/(∃xs,SqT X.K H1 a xs)/\R (Itt X.K a) H1)):=by
 intro pins s σ H R I h;refine thn (hl pins s σ H _ I h) λv s1 ⟨x,H1,I1,r1,q1⟩=>?_;obtain⟨a,e,q1⟩:=q1;subst e;cases r1;rcases q1 with⟨⟨xs,hq⟩,q⟩ | ⟨⟨xs,hq⟩,q⟩
 ·obtain⟨its,rv,p,hz⟩:=I1.list hq
  refine ZDu p.isList ⟨s1.heap.objs.size,[s1.heap.objs.size],_,_,H1,rfl,I1.kept (t':=s1.toks) λb o e=>Zzy _ e,ZsB a _,⟨_,ZzM _ rfl,rfl,rfl⟩,λb hb=>?_,q⟩;obtain rfl:b=s1.heap.objs.size:=by simpa using hb
  exact I1.fpOk (ZzB _) (I1.hok.fresh (ZzB _))
 ·obtain⟨its,rv,p,hz⟩:=I1.tuple hq
  refine wpAny_pyIter_tuple (show s1.heap.IsTuple a its.toArray from p) ⟨s1.heap.objs.size,[s1.heap.objs.size],_,_,H1,rfl,I1.kept (t':=s1.toks) λb o e=>Zzy _ e,Zrx a _,⟨_,ZzM _ rfl,rfl,rfl⟩,λb hb=>?_,q⟩;obtain rfl:b=s1.heap.objs.size:=by simpa using hb
  exact I1.fpOk (ZzB _) (I1.hok.fresh (ZzB _))
theorem Zu6{K:Zzp}{F:Hp}{a:Addr}{ds:List PyData}{vs:List V}(h:SqL K F a vs)(r:Zy K F ds vs):ItD K (Itl K a) ds F:=by intro F' H s1 s2;have hq:SqL K H a vs:=(s1.trans s2).seq h;refine⟨λi d hd=>?_,⟨vs,hq,by rw[r.1]; exact ZzB _⟩⟩;obtain⟨v,h1,h2⟩:=r.get hd;refine⟨⟨vs,v,hq,h1⟩,λx H' hy=>?_⟩;obtain⟨e,y⟩:=hy;refine⟨e,?_⟩;have:=y vs hq;rw[h1]at this;cases this;exact h2.mono (s1.trans (ZdZ s2))
theorem ZuV{K:Zzp}{F:Hp}{a:Addr}{ds:List PyData}{vs:List V}(h:SqT K F a vs)(r:Zy K F ds vs):ItD K (Itt K a) ds F:=by intro F' H s1 s2;have hq:SqT K H a vs:=Zur h (s1.trans s2);refine⟨λi d hd=>?_,⟨vs,hq,by rw[r.1]; exact ZzB _⟩⟩;obtain⟨v,h1,h2⟩:=r.get hd;refine⟨⟨vs,v,hq,h1⟩,λx H' hy=>?_⟩;obtain⟨e,y⟩:=hy;refine⟨e,?_⟩;have:=y vs hq;rw[h1]at this;cases this;exact h2.mono (s1.trans (ZdZ s2))
theorem ZvD{K:Zzp}{F:Hp}{a:Addr}{ds:List PyData}{vs:List V}(h:F a=some (.tup vs))(r:Zy K F ds vs):ItD K (Itt K a) ds F:=by intro F' H s1 s2;have hq:SqT K H a vs:=.of (s2 _ _ (s1 _ _ h));refine⟨λi d hd=>?_,⟨vs,hq,by rw[r.1]; exact ZzB _⟩⟩;obtain⟨v,h1,h2⟩:=r.get hd;refine⟨⟨vs,v,hq,h1⟩,λx H' hy=>?_⟩;obtain⟨e,y⟩:=hy;refine⟨e,?_⟩;have:=y vs hq;rw[h1]at this;cases this;exact h2.mono (s1.trans (ZdZ s2))
theorem ZS(h:XE X e fa):XI X tg e (HM.Z4 (HM.bOf fa)):=by
 intro r ds hd;unfold HM.Z4 HM.bOf at hd;cases hx:fa r with
 | none=>rw[hx]at hd; cases hd
 | some d =>
  rw[hx]at hd;have hd:HM.Zbo (.pl d)=some ds:=hd;refine PI.imp (ZxT (h r d hx)) λσ H R ⟨F0,H0,F,at_,k⟩=>?_;refine⟨F0,H0,F,at_,λv F1 H1 x1 r1=>?_⟩;cases r1 with
  | @tupk a x h1=>cases hd;exact⟨a,rfl,.inr ⟨⟨_,.inr h1⟩,k _ F1 H1 x1 (ZuV (.inr h1) (.one (.str x)))⟩⟩
  | @tup a ds' vs h1 h2 h3=>cases hd;exact⟨a,rfl,.inr ⟨⟨vs,.of (x1.sub _ _ h1)⟩,k _ F1 H1 x1 (ZvD h1 ⟨h2,h3⟩)⟩⟩
  | @lst a ds' vs h1 h2 h3=>cases hd;exact⟨a,rfl,.inl ⟨⟨vs,x1.sub.seq h1⟩,k _ F1 H1 x1 (Zu6 h1 ⟨h2,h3⟩)⟩⟩
  | dct _ _ _ _=>cases hd
  | fn _=>cases hd
  | non=>cases hd
  | bl _=>cases hd
  | int _=>cases hd
  | str _=>cases hd
theorem ZqA{K:Zzp}{F:Hp}(lo:Int)(n:Nat):ItD K (Itr lo n) (HM.Zb4 lo n) F:=by
 intro F' H s1 s2;have hl:(HM.Zb4 lo n).length=n:=by unfold HM.Zb4; rw[Zzr,ZBw]
 refine⟨λi d hd=>?_,?_⟩
 ·have hi:i<n:=by rw[<-hl]; exact(ZzF.mp hd).1
  unfold HM.Zb4 at hd;rw[ZzR,List.getElem?_range hi]at hd;cases hd;exact⟨hi,λx H' ⟨e1,e2⟩=>⟨e1,by rw[e2]; exact .int _⟩⟩
 ·rw[hl]; exact ZzB _
theorem ZjP{j:Int}(h:HM.okR j=true):-1000000<j/\j<1000000:=by unfold HM.okR at h;rw[ZCs]at h;omega
theorem ZbK(hm:X.mg "range" = none)(ha:XE X a fa)(hg:Gl X "range":=by rfl)(hs:ZzC [a] X.env=[(false,eval a X.env)]:=by rfl):XI X tg (.Call (.Name "range" p) [a] [] pos) (HM.Zb8 fa):=by
 intro r ds hd;unfold HM.Zb8 at hd;split at hd
 ·rename_i j hj
  split at hd
  ·rename_i hok
   cases hd;obtain⟨k1,k2⟩:=ZjP hok;refine PI.imp (ZtF hg hm (Zas (ha r _ hj) ZbV hs) hs) λσ H R ⟨F0,H0,F,at_,k⟩=>?_;exact⟨F0,H0,F,at_,λv F1 H1 x1 r1=>⟨j,by rw[r1.int_inv],by omega,by omega,k _ F1 H1 x1 (ZqA 0 j.toNat)⟩⟩
  ·cases hd
 ·cases hd
theorem Zse(hm:X.mg "range" = none)(ha:XE X a fa)(hb:XE X b fb)(hg:Gl X "range":=by rfl)(hs:ZzC [a,b] X.env=[(false,eval a X.env),(false,eval b X.env)]:=by rfl)(hs2:ZzC [b] X.env=[(false,eval b X.env)]:=by rfl) :
  XI X tg (.Call (.Name "range" p) [a,b] [] pos) (HM.ZjV fa fb):=by
 intro r ds hd;unfold HM.ZjV at hd;split at hd
 ·rename_i i hi
  split at hd
  ·rename_i j hj
   split at hd
   ·rename_i hok
    cases hd;rw[ZzK]at hok;obtain⟨k1,k2⟩:=ZjP hok.1;obtain⟨k3,k4⟩:=ZjP hok.2;refine PI.imp (Zth hg hm (Zas (ha r _ hi) (Zas (hb r _ hj) ZbV hs2) (by rw[hs,hs2])) hs hs2) λσ H R ⟨F0,H0,F,at_,k⟩=>?_;exact⟨F0,H0,F,at_,λv F1 H1 x1 r1=>⟨F0,H0,F1,at_.grow x1,λw F2 H2 x2 r2=>⟨i,j,by rw[r1.int_inv,r2.int_inv],⟨by omega,by omega,by omega,by omega⟩,k _ F2 H2 (x1.trans x2) (ZqA i (j-i).toNat)⟩⟩⟩
   ·cases hd
  ·cases hd
 ·cases hd
theorem Zk6{ga gb:HM.BF}(ha:XB X a ga)(hb:XB X b gb):XF X (.BinOp a .Add b pos) (HM.Zmd ga gb):=by
 intro r d h;unfold HM.Zmd at h;split at h
 ·rename_i xs hx
  split at h
  ·rename_i ys hy
   split at h
   ·rename_i hz
    cases h;refine PE.imp (ZrN ZwD (ha r _ hx) (hb r _ hy)) λσ H Q ⟨F0,H0,F,at_,k⟩=>?_;refine⟨F0,H0,F,at_,λv F1 H1 x1 ⟨fp,r1⟩=>⟨F0,H0,F1,at_.grow x1,λw F2 H2 x2 ⟨fq,r2⟩=>?_⟩⟩;cases r1 with
    | ol h1 q1 =>
     cases r2 with
     | ol h2 q2 =>
      have q1':=q1.mono x2.ff;refine⟨_,_,_,_,rfl,rfl,x2.hh _ _ h1,h2,?_,λl hl=>Zfk (P:=λv _ H'=>Q v H') (x1.trans x2) (q1'.append q2) hl k⟩;have e1:=q1.1;have e2:=q2.1;have e3:(1000000:Nat)<=sizeLine:=by decide
      unfold HM.big at hz;omega
   ·cases h
  ·cases h
 ·cases h
theorem Zwv{ga:HM.BF}(ha:XB X a ga)(hb:XE X b fb):XF X (.BinOp a .Mult b pos) (HM.ZuM ga fb):=by
 intro r d h;unfold HM.ZuM at h;split at h
 ·rename_i xs hx
  split at h
  ·rename_i i hy
   split at h
   ·rename_i hz
    cases h;rw[ZzK,decide_eq_true_eq,decide_eq_true_eq]at hz;refine PE.imp (ZrN ZxL (ha r _ hx) (hb r _ hy)) λσ H Q ⟨F0,H0,F,at_,k⟩=>?_;refine⟨F0,H0,F,at_,λv F1 H1 x1 ⟨fp,r1⟩=>⟨F0,H0,F1,at_.grow x1,λw F2 H2 x2 r2=>?_⟩⟩;cases r1 with
    | ol h1 q1 =>
     have q1':=q1.mono x2.ff;refine⟨_,i,_,rfl,r2.int_inv,x2.hh _ _ h1,by omega,by omega,?_,λl hl=>Zfk (P:=λv _ H'=>Q v H') (x1.trans x2) (q1'.rep i.toNat) hl k⟩;have e1:=q1.1;have e3:(1000*1000:Nat)<=sizeLine:=by decide
     refine ZAd (Nat.mul_le_mul (?_:_<=1000) (?_:_<=1000)) e3<;>omega
   ·cases h
  ·cases h
 ·cases h
def XO(X:Cx)(e:Option Expr)(f:Option HM.EF):Prop:=∀r o,HM.ZrX f r=some o->PO X e λσ H Q=>Now X.K r σ H λF0 H0 F=>∀F' H',Ext F H F' H'->Q o H'
theorem ZvU:XO X none none:=by intro r o h;cases h;intro pins s σ H Q I q;obtain⟨F0,H0,F,at_,k⟩:=q;exact ZvV pins s σ H Q I (k F H at_.refl)
theorem ZvP(h:XE X e fa):XO X (some e) (some fa):=by
 intro r o ho;unfold HM.ZrX at ho;split at ho
 ·rename_i z; cases z
 ·rename_i g z
  cases z;split at ho
  ·rename_i i hi
   cases ho;intro pins s σ H Q I q;obtain⟨F0,H0,F,at_,k⟩:=q;exact Zv3 (h r _ hi) pins s σ H Q I ⟨F0,H0,F,at_,λv F1 H1 x1 r1=>⟨i,r1.int_inv,k F1 H1 x1⟩⟩
  ·cases ho
theorem Zww{ga:HM.BF}{lo hi:Option Expr}{fl fh:Option HM.EF}{p2:Pos}(ha:XB X a ga)(hl:XO X lo fl)(hh:XO X hi fh):XF X (.Subscript a (.Slice lo hi none p2) pos) (HM.ZuR ga fl fh):=by
 intro r d h;unfold HM.ZuR at h;split at h
 ·rename_i x hx
  split at h
  ·rename_i xs hxs
   split at h
   ·rename_i l hl'
    split at h
    ·rename_i u hu'
     cases h;refine PE.imp (Zum Zv0 (ha r _ hx) (hl r _ hl') (hh r _ hu')) λσ H Q ⟨F0,H0,F,at_,k⟩=>?_;refine⟨F0,H0,F,at_,λv F1 H1 x1 ⟨fp,r1⟩=>⟨F0,H0,F1,at_.grow x1,λF2 H2 x2=>⟨F0,H0,F2,(at_.grow x1).grow x2,λF3 H3 x3=>?_⟩⟩⟩;have x23:=x2.trans x3;obtain⟨l',vs,e1,hq,rs⟩:=ZgN x3.sub (r1.mono x23.ff λ_ _ _ z=>x23.hh _ _ z) hxs;refine⟨l',vs,e1,hq,λl2 hl2=>Zfk (P:=λv _ H'=>Q v H') (x1.trans x23) ?_ hl2 k⟩;unfold HM.cutD ZpB;rw[<-rs.1];exact(rs.drop _).take _
    ·cases h
   ·cases h
  ·cases h
 ·cases h
theorem Zbv.val{K:Zzp}{F0 H0 F H:Hp}{r:HM.Env}{σ:L2.St}{fp:Nat->List Addr}{i:Nat}{ds:List PyData}(e:Zbv K F0 H0 F H r σ fp)(h:r[i]?=some (some (.ol ds))) :
  ∃l vs,σ[i]?=some (some (.ref l))/\H l=some (.lst vs)/\Zy K F ds vs/\fp i=[l]:=by
 obtain⟨v,h1,h2⟩:=e.at_ i _ h;generalize hf:fp i=q at h2;cases h2 with
 | ol k1 k2=>exact⟨_,_,h1,k1,k2,rfl⟩
theorem At.chgList{K:Zzp}{F0 H0 F H:Hp}{r:HM.Env}{σ:L2.St}{i:Nat}{ds es:List PyData}(e:At K F0 H0 F H r σ)(h:r[i]?=some (some (.ol ds))) :
  ∃l vs,σ[i]?=some (some (.ref l))/\H l=some (.lst vs)/\Zy K F ds vs/\∀us,Zy K F es us->At K F0 H0 F (upd H l (.lst us)) (r.set i (some (.ol es))) σ:=by
 obtain⟨fp,e⟩:=e;obtain⟨l,vs,h1,h2,h3,h4⟩:=e.val h;refine⟨l,vs,h1,h2,h3,λus q=>e.change (fp':=[l]) h1 (.ol ZH q) (by simp) (λa ha=>.inl (by rw[h4]; exact ha)) λa o z hn=>?_⟩;rw[ZD (λz=>hn (by rw[h4,z]; simp))];exact z
theorem Zeq(i:Nat){x:Str}{p1 p2 p3:Pos}(ha:XE X a fa)(hN:X.N[i]?=some x:=by rfl)(hv:Vis X.env.scope x:=by first | exact ZAe rfl | exact ZzY (ZAe rfl) | exact ZzY (ZzY rfl))(hd:(x==("__debug__":Str))=false:=by decide)(hcd:(x==("__classdict__":Str))=false:=by decide)
  (hbase:ZBI (.Name x p1) "append" X.env (eval (.Name x p1) X.env)=eval (.Name x p1) X.env:=by rfl)
  (hfew:((backTo p3 (ZzC [a] X.env)).all (λx=>!x.1)&&(ZDH p3 (ZCG [] X.env)).all (λx=>x.1.isSome)&&decide (([a]:List Expr).length+([]:List Keyword).length+(if([]:List Keyword).isEmpty then 0 else 1)<30))=true:=by rfl)
  (hline:(p2.endLine==p3.line)=true:=by rfl) (hs:ZzC [a] X.env=[(false,eval a X.env)]:=by rfl):XS X (.Expr (.Call (.Attribute (.Name x p1) "append" p2) [a] [] p3) pos) (HM.Zev i fa):=by
 intro r o h;unfold HM.Zev at h;split at h
 ·rename_i ds hds
  split at h
  ·rename_i d hd'
   split at h
   ·rename_i hz
    cases h;refine PS.imp (ZhX (Znq ZBy ZCk ZCl Zg5 (ZbU hN hv hd hcd) (Zas (ha r d hd') ZbV hs) hbase hfew hline hs rfl)) λE σ H ⟨F0,H0,F,at_,k⟩=>?_;obtain⟨l,vs,e1,e2,e3,_⟩:=at_.chgList (es:=ds) hds;refine⟨.ref l,e1,.inl ⟨rfl,_,SqL.of e2⟩,F0,H0,F,at_,λv F1 H1 x1 r1=>?_⟩;have at1:=at_.grow x1;obtain⟨l',vs',f1,f2,f3,f4⟩:=at1.chgList (es:=ds++[d]) hds;rw[e1]at f1;cases f1;refine⟨_,vs',v,rfl,rfl,f2,?_,k _ F1 _ (f4 _ (f3.append (.one r1)))⟩;have e4:=f3.1;have e5:(1000000:Nat)<=sizeLine:=by decide
    unfold HM.big at hz;omega
   ·cases h
  ·cases h
 ·cases h
theorem Zvr(i:Nat){x:Str}{p1 p2:Pos}(hk:XE X b fb)(ha:XE X a fa)(hN:X.N[i]?=some x:=by rfl)(hv:Vis X.env.scope x:=by first | exact ZAe rfl | exact ZzY (ZAe rfl) | exact ZzY (ZzY rfl))(hd:(x==("__debug__":Str))=false:=by decide)(hcd:(x==("__classdict__":Str))=false:=by decide)
  (hsub:∀v,assign (.Subscript (.Name x p1) b p2) X.env v=(do
   let ov <-holding [v] (eval (.Name x p1) X.env)
   let iv <-holding [v,ov] (eval b X.env)
   standAt p2
   holding [v,ov,iv] (setItem ov iv v)
   release [v,ov,iv] []):=by intro _; rfl)
  (hs:swapsWithSole [.Subscript (.Name x p1) b p2] a pos.line X.env=pure false:=by rfl) (hw:swappedStores [.Subscript (.Name x p1) b p2] a X.env=pure none:=by rfl)
  (h1:(ZCp [.Subscript (.Name x p1) b p2] X.env).map (·.2)=[assign (.Subscript (.Name x p1) b p2) X.env]:=by rfl):XS X (.Assign [.Subscript (.Name x p1) b p2] a pos) (HM.Zrw i fb fa):=by
 intro r o h;unfold HM.Zrw at h;split at h
 ·rename_i d hd'
  split at h
  ·rename_i ds hds
   split at h
   ·rename_i n hn
    split at h
    ·rename_i j hj
     cases h;refine PS.imp (ZxJ (ha r d hd') (Zxn (ZbU hN hv hd hcd) (hk r _ hn) set_list hsub) hs hw h1) λE σ H ⟨F0,H0,F,at_,k⟩=>?_;refine⟨F0,H0,F,at_,λv F1 H1 x1 r1=>?_⟩;have at1:=at_.grow x1;obtain⟨l,vs,e1,e2,e3,_⟩:=at1.chgList (es:=ds) hds;refine⟨.ref l,e1,F0,H0,F1,at1,λw F2 H2 x2 r2=>?_⟩;obtain⟨l',vs',f1,f2,f3,f4⟩:=(at1.grow x2).chgList (es:=ds.set j d) hds;rw[e1]at f1;cases f1;refine⟨_,vs',n,j,rfl,r2.int_inv,f2,?_,k _ F2 _ (f4 _ (f3.set (r1.mono x2.ff) j))⟩;rw[<-f3.1];exact hj
    ·cases h
   ·cases h
  ·cases h
 ·cases h
end
end HP
namespace HP
open PySem PySem.Spec PyProof.Rows L2
variable[FX]
section
variable{K:Zzp}{F:Hp}{κ:Type}[DecidableEq κ]
def ZaL(K:Zzp)(F:Hp)(kvs:List (κ × PyData))(vvs:List (κ × V)):Prop:=kvs.map (·.1)=vvs.map (·.1)/\Zy K F (kvs.map (·.2)) (vvs.map (·.2))
theorem ZaL.nil:ZaL K F ([]:List (κ × PyData)) []:=⟨rfl,.nil⟩
theorem ZaL.cons{k:κ}{d:PyData}{v:V}{kvs:List (κ × PyData)}{vvs:List (κ × V)}(r:Rep K F d v)(q:ZaL K F kvs vvs):ZaL K F ((k,d)::kvs) ((k,v)::vvs) :=
 ⟨by rw[Zzw,Zzw,q.1],by rw[Zzw,Zzw]; exact .cons r q.2⟩
theorem ZaL.inv{kvs:List (κ × PyData)}{vvs:List (κ × V)}(q:ZaL K F kvs vvs):(kvs=[]/\vvs=[])\/∃k d v kvs' vvs',kvs=(k,d)::kvs'/\vvs=(k,v)::vvs'/\Rep K F d v/\ZaL K F kvs' vvs':=by
 cases kvs with
 | nil =>
  cases vvs with
  | nil=>exact .inl ⟨rfl,rfl⟩
  | cons p r=>exact absurd q.1 (by simp)
 | cons p kvs' =>
  cases vvs with
  | nil=>exact absurd q.1 (by simp)
  | cons p' vvs' =>
   obtain⟨k,d⟩:=p;obtain⟨k',v⟩:=p';obtain⟨q1,q2⟩:=q;rw[Zzw,Zzw]at q1 q2;injection q1 with e1 e2
   have e1:k=k':=e1;subst e1;obtain⟨v',us,e3,r1,r2⟩:=q2.cons_inv;injection e3 with e3 e4
   refine .inr ⟨k,d,v,kvs',vvs',rfl,rfl,?_,e2,?_⟩
   ·rw[show v=v' from e3]; exact r1
   ·rw[e4]; exact r2
theorem ZaL.len{kvs:List (κ × PyData)}{vvs:List (κ × V)}(q:ZaL K F kvs vvs):kvs.length=vvs.length:=by
 have:=congrArg ZAi q.1
 rwa [Zzr,Zzr]at this
theorem ZaL.any{kvs:List (κ × PyData)}{vvs:List (κ × V)}(k:κ)(q:ZaL K F kvs vvs):(kvs.any λp=>decide (p.1=k))=vvs.any λp=>decide (p.1=k):=by
 have e:∀{β:Type} (l:List (κ × β)),(l.any λp=>decide (p.1=k))=(l.map (·.1)).any λx=>decide (x=k):=λl=>by rw[List.any_map]; rfl
 rw[e,e,q.1]
theorem ZaL.repl{d:PyData}{v:V}(k:κ)(r:Rep K F d v):∀{kvs:List (κ × PyData)} {vvs:List (κ × V)},ZaL K F kvs vvs->ZaL K F (kvs.map λp=>if p.1=k then(p.1,d)else p) (vvs.map λp=>if p.1=k then(p.1,v)else p)
 | [],vvs,q=>by
  rcases q.inv with⟨_,e⟩ | ⟨_,_,_,_,_,e,_⟩
  ·subst e; exact .nil
  ·cases e
 | p::kvs,vvs,q=>by
  rcases q.inv with⟨e,_⟩ | ⟨k',d',v',kvs',vvs',e1,e2,r1,r2⟩
  ·cases e
  ·cases e1
   subst e2;have ih:=ZaL.repl k r r2;rw[Zzw,Zzw]
   by_cases h:k'=k
   ·rw[if_pos h,if_pos h]; exact .cons r ih
   ·rw[if_neg h,if_neg h]; exact .cons r1 ih
theorem ZaL.snoc{kvs:List (κ × PyData)}{vvs:List (κ × V)}{k:κ}{d:PyData}{v:V}(q:ZaL K F kvs vvs)(r:Rep K F d v):ZaL K F (kvs++[(k,d)]) (vvs++[(k,v)]) :=
 ⟨by rw[Zz0,Zz0,q.1]; rfl,by rw[Zz0,Zz0]; exact q.2.append (.one r)⟩
theorem ZaL.put{kvs:List (κ × PyData)}{vvs:List (κ × V)}{d:PyData}{v:V}(q:ZaL K F kvs vvs)(k:κ)(r:Rep K F d v):ZaL K F (HM.putD kvs k d) (putK vvs k v):=by
 unfold HM.putD putK;rw[q.any k]
 by_cases h:(vvs.any λp=>decide (p.1=k))=true
 ·rw[if_pos h,if_pos h]; exact q.repl k r
 ·rw[if_neg h,if_neg h]; exact q.snoc r
theorem ZaL.look{k:κ}:∀{kvs:List (κ × PyData)} {vvs:List (κ × V)},ZaL K F kvs vvs->(∀d,HM.Zg kvs k=some d->∃v,ZaS vvs k=some v/\Rep K F d v)/\(HM.Zg kvs k=none->ZaS vvs k=none)
 | [],vvs,q=>by
  rcases q.inv with⟨_,e⟩ | ⟨_,_,_,_,_,e,_⟩
  ·subst e; exact⟨λd h=>(by cases h),λ_=>rfl⟩
  ·cases e
 | p::kvs,vvs,q=>by
  rcases q.inv with⟨e,_⟩ | ⟨k',d',v',kvs',vvs',e1,e2,r1,r2⟩
  ·cases e
  ·cases e1
   subst e2;obtain⟨i1,i2⟩:=ZaL.look (k:=k) r2
   by_cases h:k'=k
   ·have e3:HM.Zg ((k',d')::kvs) k=some d':=by simp[HM.Zg,ZAn,h]
    rw[e3,Zel (p:=(k',v')) h];exact⟨λd hd=>(by cases hd; exact⟨v',rfl,r1⟩),λhd=>by cases hd⟩
   ·have e3:HM.Zg ((k',d')::kvs) k=HM.Zg kvs k:=by simp[HM.Zg,ZAn,h]
    rw[e3,Zem (p:=(k',v')) h];exact⟨i1,i2⟩
theorem ZaL.some_iff{k:κ}{kvs:List (κ × PyData)}{vvs:List (κ × V)}(q:ZaL K F kvs vvs):(ZaS vvs k).isSome=(HM.Zg kvs k).isSome:=by
 obtain⟨i1,i2⟩:=q.look (k:=k);cases h:HM.Zg kvs k with
 | none=>rw[i2 h]; rfl
 | some d=>obtain⟨v,h1,_⟩:=i1 d h; rw[h1]; rfl
end
section
variable{K:Zzp}{F:Hp}
theorem ZgE{d:PyData}{k:Key}{v:V}(h:HM.ZiJ d=some k)(r:Rep K F d v):v=kV k:=by cases r<;>first | (cases h; rfl) | cases h
theorem ZmE:∀{ds:List PyData} {ks:List Key} {vs:List V},HM.Zhb ds=some ks->Zy K F ds vs->vs=ks.map kV
 | [],ks,vs,h,r=>by cases h; exact r.nil_inv
 | d::ds,ks,vs,h,r=>by
  obtain⟨v,us,rfl,r1,r2⟩:=r.cons_inv;unfold HM.Zhb at h;split at h
  ·rename_i k hk
   obtain⟨ks',h1,h2⟩:=Zzs.mp h;subst h2;rw[ZgE hk r1,ZmE h1 r2];rfl
  ·cases h
theorem Zq0:∀{ds:List PyData} {ks:List Key},HM.ZlX ds=some ks->HM.Zhb ds=some ks
 | [],ks,h=>h
 | d::ds,ks,h=>by
  unfold HM.ZlX at h;split at h
  ·cases ‹_=[]›
  ·rename_i i r e
   injection e with e1 e2
   subst e1 e2;obtain⟨ks',h1,h2⟩:=Zzs.mp h;subst h2;show(match HM.ZiJ (.int i)with | some k=>(HM.Zhb ds).map (k::·) | none=>none)=_;rw[Zq0 h1];rfl
  ·cases h
theorem Zb0{d:PyData}{ks:List Key}{v:V}(h:HM.ZaT d=some ks)(r:Rep K F d v):∃b,v=.ref b/\F b=some (.tup (ks.map kV)):=by
 cases r with
 | tup h1 h2 h3=>refine⟨_,rfl,?_⟩;rw[<-ZmE (Zq0 h) ⟨h2,h3⟩];exact h1
 | tupk _=>cases h
 | lst _ _ _=>cases h
 | dct _ _ _ _=>cases h
 | fn _=>cases h
 | non=>cases h
 | bl _=>cases h
 | int _=>cases h
 | str _=>cases h
end
section
variable{X:Cx}{a b c e:Expr}{fa fb fc:HM.EF}{pos p:Pos}{f:HM.BF}
theorem fresh_one{K:Zzp}{F H F1 H1:Hp}{o:HO}{q:HM.B}{l:Addr}{P:V->Hp->Hp->Prop}(x1:Ext F H F1 H1)(hl:H1 l=none)(hq:Zai K F1 (upd H1 l o) q (.ref l) [l])
  (k:∀v F' H',Ext F H F' H'->(∃fp,Zai K F' H' q v fp/\fp.Nodup/\∀a∈fp,F' a=none/\H a=none)->P v F' H'):P (.ref l) F1 (upd H1 l o):=by
 refine k _ F1 _ (x1.lay' hl) ⟨[l],hq,by simp,λa ha=>?_⟩;obtain rfl:a=l:=by simpa using ha
 exact⟨x1.sub.free hl,x1.hh.free hl⟩
theorem ZxX:XF X (.Dict [] [] pos) HM.fDk:=by intro r d h;cases h;exact PE.imp ZuG λσ H Q ⟨F0,H0,F,at_,k⟩ l hl=>fresh_one (P:=λv _ H'=>Q v H') at_.refl hl (.ok ZH rfl .nil) k
theorem Zk7:XF X (.Dict [] [] pos) HM.fDt:=by intro r d h;cases h;exact PE.imp Zor λσ H Q ⟨F0,H0,F,at_,k⟩ l hl=>fresh_one (P:=λv _ H'=>Q v H') at_.refl hl (.ot ZH rfl .nil) k
theorem Zsf:XF X (.Dict [] [] pos) HM.ZuT:=by intro r d h;cases h;exact PE.imp Zor λσ H Q ⟨F0,H0,F,at_,k⟩ l hl=>fresh_one (P:=λv _ H'=>Q v H') at_.refl hl (.otl ZH rfl rfl λi ds l' h=>by simp at h) k
theorem ZtL(ha:XE X a fa)(hb:XE X b fb):XF X (.Dict [some a] [b] pos) (HM.Zo4 fa fb):=by
 intro r d h;unfold HM.Zo4 at h;split at h
 ·rename_i x hx
  split at h
  ·rename_i y hy
   split at h
   ·rename_i k hk
    cases h;refine PE.imp (ZvQ (Zux (ha r x hx) (hb r y hy) Zv6) rfl rfl (by simp) (by simp)) λσ H Q ⟨F0,H0,F,at_,kk⟩ l hl=>?_;have hFl:F l=none:=at_.sub.free hl;have x0:Ext F H F (upd H l (.dK [])):=at_.refl.lay' hl;refine⟨F0,H0,F,at_.grow x0,λv F1 H1 x1 r1=>⟨F0,H0,F1,(at_.grow x0).grow x1,λw F2 H2 x2 r2=>?_⟩⟩;have x12:=x1.trans x2;have hl2:H2 l=some (.dK []):=x12.hh l _ ZH;have hF2:F2 l=none:=by
     cases q:F2 l with
     | none=>rfl
     | some o =>
      rcases x12.new l o q with z | z
      ·rw[hFl]at z; cases z
      ·exact(z.no ZH λ_ q=>by cases q).elim
    refine⟨hl2,[(k,w)],?_,by simp,?_⟩
    ·rw[ZgE hk r1]
     rfl
    have xe:Ext F H F2 (upd H2 l (.dK (ZhS [] [(k,w)]))):=by
     refine⟨x12.ff,λc o z=>?_,λc o z=>?_,λc o z=>?_,λt=>(x12.tab (t.same (Zk1 hl))).keep λa u z hu=>?_,x12.nts⟩
     ·have hc:c≠l:=ZaB z hl
      exact(x12.hh c o (by rw[ZD hc]; exact z)).cong (ZD hc)
     ·rw[ZD (λe=>by rw[e,hF2]at z; cases z)]
      exact x12.sub c o z
     ·rcases x12.new c o z with q | q
      ·exact .inl q
      ·exact .inr (q.back (.of (Zs.upd' hl)))
     ·rw[ZD (λe=>by subst e; rw[hl2]at z; cases z; cases hu)]; exact z
    refine kk _ F2 _ xe ⟨[l],.ok ZH rfl (.one r2),by simp,λc hc=>?_⟩;obtain rfl:c=l:=by simpa using hc
    exact⟨hF2,hl⟩
   ·cases h
  ·cases h
 ·cases h
end
end HP
namespace HP
open PySem PySem.Spec PyProof.Rows L2
variable[FX]
theorem At.chgOne{K:Zzp}{F0 H0 F H:Hp}{r:HM.Env}{σ:L2.St}{i:Nat}{q:HM.B}{l:Addr}(e:At K F0 H0 F H r σ)(h:r[i]?=some (some q))(hv:σ[i]?=some (some (.ref l)))(hone:∀v fp,Zai K F H q v fp->∃a,v=.ref a/\fp=[a]) :
  ∀o q',Zai K F (upd H l o) q' (.ref l) [l]->At K F0 H0 F (upd H l o) (r.set i (some q')) σ:=by
 intro o q' hq;obtain⟨fp,e⟩:=e;obtain⟨v,h1,h2⟩:=e.at_ i _ h;obtain⟨a,e1,e2⟩:=hone v _ h2;subst e1;rw[hv]at h1;cases h1;refine e.change (fp':=[l]) hv hq (by simp) (λc hc=>.inl (by rw[e2]; exact hc)) λc o' z hn=>?_;rw[ZD (λz=>hn (by rw[e2,z]; simp))];exact z
section
variable{X:Cx}{a b c e:Expr}{fa fb fc:HM.EF}{pos p:Pos}{f:HM.BF}
theorem Zfr{n:Nat}(h:n<HM.big):n<sizeLine:=by
 have e5:(1000000:Nat)<=sizeLine:=by decide
 unfold HM.big at h;omega
theorem ZeF(hu:X.A.units+1<cLine)(i:Nat){x:Str}{p1 p2:Pos}(hk:XE X b fb)(ha:XE X a fa)(hN:X.N[i]?=some x:=by rfl)(hv:Vis X.env.scope x:=by first | exact ZAe rfl | exact ZzY (ZAe rfl) | exact ZzY (ZzY rfl))(hd:(x==("__debug__":Str))=false:=by decide)(hcd:(x==("__classdict__":Str))=false:=by decide)
  (hs:ZBC a (some (.Subscript (.Name x p1) b p2)) pos.line X.env=pure false:=by rfl):XS X (.Assign [.Subscript (.Name x p1) b p2] a pos) (HM.ZfT i fb fa):=by
 intro r o h;unfold HM.ZfT at h;split at h
 ·rename_i d hd'
  split at h
  ·rename_i y hy
   split at h
   ·rename_i kvs hb
    split at h
    ·rename_i k hk'
     split at h
     ·rename_i hz
      cases h;refine PS.imp (ZlW hu (ZbU hN hv hd hcd) (hk r y hy) (ha r d hd') hs) λE σ H ⟨F0,H0,F,at_,kk⟩=>?_;refine⟨F0,H0,F,at_,λv F1 H1 x1 r1=>?_⟩;have at1:=at_.grow x1;obtain⟨u,fp,e1,e2⟩:=at1.any hb;refine⟨u,e1,F0,H0,F1,at1,λw F2 H2 x2 r2=>?_⟩;have at2:=at1.grow x2;cases e2 with
      | @ok l _ vvs e2 e3 e4=>have T:ZaL X.K F2 kvs vvs:=⟨e3,e4.mono x2.ff⟩;have T':=T.put k (r1.mono x2.ff);rw[ZgE hk' r2];have hH:H2 l=some (.dK vvs):=x2.hh _ _ e2;refine⟨l,_,rfl,ZiM.k hH (by rw[<-T.len]; exact Zfr hz),kk _ F2 _ (at2.chgOne hb e1 (λv fp q=>by cases q; exact⟨_,rfl,rfl⟩) _ _ (.ok ZH T'.1 T'.2))⟩
     ·cases h
    ·cases h
   ·rename_i kvs hb
    split at h
    ·rename_i k hk'
     split at h
     ·rename_i hz
      cases h;refine PS.imp (ZlW hu (ZbU hN hv hd hcd) (hk r y hy) (ha r d hd') hs) λE σ H ⟨F0,H0,F,at_,kk⟩=>?_;refine⟨F0,H0,F,at_,λv F1 H1 x1 r1=>?_⟩;have at1:=at_.grow x1;obtain⟨u,fp,e1,e2⟩:=at1.any hb;refine⟨u,e1,F0,H0,F1,at1,λw F2 H2 x2 r2=>?_⟩;have at2:=at1.grow x2;cases e2 with
      | @ot l _ vvs e2 e3 e4=>have T:ZaL X.K F2 kvs vvs:=⟨e3,e4.mono x2.ff⟩;have T':=T.put k (r1.mono x2.ff);obtain⟨bb,rfl,hbb⟩:=Zb0 hk' r2;have hH:H2 l=some (.dT vvs):=x2.hh _ _ e2;refine⟨l,_,rfl,ZiM.t hH (x2.sub _ _ hbb) (by rw[<-T.len]; exact Zfr hz),kk _ F2 _ (at2.chgOne hb e1 (λv fp q=>by cases q; exact⟨_,rfl,rfl⟩) _ _ (.ot ZH T'.1 T'.2))⟩
     ·cases h
    ·cases h
   ·cases h
  ·cases h
 ·cases h
theorem Zk2{K:Zzp}{F H:Hp}(k:List Key):∀(kvs:List (List Key × List PyData)) (vvs:List (List Key × V)) (ls:List Addr),kvs.map (·.1)=vvs.map (·.1)->vvs.map (·.2)=ls.map V.ref ->
  (∀(i:Nat) (ds:List PyData) (l:Addr),(kvs.map (·.2))[i]?=some ds->ls[i]?=some l->∃vs,H l=some (.lst vs)/\Zy K F ds vs) ->
  (∀ds,HM.Zg kvs k=some ds->∃l' vs,ZaS vvs k=some (.ref l')/\l'∈ls/\H l'=some (.lst vs)/\Zy K F ds vs)/\(HM.Zg kvs k=none->ZaS vvs k=none)
 | [],[],_,_,_,_=>⟨(λds h=>by cases h),λ_=>rfl⟩
 | [],_::_,_,hk,_,_=>by simp at hk
 | _::_,[],_,hk,_,_=>by simp at hk
 | _::_,_::_,[],_,hv,_=>by simp at hv
 | (k1,ds1)::kvs,(k2,v2)::vvs,l1::ls,hk,hv,r=>by
  rw[Zzw,Zzw]at hk hv;injection hk with e1 e2
  injection hv with e3 e4
  have e1:k1=k2:=e1;have e3:v2=.ref l1:=e3;subst e1 e3;obtain⟨i1,i2⟩:=Zk2 k kvs vvs ls e2 e4 λi ds l h1 h2=>r (i+1) ds l (by simpa using h1) (by simpa using h2)
  by_cases hkk:k1=k
  ·have e5:HM.Zg ((k1,ds1)::kvs) k=some ds1:=by simp[HM.Zg,ZAn,hkk]
   rw[e5,Zel (p:=(k1,V.ref l1)) hkk];obtain⟨vs,q1,q2⟩:=r 0 ds1 l1 rfl rfl;exact⟨(λds h=>by cases h; exact⟨l1,vs,rfl,by simp,q1,q2⟩),(λh=>by cases h)⟩
  ·have e5:HM.Zg ((k1,ds1)::kvs) k=HM.Zg kvs k:=by simp[HM.Zg,ZAn,hkk]
   rw[e5,Zem (p:=(k1,V.ref l1)) hkk];exact⟨λds h=>let ⟨l',vs,a1,a2,a3⟩:=i1 ds h; ⟨l',vs,a1,Zzu _ a2,a3⟩,i2⟩
theorem Zpg{K:Zzp}{F H:Hp}{kvs:List (List Key × List PyData)}{v:V}{fp:List Addr}(q:Zai K F H (.otl kvs) v fp) :
  ∃l vvs ls,v=.ref l/\fp=l::ls/\H l=some (.dT vvs)/\kvs.map (·.1)=vvs.map (·.1)/\vvs.map (·.2)=ls.map V.ref /\
   ∀k,(∀ds,HM.Zg kvs k=some ds->∃l' vs,ZaS vvs k=some (.ref l')/\l'∈ls/\H l'=some (.lst vs)/\Zy K F ds vs)/\(HM.Zg kvs k=none->ZaS vvs k=none):=by
 cases q with
 | @otl l _ vvs ls h hk hv r=>exact⟨l,vvs,ls,rfl,rfl,h,hk,hv,λk=>Zk2 k kvs vvs ls hk hv r⟩
theorem Zve{K:Zzp}{F H:Hp}{q:HM.B}{v w:V}{fp:List Addr}{x:PyData}{c:Bool}(sub:Zs F H)(rq:Zai K F H q v fp)(rx:Rep K F x w)(h:HM.hasB q x=some c):∃l o,v=.ref l/\Zcm H l w o/\o.isSome=c:=by
 cases rq with
 | pl _=>cases h
 | hd _ _ _ _=>cases h
 | hf _=>cases h
 | ol _ _=>cases h
 | @ok l kvs vvs h1 h2 h3=>obtain⟨k,e1,e2⟩:=Zzs.mp h;rw[ZgE e1 rx];exact⟨l,_,rfl,Zcm.k h1,by rw[ZaL.some_iff (K:=K) (F:=F) ⟨h2,h3⟩,<-e2]⟩
 | @ot l kvs vvs h1 h2 h3=>obtain⟨k,e1,e2⟩:=Zzs.mp h;obtain⟨bb,rfl,hbb⟩:=Zb0 e1 rx;exact⟨l,_,rfl,Zcm.t h1 (sub _ _ hbb),by rw[ZaL.some_iff (K:=K) (F:=F) ⟨h2,h3⟩,<-e2]⟩
 | @otl l kvs vvs ls h1 h2 h3 h4 =>
  obtain⟨k,e1,e2⟩:=Zzs.mp h;obtain⟨bb,rfl,hbb⟩:=Zb0 e1 rx;refine⟨l,_,rfl,Zcm.t h1 (sub _ _ hbb),?_⟩;obtain⟨l2,vvs2,ls2,e3,e4,e5,_,_,hl⟩:=Zpg (Zai.otl h1 h2 h3 h4);cases e3;rw[h1]at e5;cases e5;obtain⟨i1,i2⟩:=hl k;rw[<-e2];cases hq:HM.Zg kvs k with
  | none=>rw[i2 hq]; rfl
  | some ds=>obtain⟨_,_,h5,_⟩:=i1 ds hq; rw[h5]; rfl
theorem ZrU{r:HM.Env}{d:PyData}(h:HM.ZlD fa f r=some d):∃x q c,fa r=some x/\f r=some q/\HM.hasB q x=some c/\d=.bool (!c):=by
 unfold HM.ZlD at h;split at h
 ·split at h
  ·obtain⟨c,h1,h2⟩:=Zzs.mp h
   exact⟨_,_,c,by assumption,by assumption,h1,h2.symm⟩
  ·cases h
 ·cases h
theorem ZtM(hu:X.A.units+1<cLine)(ha:XE X a fa)(hb:XB X b f)(hm:ZAD .NotIn b=false:=by rfl):XT X (.Compare a [.NotIn] [b] pos) (HM.tV (HM.ZlD fa f)):=by intro r d h;obtain⟨x,q,c,h1,h2,h3,e⟩:=ZrU (ZfL h);cases e;refine PT.imp (ZpE (Zmo hu (ha r x h1) (hb r q h2)) hm) λσ H Q ⟨F0,H0,F,at_,k⟩=>?_;refine⟨F0,H0,F,at_,λv F1 H1 x1 r1=>⟨F0,H0,F1,at_.grow x1,λw F2 H2 x2 ⟨fp,r2⟩=>?_⟩⟩;obtain⟨l,o,e1,e2,e3⟩:=Zve x2.sub r2 (r1.mono x2.ff) h3;exact⟨l,o,e1,e2,_,rfl,by rw[e3]; exact k F2 H2 (x1.trans x2)⟩
theorem Zup{i:Nat}{r:HM.Env}{q:HM.B}(h:HM.Zod i fa r=some q):∃x bb,fa r=some x/\r[i]?=some (some bb) /\
  ((∃kvs k d,bb=.ok kvs/\HM.ZiJ x=some k/\HM.Zg kvs k=some d/\q=.pl d)\/(∃kvs k d,bb=.ot kvs/\HM.ZaT x=some k/\HM.Zg kvs k=some d/\q=.pl d)\/∃kvs k ds,bb=.otl kvs/\HM.ZaT x=some k/\HM.Zg kvs k=some ds/\q=.ol ds):=by
 unfold HM.Zod at h;split at h
 ·rename_i x hx
  split at h
  ·rename_i kvs hb
   split at h
   ·rename_i k hk
    obtain⟨d,h1,h2⟩:=Zzs.mp h;exact⟨x,_,hx,hb,.inl ⟨kvs,k,d,rfl,hk,h1,h2.symm⟩⟩
   ·cases h
  ·rename_i kvs hb
   split at h
   ·rename_i k hk
    obtain⟨d,h1,h2⟩:=Zzs.mp h;exact⟨x,_,hx,hb,.inr (.inl ⟨kvs,k,d,rfl,hk,h1,h2.symm⟩)⟩
   ·cases h
  ·rename_i kvs hb
   split at h
   ·rename_i k hk
    obtain⟨d,h1,h2⟩:=Zzs.mp h;exact⟨x,_,hx,hb,.inr (.inr ⟨kvs,k,d,rfl,hk,h1,h2.symm⟩)⟩
   ·cases h
  ·cases h
 ·cases h
theorem Zsg(hu:X.A.units+1<cLine)(i:Nat){x:Str}{p1:Pos}(hk:XE X b fb)(hN:X.N[i]?=some x:=by rfl)(hv:Vis X.env.scope x:=by first | exact ZAe rfl | exact ZzY (ZAe rfl) | exact ZzY (ZzY rfl))(hd:(x==("__debug__":Str))=false:=by decide)(hcd:(x==("__classdict__":Str))=false:=by decide)
  (hs:Zo2 b:=by intro _ _; rfl):XB X (.Subscript (.Name x p1) b pos) (HM.Zod i fb):=by
 intro r q h;obtain⟨y,bb,h1,h2,h3⟩:=Zup h;refine PE.imp (ZlR hu (ZbU hN hv hd hcd) (hk r y h1) hs) λσ H Q ⟨F0,H0,F,at_,kk⟩=>?_;obtain⟨u,fp,e1,e2⟩:=at_.any h2;refine⟨u,e1,F0,H0,F,at_,λw F2 H2 x2 r2=>?_⟩;have e2':=e2.mono x2.ff λ_ _ _ z=>x2.hh _ _ z;rcases h3 with⟨kvs,k,d,rfl,hk',hl,rfl⟩ | ⟨kvs,k,d,rfl,hk',hl,rfl⟩ | ⟨kvs,k,ds,rfl,hk',hl,rfl⟩
 ·cases e2' with
  | @ok l _ vvs g1 g2 g3=>obtain⟨v,q1,q2⟩:=(ZaL.look (k:=k) (K:=X.K) (F:=F2) ⟨g2,g3⟩).1 d hl;rw[ZgE hk' r2];exact⟨l,v,rfl,by rw[<-q1]; exact Zcm.k g1,kk v F2 H2 x2 ⟨[],.pl q2⟩⟩
 ·cases e2' with
  | @ot l _ vvs g1 g2 g3=>obtain⟨v,q1,q2⟩:=(ZaL.look (k:=k) (K:=X.K) (F:=F2) ⟨g2,g3⟩).1 d hl;obtain⟨bb',rfl,hbb⟩:=Zb0 hk' r2;exact⟨l,v,rfl,by rw[<-q1]; exact Zcm.t g1 (x2.sub _ _ hbb),kk v F2 H2 x2 ⟨[],.pl q2⟩⟩
 ·obtain⟨l,vvs,ls,rfl,_,g1,_,_,hlk⟩:=Zpg e2'
  obtain⟨l',vs,q1,_,q2,q3⟩:=(hlk k).1 ds hl;obtain⟨bb',rfl,hbb⟩:=Zb0 hk' r2;exact⟨l,_,rfl,by rw[<-q1]; exact Zcm.t g1 (x2.sub _ _ hbb),kk _ F2 H2 x2 ⟨[l'],.ol q2 q3⟩⟩
end
end HP
namespace HP
open PySem PySem.Spec PyProof.Rows L2
variable[FX]
abbrev No:Value->Shared->Prop:=λ_ _=>False
abbrev ZqW(ifs:List Expr)(env:Env):Sem Bool :=
 forIn ifs true λc r=>if r=true then do let ok <-isTrue c env (eval c env); pure (ZCZ ok)else pure (ZCZ r)
theorem Zs2{prog:Program}{w:World}{A:Around}{R:Result->Shared->Prop}{s:Shared}{elt target iter:Expr}{ifs:List Expr}{scope:Scope}{pos:Pos}{it acc:Value}{env:Env}(J:Nat->Shared->Prop)
  (turn:∀n s,J n s->wpAny (model prog w) A (pyNext it) (λr s1=>match r with
   | none=>R (.ok .next) s1
   | some v=>wpAny (model prog w) A (ZCW target it v) (λ_ s2=>wpAny (model prog w) A (assign target env v) (λ_ s3=>wpAny (model prog w) A (ZqW ifs env) (λok s4=>if ok=true then wpAny (model prog w) A (eval elt env) (λx s5=>wpAny (model prog w) A (call (.builtin "list.append") [acc,x]) (λ_ s6=>∃m,m<n/\J m s6) No s5) No s4 else ∃m,m<n/\J m s4) No s3) No s2) No s1) No s)
  (n:Nat) (h:J n s):codeAny (model prog w) A (.compLoop (.ListComp elt [⟨target,iter,ifs,0⟩] scope pos) 0 it acc env) R s:=by
 refine codeAny_loop rfl J (λn s hI=>?_) n h;show wpAny _ A ((compTurn (.ListComp elt [⟨target,iter,ifs,0⟩] scope pos) 0 it acc env).onRaise (λx=>do noteFrame x env; theTreesLotGoes x)) _ _ s;refine wpAny_noted ?_;rw[compTurn_list];refine Zzq (wpAny_standAt (Zzq (ZAK (turn n s hI) (λr s1 h1=>?_) λ_ _ z=>z.elim)));cases r with
 | none=>exact Zzv h1
 | some v =>
  refine Zzq (ZAK h1 (λ_ s2 h2=>Zzq (ZAK h2 (λ_ s3 h3=>Zzq (ZAK h3 (λok s4 h4=>?_) λ_ _ z=>z.elim)) λ_ _ z=>z.elim)) λ_ _ z=>z.elim);cases ok with
  | false=>exact Zzv ⟨rfl,h4⟩
  | true=>refine Zzq (Zzq (ZAK h4 (λx s5 h5=>?_) λ_ _ z=>z.elim));exact Zzq (ZAK h5 (λ_ s6 h6=>Zzv (Zzv ⟨rfl,h6⟩)) λ_ _ z=>z.elim)
def Z0(X:Cx)(N:List Str)(scope:Scope)(cl:List (Str × Addr))(C:Addr)(s₀:Shared)(H₀:Hp)(ex:List Addr):Cx where
 prog:=X.prog
 w:=X.w
 K:=X.K
 mg:=X.mg
 base:=X.base
 A:=X.A
 N:=N
 s₀:=s₀
 H₀:=H₀
 env:=compEnvC scope cl C X.env
 outer:=X.stack
 stack:=X.stack
 ex:=ex
 fn:=λ_=>false
 calm:=true
 pn:=[]
 xe:=λ_ _=>False
theorem Zit{env:Env}:∀(names:List (Str × NameKind)) (cs:List (Str × Addr)),(∀y∈names,y.2=.free->∃c,env.cells.lookup y.1=some c)->(∀x c,cs.lookup x=some c->env.cells.lookup x=some c) ->
  ∃cl,(forIn names cs λ(x:Str × NameKind) r=>(match x with | (name,kind)=>if kind==.free then do let c <-cellOf env name; pure (ZCZ ((name,c)::r))else pure (ZCZ r):Sem (ForInStep (List (Str × Addr)))))=pure cl /\
   (∀x c,cl.lookup x=some c->env.cells.lookup x=some c)/\(∀x,(cs.lookup x).isSome=true->(cl.lookup x).isSome=true)/\∀y∈names,y.2=.free->(cl.lookup y.1).isSome=true
 | [],cs,_,h2=>⟨cs,rfl,h2,λ_ h=>h,λy hy=>by simp at hy⟩
 | (n,k)::r,cs,h1,h2=>by
  rw[List.forIn_cons]
  by_cases hk:(k==ZBJ)=true
  ·obtain⟨c,hc⟩:=h1 (n,k) (Zzt ..) (by simpa using hk)
   have ec:cellOf env n=pure c:=by unfold cellOf; rw[hc]
   obtain⟨cl,e1,e2,e3,e4⟩:=Zit r ((n,c)::cs) (λy hy=>h1 y (Zzu _ hy)) (λx d hx=>by
    rw[ZBj]at hx;split at hx
    ·rename_i hb
     have:x=n:=by simpa using hb
     cases hx; rw[this]; exact hc
    ·exact h2 x d hx)
   refine⟨cl,?_,e2,λx hx=>e3 x ?_,λy hy hf=>?_⟩
   ·simp only[hk,if_true,ec,pure_bind]
    exact e1
   ·rw[ZBj]
    split
    ·rfl
    ·exact hx
   ·rcases ZzH.mp hy with e | hy
    ·subst e
     exact e3 n (by rw[ZBj]; simp)
    ·exact e4 y hy hf
  ·obtain⟨cl,e1,e2,e3,e4⟩:=Zit r cs (λy hy=>h1 y (Zzu _ hy)) h2
   refine⟨cl,?_,e2,e3,λy hy hf=>?_⟩
   ·simp only[hk,if_false,pure_bind,ZBn]
    exact e1
   ·rcases ZzH.mp hy with e | hy
    ·subst e
     exact absurd (by simpa using hf) hk
    ·exact e4 y hy hf
theorem ZfV{scope:Scope}{env:Env}(h:∀y∈scope.names,y.2=.free->∃c,env.cells.lookup y.1=some c) :
  ∃cl,closureFor scope env=pure cl/\(∀x c,cl.lookup x=some c->env.cells.lookup x=some c)/\∀y∈scope.names,y.2=.free->(cl.lookup y.1).isSome=true:=by
 obtain⟨cl,e1,e2,_,e4⟩:=Zit (env:=env) scope.names [] h (λx c hx=>by simp at hx);refine⟨cl,?_,e2,e4⟩;unfold closureFor;exact(congrArg (λm:Sem (List (Str × Addr))=>m >>= λcs=>pure cs) e1).trans (pure_bind cl λcs=>pure cs)
theorem Ext.chg{F H F' H':Hp}(x:Ext F H F' H'){p:Addr}(o:HO)(h1:H p=none)(h2:F' p=none)(h3:∀u,H' p=some u->Zl1 u=true):Ext F H F' (upd H' p o) :=
 ⟨x.ff,λb q z=>by
  have hb:b≠p:=ZaB z h1;have y:=x.hh b q z;unfold Zds at y ⊢;rw[ZD hb];exact y,λb q z=>by rw[ZD (ZaB z h2)]; exact x.sub b q z,x.new,λt=>(x.tab t).keep λa u z hu=>by
   have ha:a≠p:=λe=>by subst e; exact ZsY (h3 u z) hu
   rw[ZD ha]; exact z,x.nts⟩
theorem At.push{K:Zzp}{F0 H0 F H:Hp}{r:HM.Env}{σ:L2.St}{d:PyData}{v:V}(e:At K F0 H0 F H r σ)(q:Rep K F d v):At K F0 H0 F H (some (.pl d)::r) (some v::σ):=by
 obtain⟨fp,e⟩:=e;refine⟨λi=>match i with | 0=>[] | i+1=>fp i,e.ext,by rw[ZzG,ZzG,e.len],λi b h=>?_,λi h=>?_,λi a h=>?_,λi=>?_,λi j a hij h=>?_,e.tb,e.nt⟩
 ·cases i with
  | zero=>rw[ZBV]at h;cases h;exact⟨v,rfl,.pl q⟩
  | succ i=>rw[ZAa]at h;obtain⟨u,h1,h2⟩:=e.at_ i b h;exact⟨u,by rw[ZAa]; exact h1,h2⟩
 ·cases i with
  | zero=>rfl
  | succ i=>exact e.emp i λb z=>h b (by rw[ZAa]; exact z)
 ·cases i with
  | zero=>simp at h
  | succ i=>exact e.own i a h
 ·cases i with
  | zero=>exact ZA9
  | succ i=>exact e.nd i
 ·cases i with
  | zero=>simp at h
  | succ i =>
   cases j with
   | zero=>simp
   | succ j=>exact e.dis i j a (by omega) h
theorem At.chgNew{K:Zzp}{F0 H0 F H:Hp}{r:HM.Env}{σ:L2.St}{p:Addr}(o:HO){Hs Fs:Hp}(e:At K F0 H0 F H r σ)(es:At K F0 H0 Fs Hs r σ)(hs:ZaG Hs H)(h1:Hs p=none)(h2:F p=none)(h3:∀u,H p=some u->Zl1 u=true):At K F0 H0 F (upd H p o) r σ:=by
 obtain⟨fp,e⟩:=e;obtain⟨fq,es⟩:=es;have hp:∀i,¬p∈fp i:=λi hm=>by
  obtain⟨b,hb⟩:=e.bound hm;obtain⟨v,q1,q2⟩:=e.at_ i b hb;obtain⟨v',q3,q4⟩:=es.at_ i b hb;rw[q1]at q3;cases q3;generalize fp i=f1 at q2 hm;generalize fq i=f2 at q4;cases q2 with
  | pl _=>simp at hm
  | hd _ _ _ _=>simp at hm
  | hf _=>simp at hm
  | ol k _=>cases q4 with | ol k' _=>simp at hm; subst hm; rw[h1]at k'; cases k'
  | ok k _ _=>cases q4 with | ok k' _ _=>simp at hm; subst hm; rw[h1]at k'; cases k'
  | ot k _ _=>cases q4 with | ot k' _ _=>simp at hm; subst hm; rw[h1]at k'; cases k'
  | otl k _ v1 _ =>
   cases q4 with
   | otl k' hk' v2 r2' =>
    have eo:=hs.back k' k λ_ z=>by cases z
    cases eo;have v2':=v2;rw[v1]at v2;rcases ZzH.mp hm with z2 | z2
    ·subst z2; rw[h1]at k'; cases k'
    ·have:V.ref p∈ZDb V.ref _:=Zzx.mpr ⟨p,z2,rfl⟩
     rw[v2]at this;obtain⟨a',m1,m2⟩:=Zzx.mp this;injection m2 with m2
     subst m2;obtain⟨o,ho⟩:=Zai.there (Zai.otl k' hk' v2' r2') (Zzu _ m1);rw[h1]at ho; cases ho
 have hH0:H0 p=none:=es.ext.hh.free h1;refine⟨fp,e.ext.chg o hH0 h2 h3,e.len,λi b h=>?_,e.emp,e.own,e.nd,e.dis,e.tb,e.nt⟩;obtain⟨v,q1,q2⟩:=e.at_ i b h;refine⟨v,q1,q2.mono (Zs.refl F) λa ha o' z=>?_⟩;have hne:a≠p:=λe=>hp i (by rw[<-e]; exact ha);exact .of (by rw[ZD hne]; exact z)
end HP
namespace HP
open PySem PySem.Spec PyProof.Rows L2
variable[FX]
structure ZdX(X:Cx)(N:List Str)(scope:Scope)(fr:List Str):Prop where
 kind:scope.kind=.function
 cell:∀y∈scope.names,y.2≠.cell
 names:∀y∈scope.names,y.2=.local->scope.names.lookup y.1=some .local
 loc:∀x∈fr,scope.names.lookup x=some .local
 first:∀(i:Nat) (x:Str),fr[i]?=some x->N[i]?=some x
 nd:N.Nodup
 len:N.length=X.N.length+fr.length
 cap:∀y∈scope.names,y.2=.free->X.env.kindOf y.1=some .cell\/X.env.kindOf y.1=some .free
 same:∀(i:Nat) (y:Str),N[i+fr.length]?=some y->scope.names.lookup y=some .free->X.N[i]?=some y
 vis:∀(i:Nat) (y:Str),N[i+fr.length]?=some y->Vis scope y->scope.names.lookup y=some .free
def goG(dec:PyData->Option (List PyData))(c:HM.TF)(e:HM.EF)(r:HM.Env):List PyData->Option (List PyData)
 | []=>some []
 | x::xs=>match dec x with
  | some ys=>match c (ys.map (λd=>some (HM.B.pl d))++r)with
   | some true=>match e (ys.map (λd=>some (HM.B.pl d))++r)with
    | some y=>(goG dec c e r xs).map (y::·)
    | none=>none
   | some false=>goG dec c e r xs
   | none=>none
  | none=>none
def ZfM(dec:PyData->Option (List PyData))(i:HM.IF)(c:HM.TF)(e:HM.EF):HM.BF:=λr=>match i r with
 | some xs=>if xs.length<HM.big then(goG dec c e r xs).map λys=>HM.B.ol ys else none
 | none=>none
def ZjM(Y:Cx)(m:Nat)(tg:Expr)(dec:PyData->Option (List PyData)):Prop:=∀(pins:List (Addr × Obj)) (s:Shared) (σ:L2.St) (sv:List (Option V)) (H F:Hp) (d:PyData) (ys:List PyData) (xv:V) (u:Value),sv.length=m->Inv Y pins (sv++σ) H s->RelV xv u->Zs F H->Rep Y.K F d xv->dec d=some ys ->
 wpAny (model Y.prog Y.w) Y.A (assign tg Y.env u) (λ_ s'=>∃vs:List V,vs.length=m/\Inv Y pins (vs.map some++σ) H s'/\Zy Y.K F ys vs) Y.xe s
theorem At.pushes{K:Zzp}{F0 H0 F H:Hp}{r:HM.Env}{σ:L2.St}:∀{ds:List PyData} {vs:List V},At K F0 H0 F H r σ->Zy K F ds vs->At K F0 H0 F H (ds.map (λd=>some (HM.B.pl d))++r) (vs.map some++σ)
 | [],vs,e,q=>by rw[q.nil_inv];exact e
 | d::ds,vs,e,q=>by obtain⟨v,us,rfl,r1,r2⟩:=q.cons_inv;exact(At.pushes e r2).push r1
section
variable{X:Cx}{N:List Str}{scope:Scope}{fr:List Str}{cl:List (Str × Addr)}{C:Addr}
theorem ZbH{env:Env}{y:Str}{k:NameKind}:∀{names:List (Str × NameKind)},(names.map λ(n,k)=>if(k==ZBJ&&env.scope.kind==.function&&env.kindOf n==some .cell)then(n,NameKind.cell)else(n,k)).lookup y=some k ->
  names.lookup y=some k\/(k=.cell/\names.lookup y=some .free)
 | [],h=>by simp at h
 | (n,k')::r,h=>by
  have ih:=@ZbH env y k r;rw[Zzw]at h;dsimp only at h
  by_cases hc:(k'==ZBJ&&env.scope.kind==.function&&env.kindOf n==some .cell)=true
  ·rw[if_pos hc,ZBj]at h
   rw[ZBj];split at h
   ·cases h
    refine .inr ⟨rfl,?_⟩;have:(k'==ZBJ)=true:=by rw[ZzK,ZzK]at hc;exact hc.1.1
    rw[show k'=ZBJ by simpa using this]
   ·exact ih h
  ·rw[if_neg hc,ZBj]at h
   rw[ZBj];split at h
   ·cases h
    exact .inl rfl
   ·exact ih h
theorem lookup_mem{y:Str}{k:NameKind}:∀{names:List (Str × NameKind)},names.lookup y=some k->(y,k)∈names
 | [],h=>by simp at h
 | (n,k')::r,h=>by
  rw[ZBj]at h;split at h
  ·cases h
   rename_i hb;rw[show y=n by simpa using hb];exact Zzt ..
  ·exact Zzu _ (lookup_mem h)
theorem Zvx{pins:List (Addr × Obj)}{σ:L2.St}{H:Hp}{s:Shared}{fp:List Addr}(T:ZdX X N scope fr)(hcl:∀y c,cl.lookup y=some c->X.env.cells.lookup y=some c)(hfr:∀y∈scope.names,y.2=.free->(cl.lookup y.1).isSome=true)
  (I:Inv X pins σ H s) (hc:X.calm=true) (hf:∀b∈fp,ZgL X pins H b) (hfl:∀b∈fp,b<s.heap.objs.size) (hC:s.heap.objs.size<=C):(Z0 X N scope cl C s H fp).Ok:=by
 refine⟨I.ok.mod,T.kind,I.ok.glob,I.ok.blt,hC,λy z c h1 h2=>I.ok.inj y z c (hcl y c h1) (hcl z c h2),λy h=>?_,λy c h=>?_,λ_=>I.ok.hd hc,I.ok.frames,.inl rfl,λb hb=>⟨?_,λy c h=>?_⟩,λb o h=>I.bs b o h,
  ZAd I.ok.bsz I.sz,λb o h hb=>?_,λb hb hs=>?_,I.stack,I.stkFree⟩
 ·have h':(relabel scope X.env).names.lookup y=some .cell\/(relabel scope X.env).names.lookup y=some .free:=h
  have hm:(y,ZBJ)∈scope.names:=by
   rcases h' with h' | h'
   ·rcases ZbH h' with q | ⟨_,q⟩
    ·exact absurd rfl (T.cell _ (lookup_mem q))
    ·exact lookup_mem q
   ·rcases ZbH h' with q | ⟨e,_⟩
    ·exact lookup_mem q
    ·cases e
  exact ZzZ.mp (hfr _ hm rfl)
 ·exact absurd h (by show ¬false=true; simp)
 ·exact ZzQ (ZzW (hfl b hb) hC)
 ·obtain⟨_,_,_,_,q,_⟩:=hf b hb
  exact q y c (hcl y c h)
 ·obtain⟨_,_,_,q,_⟩:=hf b hb
  rcases q with q | q
  ·exact I.ok.noex b o h q
  ·exact absurd (ZzW (ZzJ h) (ZAd I.ok.bsz q)) (ZBh _)
 ·obtain⟨_,q1,q2,_⟩:=hf b hb
  rcases ZzH.mp (I.stkSub b hs)with z | z
  ·exact q1 z
  ·exact q2 z
theorem Zou{pins:List (Addr × Obj)}{σ:L2.St}{H:Hp}{s:Shared}{fp:List Addr}{D:Addr}{h1:Heap}{tk:Nat}(T:ZdX X N scope fr)(hcl:∀y c,cl.lookup y=some c->X.env.cells.lookup y=some c)(hfr:∀y∈scope.names,y.2=.free->(cl.lookup y.1).isSome=true)
  (I:Inv X pins σ H s) (hc:X.calm=true) (hf:∀b∈fp,ZgL X pins H b) (hfl:∀b∈fp,b<s.heap.objs.size) (hD:s.heap.objs.size=D) (hC:D<C) (ns:h1.Ns C (λ_=>none)) (hl:h1.get? D=some { cls:=.type "list",data:=.seq #[] 0 })
  (k:∀b o,s.heap.get? b=some o->h1.get? b=some o):Inv (Z0 X N scope cl C s H fp) [] (Zz3 fr.length none++σ) (upd H D (.lst [])) { s with heap:=h1,toks:=tk }:=by
 have hn:H D=none:=I.hok.fresh (ZC0 hD);have hDC:s.heap.objs.size<=C:=ZAd (ZC0 hD) (ZBp hC);have hCn:H C=none:=I.hok.fresh hDC;refine⟨Zvx T hcl hfr I hc hf hfl hDC,rfl,I.bare,Un.laid k (ZC0 hD) hn,⟨_,ns,λi y v e1 e2 e3=>?_⟩,λy c h=>?_,?_,λy c h=>?_,λp hp=>absurd (show p∈([]:List (Addr × Obj)) from hp) (by simp),I.hok.laid k (ZC0 hD) ⟨ZAP _,[],0,.nil,hl⟩,?_⟩
 ·have hge:fr.length<=i:=by
   apply ZB9;intro hlt;rw[Zz4 (by rw[ZAj]; exact hlt),ZBU,if_pos hlt]at e2;cases e2
  rw[ZAf (by rw[ZAj]; exact hge),ZAj]at e2;obtain⟨j,rfl⟩:∃j,i=j+fr.length:=⟨i-fr.length,by omega⟩;rw[Nat.add_sub_cancel]at e2
  ·have e3':Vis scope y:=by
    have e3:Vis (relabel scope X.env) y:=e3;rcases e3 with q | q | q
    ·rcases ZbH q with q | ⟨z,_⟩
     ·exact .inl q
     ·cases z
    ·rcases ZbH q with q | ⟨_,q⟩
     ·exact .inr (.inl q)
     ·exact .inr (.inr q)
    ·rcases ZbH q with q | ⟨z,_⟩
     ·exact .inr (.inr q)
     ·cases z
   have hfree:=T.vis j y e1 e3';have hm:=lookup_mem hfree;have hN:=T.same j y e1 hfree;have hcap:=T.cap _ hm rfl;obtain⟨m,_,hl⟩:=I.loc;obtain⟨u,ru,lu⟩:=hl j y v hN e2 (by
    rcases hcap with q | q
    ·exact .inr (.inl q)
    ·exact .inr (.inr q))
   refine⟨u,ru,?_⟩;obtain⟨c,hcc⟩:=ZzZ.mp (hfr _ hm rfl);rcases lu with⟨q,_⟩ | ⟨_,c',e,z⟩
   ·rcases hcap with q' | q'<;>(rw[q']at q; cases q)
   ·refine .inr ⟨?_,c,hcc,?_⟩
    ·rcases e3 with q | q | q
     ·have q:(relabel scope X.env).names.lookup y=some .local:=q
      rcases ZbH q with q | ⟨z,_⟩
      ·rw[hfree]at q; cases q
      ·cases z
     ·exact .inl q
     ·exact .inr q
    ·rw[hcl y c hcc]at e
     cases e;obtain⟨o,ho,hd⟩:=z;exact⟨o,k _ _ ho,hd⟩
 ·obtain⟨v,o,ho,hd⟩:=I.cell y c (hcl y c h)
  exact⟨v,o,k _ _ ho,hd⟩
 ·show upd H D (.lst []) C=none
  rw[ZD (ZCj hC)];exact hCn
 ·have hq:=I.freeC y c (hcl y c h)
  obtain⟨v,o,ho,_⟩:=I.cell y c (hcl y c h);have:c≠D:=ZzQ (by rw[<-hD]; exact ZzJ ho);rw[ZD this];exact hq
 ·show(Zz3 fr.length none++σ).length=N.length
  rw[ZzL,ZAj,I.len,T.len,Nat.add_comm]
def XTs(Y:Cx)(ifs:List Expr)(f:HM.TF):Prop:=∀r c,f r=some c->∀(pins:List (Addr × Obj)) (s:Shared) (σ:L2.St) (H:Hp) (Q:Bool->Hp->Prop),Inv Y pins σ H s->(Now Y.K r σ H λF0 H0 F=>∀F' H',Ext F H F' H'->Q c H') ->
 wpAny (model Y.prog Y.w) Y.A (ZqW ifs Y.env) (TP Y pins σ Q) Y.xe s
theorem Za2{Y:Cx}:XTs Y [] HM.ZZ:=by intro r c h pins s σ H Q I ⟨F0,H0,F,at_,k⟩;cases h;exact wpAny_tests_nil ⟨H,I,k F H at_.refl⟩
theorem ZcM{Y:Cx}{e:Expr}{f:HM.TF}(h:XT Y e f):XTs Y [e] f:=λr c hc pins s σ H Q I q=>wpAny_tests_one (h r c hc pins s σ H Q I q)
def ItE(K:Zzp)(J:It)(ds:List PyData)(F:Hp):Prop:=∀F' H,Zs F F'->Zs F' H ->
 (∀(i:Nat) (d:PyData),ds[i]?=some d->J.go i H/\∀x H',J.yld i H x H'->∃F2,Ext (Zcl F' H) H F2 H'/\Rep K F2 d x)/\J.stop ds.length H
theorem ItD.e{K:Zzp}{J:It}{ds:List PyData}{F:Hp}(h:ItD K J ds F):ItE K J ds F:=λF' H s1 s2=>by obtain⟨a,b⟩:=h F' H s1 s2;refine⟨λi d hd=>⟨(a i d hd).1,λx H' hy=>?_⟩,b⟩;obtain⟨e,r⟩:=(a i d hd).2 x H' hy;subst e;exact⟨_,.refl (Ext.refl s2).tups.sub,r⟩
def XIE(X:Cx)(tg e:Expr)(f:HM.IF):Prop:=∀r ds,f r=some ds->PI X tg e λσ H R=>Now X.K r σ H λF0 H0 F=>∀J F' H',Ext F H F' H'->ItE X.K J ds F'->R J H'
theorem XI.e{X:Cx}{tg e:Expr}{f:HM.IF}(h:XI X tg e f):XIE X tg e f:=λr ds hr pins s σ H R I ⟨F0,H0,F,at_,k⟩=>h r ds hr pins s σ H R I ⟨F0,H0,F,at_,λJ F' H' x q=>k J F' H' x q.e⟩
theorem Zpd{pins:List (Addr × Obj)}{σ:L2.St}{H1:Hp}{s2:Shared}{fp:List Addr}{it D:Addr}{tn:Nat->Heap->Prop}{J:It}{elt iter:Expr}{ifs:List Expr}{tg:Expr}{pos:Pos}{dec:PyData->Option (List PyData)}{fc:HM.TF}{fe:HM.EF}{s4:Shared}{r:HM.Env}{ds out:List PyData}{Fs Hs F0 H0 F1:Hp}
  {R:Result->Shared->Prop} (T:ZdX X N scope fr) (I2:Inv X pins σ H1 s2) (W:Turn X.prog X.w X.K tg J fp it tn) (hf:∀b∈fp,ZgL X pins H1 b)
  (I4:Inv (Z0 X N scope cl C s2 H1 fp) [] (Zz3 fr.length none++σ) (upd H1 D (.lst [])) s4) (tn0:tn 0 s4.heap) (hD:s2.heap.objs.size<=D) (hfl:∀b∈fp,b<s2.heap.objs.size) (hbl:X.calm=true)
  (hc:XTs (Z0 X N scope cl C s2 H1 fp) ifs fc) (he:XE (Z0 X N scope cl C s2 H1 fp) elt fe) (at_:At X.K F0 H0 Fs Hs r σ) (x1:Ext Fs Hs F1 H1) (itd:ItE X.K J ds F1) (hbind:ZjM (Z0 X N scope cl C s2 H1 fp) fr.length tg dec) (hbig:ds.length<HM.big) (go:goG dec fc fe r ds=some out)
  (hR:∀s',(∃F H vs,Inv (Z0 X N scope cl C s2 H1 fp) [] (Zz3 fr.length none++σ) H s'/\Ext Fs Hs F H/\H D=some (.lst vs)/\F D=none/\Zy X.K F out vs)->R (.ok .next) s') :
  codeAny (model X.prog X.w) X.A (.compLoop (.ListComp elt [⟨tg,iter,ifs,0⟩] scope pos) 0 (.ref it) (.ref D) (compEnvC scope cl C X.env)) R s4:=by
 have hH1D:H1 D=none:=I2.hok.fresh hD;have hHsD:Hs D=none:=x1.hh.free hH1D;have hF1D:F1 D=none:=x1.sub.free hH1D;have hfpD:∀b∈fp,b≠D:=λb hb=>ZzQ (ZzW (hfl b hb) hD);have okY:=I4.ok;have stat:∀{H:Hp},(∀b∈fp,H b=none)->∀b∈fp,ZgL (Z0 X N scope cl C s2 H1 fp) [] H b:=λhn b hb=>⟨hn b hb,(okY.exf b hb).1,okY.exfs b hb,.inl hb,(okY.exf b hb).2,λp hp=>absurd (show p∈([]:List (Addr × Obj)) from hp) (by simp)⟩;refine Zs2 (λn s'=>∃(j:Nat) (sv:List (Option V)) (F H:Hp) (ys:List PyData) (vs:List V) (rest:List PyData),sv.length=fr.length/\Inv (Z0 X N scope cl C s2 H1 fp) [] (sv++σ) H s'/\tn j s'.heap/\(∀b∈fp,H b=none)/\Ext Fs Hs F H/\Zs F1 F/\At X.K F0 H0 F H r σ /\
  H D=some (.lst vs)/\F D=none/\Zy X.K F ys vs/\j+n=ds.length/\ys.length<=j/\goG dec fc fe r (ds.drop j)=some rest/\out=ys++rest) ?_ ds.length
  ⟨0,Zz3 fr.length none,F1,_,[],[],out,ZAj,I4,tn0,λb hb=>by rw[ZD (hfpD b hb)]; exact(hf b hb).1,x1.lay' hH1D,Zs.refl _,(at_.grow x1).grow ((at_.grow x1).refl.lay' hH1D),ZH,hF1D,.nil,by omega,ZzB _,go,rfl⟩
 rintro n s5 ⟨j,sv,F,H,ys,vs,rest,hsv,I5,tn5,hfp5,x5,sF,at5,hHD,hFD,rys,hjn,hyl,hgo,hout⟩
 obtain⟨it1,it2⟩:=itd F H sF at5.sub;cases n with
 | zero =>
  have ej:j=ds.length:=by omega
  subst ej;rw[List.drop_length]at hgo;cases hgo;rw[Zz8]at hout;subst hout;refine thn (W.done (Z0 X N scope cl C s2 H1 fp) rfl rfl rfl rfl _ [] s5 _ H No I5 (stat hfp5) tn5 it2) λrv s6 ⟨e,I6⟩=>?_;subst e;refine hR s6 ⟨F,H,vs,I6.weak (by rw[ZzL,ZzL,ZAj,hsv]) λi v hv=>?_,x5,hHD,hFD,rys⟩
  by_cases hi:i<fr.length
  ·rw[Zz4 (by rw[ZAj]; exact hi),ZBU,if_pos hi]at hv
   cases hv
  ·rw[ZAf (by rw[ZAj]; omega),ZAj]at hv
   rw[ZAf (by omega),hsv];exact hv
 | succ n =>
  have hlt:j<ds.length:=by omega
  obtain⟨jg,jy⟩:=it1 j ds[j] (ZzD hlt);obtain⟨F2,x5,sF,at5,hFD,rys,jy⟩:∃F2,Ext Fs Hs F2 H/\Zs F1 F2/\At X.K F0 H0 F2 H r σ/\F2 D=none/\Zy X.K F2 ys vs/\∀x H',J.yld j H x H'->∃F3,Ext F2 H F3 H'/\Rep X.K F3 ds[j] x :=
   ⟨Zcl F H,x5.tups,sF.trans (ZdZ at5.sub),at5.grow at5.refl.tups,by unfold Zcl; rw[hHD]; exact hFD,rys.mono (ZdZ at5.sub),jy⟩
  clear it1 it2
  rw[ZDB hlt]at hgo;refine thn (W.item (Z0 X N scope cl C s2 H1 fp) rfl rfl rfl rfl j [] s5 _ H No I5 (stat hfp5) tn5 jg) λrv s6 ⟨u,e,h6⟩=>?_;subst e;refine thn h6 λ_ s7 ⟨xv,H7,I7,r7,y7,tn7,fr7⟩=>?_;obtain⟨F7,x7,rx⟩:=jy xv H7 y7;obtain⟨F2,x5,sF,at5,hHD,hFD,rys,rx⟩:∃F2,Ext Fs Hs F2 H7/\Zs F1 F2/\At X.K F0 H0 F2 H7 r σ/\H7 D=some (.lst vs)/\F2 D=none/\Zy X.K F2 ys vs/\Rep X.K F2 ds[j] xv:=by
   refine⟨F7,x5.trans x7,sF.trans x7.ff,at5.grow x7,x7.hh _ _ hHD,?_,rys.mono x7.ff,rx⟩;cases q:F7 D with
   | none=>rfl
   | some o =>
    rcases x7.new D o q with z | z
    ·rw[hFD]at z; cases z
    ·exact(z.no hHD λ_ q=>by cases q).elim
  have I7':=I7.pinned (stat fr7) (W.obj _ _ tn7);unfold goG at hgo;split at hgo
  case h_2=>cases hgo
  rename_i zs hzs;have dok:=hbind _ s7 σ sv H7 F2 ds[j] zs xv u hsv I7' r7 at5.sub rx hzs;refine thn dok λ_ s8 ⟨ws,hws,I8,rws⟩=>?_;have atp:=at5.pushes rws;have again:∀{s9:Shared} {F9 H9:Hp} {zs9:List PyData} {ws9:List V} {rest':List PyData},Inv (Z0 X N scope cl C s2 H1 fp) ([]++ZjH fp s7.heap) (ws.map some++σ) H9 s9->Ext Fs Hs F9 H9->Zs F2 F9->At X.K F0 H0 F9 H9 r σ->H9 D=some (.lst ws9)->F9 D=none->Zy X.K F9 zs9 ws9->zs9.length<=j+1->goG dec fc fe r (ds.drop (j+1))=some rest'->out=zs9++rest' ->
    ∃m,m<n+1/\∃(j:Nat) (sv:List (Option V)) (F2 H:Hp) (ys:List PyData) (vs:List V) (rest:List PyData),sv.length=fr.length/\Inv (Z0 X N scope cl C s2 H1 fp) [] (sv++σ) H s9/\tn j s9.heap/\(∀b∈fp,H b=none)/\Ext Fs Hs F2 H/\Zs F1 F2/\At X.K F0 H0 F2 H r σ /\
     H D=some (.lst vs)/\F2 D=none/\Zy X.K F2 ys vs/\j+m=ds.length/\ys.length<=j/\goG dec fc fe r (ds.drop j)=some rest/\out=ys++rest:=by
   intro s9 F9 H9 zs9 ws9 rest' I9 x9 s9F a9 h9 f9 r9 l9 g9 o9;refine⟨n,ZBQ n,j+1,ws.map some,F9,H9,zs9,ws9,rest',by rw[Zzr]; exact hws,I9.unpinned,W.keep _ _ _ tn7 λb hb o e=>(I9.pin (b,o) (ZzT _ (ZzT _ (Zgd hb e)))).1,λb hb=>?_,x9,sF.trans s9F,a9,h9,f9,r9,by omega,l9,g9,o9⟩;obtain⟨o,e,d⟩:=W.obj _ _ tn7 b hb;exact(I9.pin (b,o) (ZzT _ (ZzT _ (Zgd hb e)))).2.1
  have noD:∀{F' H':Hp},Ext F2 H7 F' H'->F' D=none:=λ{F' H'} y=>by
   cases q:F' D with
   | none=>rfl
   | some o =>
    rcases y.new D o q with z | z
    ·rw[hFD]at z; cases z
    ·exact(z.no hHD λ_ q=>by cases q).elim
  split at hgo
  ·rename_i hcv
   split at hgo
   ·rename_i y hy
    obtain⟨rest',g1,g2⟩:=Zzs.mp hgo;subst g2;refine thn (hc _ _ hcv _ s8 _ H7 (λc' H'=>c'=true/\∃F',Ext F2 H7 F' H') I8 ⟨F0,H0,F2,atp,λF' H' y=>⟨rfl,F',y⟩⟩) λok s9 ⟨H9,I9,eok,F9,x9⟩=>?_;subst eok;rw[if_pos rfl];refine thn (he _ _ hy _ s9 _ H9 (λv' H'=>∃F',Ext F9 H9 F' H'/\Rep X.K F' y v') I9 ⟨F0,H0,F9,atp.grow x9,λv' F' H' x q=>⟨F',x,q⟩⟩) λu' s10 ⟨v',H10,I10,r10,F10,x10,q10⟩=>?_;have x910:=x9.trans x10;have hHD':H10 D=some (.lst vs):=x910.hh _ _ hHD;have hFD':=noD x910;refine thn (Zg5 (X:=Z0 X N scope cl C s2 H1 fp) _ s10 _ H10 (.ref D) [v'] (.ref D) [u'] (λ_ H'=>H'=upd H10 D (.lst (vs++[v']))) I10 rfl (.cons r10 .nil) ⟨D,vs,v',rfl,rfl,hHD',?_,rfl⟩) λ_ s11 ⟨_,H11,I11,_,e11⟩=>?_
    ·have:=rys.1
     exact Zfr (by omega)
    subst e11;refine again (zs9:=ys++[y]) I11 ((x5.trans x910).chg _ hHsD hFD' λu z=>by rw[hHD']at z; cases z; rfl) x910.ff ((at5.grow x910).chgNew _ at_ (x5.trans x910).hh hHsD hFD' λu z=>by rw[hHD']at z; cases z; rfl) ZH hFD' ((rys.mono x910.ff).append (.one q10)) (by rw[ZzL]; show ys.length+1<=j+1; omega) g1 (by rw[hout,ZAM]; rfl)
   ·cases hgo
  ·rename_i hcv
   refine thn (hc _ _ hcv _ s8 _ H7 (λc' H'=>c'=false/\∃F',Ext F2 H7 F' H') I8 ⟨F0,H0,F2,atp,λF' H' y=>⟨rfl,F',y⟩⟩) λok s9 ⟨H9,I9,eok,F9,x9⟩=>?_;subst eok;rw[if_neg (by simp)];exact again (zs9:=ys) I9 (x5.trans x9) x9.ff (at5.grow x9) (x9.hh _ _ hHD) (noD x9) (rys.mono x9.ff) (by omega) hgo hout
  ·cases hgo
theorem Zos{pins:List (Addr × Obj)}{σ:L2.St}{H1 H:Hp}{s2 s':Shared}{fp:List Addr}{sv:List (Option V)}{h':Heap}(I2:Inv X pins σ H1 s2)(hf:∀b∈fp,ZgL X pins H1 b)(hC:s2.heap.objs.size<=C)
  (I:Inv (Z0 X N scope cl C s2 H1 fp) [] (sv++σ) H s') (hs:ZBq C s'.heap h'):Inv X pins σ H { s' with heap:=h' }:=by
 have u:Un (frs X.stack) fp H1 H s2.heap s'.heap:=I.base;have hCn:H C=none:=I.free;have ne:∀b o,s2.heap.get? b=some o->b≠C:=λb o e=>ZzQ (ZzW (ZzJ e) hC);refine I2.call' (s':={ s' with heap:=h' }) (ch:=fp) I.os ⟨λb o e n hb hx=>(hs.2 b (ne b o e)).trans (u.keep b o e n hb hx),λb o e n hb hx=>?_,u.free,λb o e hx=>?_,u.tups,u.frzs,u.tbls⟩ (λb o e=>?_) I.bare λb hb=>?_
 ·obtain⟨sl,q⟩:=u.slot b o e n hb hx
  exact⟨sl,(hs.2 b (ne b o e)).trans q⟩
 ·obtain⟨o',q⟩:=u.there b o e hx
  exact⟨o',(hs.2 b (ne b o e)).trans q⟩
 ·refine(I.hok b o e).stay (λc w' hc q=>(hs.2 c ?_).trans q) (λ_ q=>q) λ_ _ q=>q
  rintro rfl
  rcases hc with rfl | hc
  ·rw[hCn]at e; cases e
  ·rw[hCn]at hc; cases hc
 ·obtain⟨q0,q1,q2,q3,q4,q5⟩:=hf b hb
  exact⟨q3,q1,q4,q5⟩
variable{elt iter:Expr}{ifs:List Expr}{tg:Expr}{pos:Pos}{fi:HM.IF}{dec:PyData->Option (List PyData)}{fc:HM.TF}{fe:HM.EF}
theorem Zo9{pins:List (Addr × Obj)}{σ:L2.St}{H:Hp}{s:Shared}(T:ZdX X N scope fr)(I:Inv X pins σ H s):∀y∈scope.names,y.2=.free->∃c,X.env.cells.lookup y.1=some c:=λy hy e=>I.ok.has y.1 (T.cap y hy e)
theorem Znx(hxe:X.xe=λ_ _=>False)(hcalm:X.calm=true)(T:ZdX X N scope fr)(hbind:∀cl C s H ex,ZjM (Z0 X N scope cl C s H ex) fr.length tg dec)(hi:XIE X tg iter fi)(hc:∀cl C s H ex,XTs (Z0 X N scope cl C s H ex) ifs fc)(he:∀cl C s H ex,XE (Z0 X N scope cl C s H ex) elt fe)
  (hs:∀x,ZBb iter X.env x=pure x:=by intro _; rfl):XF X (.ListComp elt [⟨tg,iter,ifs,0⟩] scope pos) (ZfM dec fi fc fe):=by
 intro r b h;unfold ZfM at h;split at h
 ·rename_i ds hds
  split at h
  ·rename_i hbig
   obtain⟨out,hgo,e⟩:=Zzs.mp h;subst e;intro pins s σ H Q I ⟨F0,H0,F,at_,k⟩;obtain⟨cl,hclos,hcl,hfr⟩:=ZfV (Zo9 T I);rw[eval_ListComp];refine wpAny_comprehension_free (use:=none) rfl hs hclos T.kind T.names (thn (hi r ds hds pins s σ H (λJ H'=>∃F',Ext F H F' H'/\ItE X.K J ds F') I ⟨F0,H0,F,at_,λJ F' H' x q=>⟨F',x,q⟩⟩) λv s1 h1=>thn h1 λitv s2 h2=>?_);obtain⟨it,fp,tn,J,H1,rfl,I2,W,st2,f2,F1,x1,itd⟩:=h2;have hfl:∀b∈fp,b<s2.heap.objs.size:=λb hb=>let ⟨o,ho,_⟩:=W.obj 0 _ st2 b hb; ZzJ ho
   refine ZAw (ZC1 T.cell (by intro y hy; simp at hy) (λh1 hns hsb=>?_) T.kind);dsimp only at hns hsb ⊢;generalize hP:s2.heap.push { cls:=.type "list",dict:=none,data:=.seq ([]:List Value).toArray }=h0 at hns hsb ⊢;have hsz:h0.objs.size=s2.heap.objs.size+1:=by rw[<-hP,ZB5]
   have hDC:s2.heap.objs.size<h0.objs.size:=by rw[hsz]; exact ZBQ _
   have old:∀b o,s2.heap.get? b=some o->h1.get? b=some o:=λb o e=>hsb.extBut b o (ZzQ (ZBt (ZzJ e) hDC)) (Zzy _ (by rw[<-hP]; exact Zzy _ e));have hl:h1.get? s2.heap.objs.size=some { cls:=.type "list",data:=.seq #[] 0 }:=hsb.extBut _ _ (ZzQ hDC) (Zzy _ (by rw[<-hP]; exact ZzM _ rfl));have I4:Inv (Z0 X N scope cl h0.objs.size s2 H1 fp) [] (Zz3 fr.length none++σ) (upd H1 s2.heap.objs.size (.lst [])) { s2 with heap:=h1,toks:=s2.toks+([]:List (Str × Value)).length }:=Zou T hcl hfr I2 hcalm f2 hfl rfl hDC hns hl old;have tn1:tn 0 h1:=W.keep _ _ _ st2 λb _ o e=>old b o e;have hHsD:H s2.heap.objs.size=none:=x1.hh.free (I2.hok.fresh (ZzB _));have loop:codeAny (model X.prog X.w) X.A (.compLoop (.ListComp elt [⟨tg,iter,ifs,0⟩] scope pos) 0 (.ref it) (.ref s2.heap.objs.size) (compEnvC scope cl h0.objs.size X.env)) (compPost (model X.prog X.w) X.A X.xe none (EP X pins σ Q) (.ref s2.heap.objs.size) h0.objs.size)
     { s2 with heap:=h1,toks:=s2.toks+([]:List (Str × Value)).length }:=by
    refine Zpd T I2 W f2 I4 tn1 (ZzB _) hfl hcalm (hc _ _ _ _ _) (he _ _ _ _ _) at_ x1 itd (hbind _ _ _ _ _) hbig hgo λs' ⟨F',H',vs,I',x',hD',hFD',rs⟩=>?_;obtain⟨m,hn,_⟩:=id I'.loc;refine⟨m,hn,λh2 hs2=>⟨.ref s2.heap.objs.size,H',Zos I2 f2 (ZBp hDC) I' hs2,rfl,k _ F' H' x' ⟨[s2.heap.objs.size],.ol hD' rs,by simp,λa ha=>?_⟩⟩⟩;obtain rfl:a=s2.heap.objs.size:=by simpa using ha
    exact⟨hFD',hHsD⟩
   exact codeAny_compStart_list loop (W.self _ 0 _ _ _ tn1 loop)
  ·cases h
 ·cases h
theorem Zki(i:Nat){y:Str}{py spos:Pos}(hN:X.N.Nodup)(hxe:X.xe=λ_ _=>False)(hcalm:X.calm=true)(T:ZdX X N scope fr)(hbind:∀cl C s H ex,ZjM (Z0 X N scope cl C s H ex) fr.length tg dec)(hi:XIE X tg iter fi)(hc:∀cl C s H ex,XTs (Z0 X N scope cl C s H ex) ifs fc)(he:∀cl C s H ex,XE (Z0 X N scope cl C s H ex) elt fe)
  (hiy:X.N[i]?=some y:=by rfl) (hy:X.env.scope.names.lookup y=some .local:=by rfl) (hsw:ZBC (.ListComp elt [⟨tg,iter,ifs,0⟩] scope pos) (some (.Name y py)) spos.line X.env=pure true:=by rfl)
  (hs:∀x,ZBb iter X.env x=pure x:=by intro _; rfl):XS X (.Assign [.Name y py] (.ListComp elt [⟨tg,iter,ifs,0⟩] scope pos) spos) (HM.Z1 i (ZfM dec fi fc fe)):=by
 intro r o h;obtain⟨b,hb,e⟩:=Zzs.mp h;subst e;unfold ZfM at hb;split at hb
 ·rename_i ds hds
  split at hb
  ·rename_i hbig
   obtain⟨out,hgo,e⟩:=Zzs.mp hb;subst e;intro pins s σ H E I ⟨F0,H0,F,at_,k⟩;obtain⟨cl,hclos,hcl,hfr⟩:=ZfV (Zo9 T I);rw[exec_Assign_Name_used _ _ _ _ hsw];refine Zzq (wpAny_standAt (Zzq ?_));show wpAny _ X.A (do let _ <-comprehension (.ListComp elt [⟨tg,iter,ifs,0⟩] scope pos) scope X.env _ (newList []) false (eval iter X.env) (some (assign (.Name y py) X.env))) _ _ s;refine Zzq (ZAK (wpAny_comprehension_free (use:=some (assign (.Name y py) X.env)) (Q:=λ_ s'=>SP X pins E .next s') rfl hs hclos T.kind T.names (thn (hi r ds hds pins s σ H (λJ H'=>∃F',Ext F H F' H'/\ItE X.K J ds F') I ⟨F0,H0,F,at_,λJ F' H' x q=>⟨F',x,q⟩⟩) λv s1 h1=>thn h1 λitv s2 h2=>?_)) (λ_ s' hq=>Zzv (Zzv hq)) λ_ _ e=>e)
   obtain⟨it,fp,tn,J,H1,rfl,I2,W,st2,f2,F1,x1,itd⟩:=h2;have hfl:∀b∈fp,b<s2.heap.objs.size:=λb hb=>let ⟨o,ho,_⟩:=W.obj 0 _ st2 b hb; ZzJ ho
   refine ZAw (ZC1 T.cell (by intro y hy; simp at hy) (λh1 hns hsb=>?_) T.kind);dsimp only at hns hsb ⊢;generalize hP:s2.heap.push { cls:=.type "list",dict:=none,data:=.seq ([]:List Value).toArray }=h0 at hns hsb ⊢;have hsz:h0.objs.size=s2.heap.objs.size+1:=by rw[<-hP,ZB5]
   have hDC:s2.heap.objs.size<h0.objs.size:=by rw[hsz]; exact ZBQ _
   have old:∀b o,s2.heap.get? b=some o->h1.get? b=some o:=λb o e=>hsb.extBut b o (ZzQ (ZBt (ZzJ e) hDC)) (Zzy _ (by rw[<-hP]; exact Zzy _ e));have hl:h1.get? s2.heap.objs.size=some { cls:=.type "list",data:=.seq #[] 0 }:=hsb.extBut _ _ (ZzQ hDC) (Zzy _ (by rw[<-hP]; exact ZzM _ rfl));have I4:Inv (Z0 X N scope cl h0.objs.size s2 H1 fp) [] (Zz3 fr.length none++σ) (upd H1 s2.heap.objs.size (.lst [])) { s2 with heap:=h1,toks:=s2.toks+([]:List (Str × Value)).length }:=Zou T hcl hfr I2 hcalm f2 hfl rfl hDC hns hl old;have tn1:tn 0 h1:=W.keep _ _ _ st2 λb _ o e=>old b o e;have hHsD:H s2.heap.objs.size=none:=x1.hh.free (I2.hok.fresh (ZzB _));have loop:codeAny (model X.prog X.w) X.A (.compLoop (.ListComp elt [⟨tg,iter,ifs,0⟩] scope pos) 0 (.ref it) (.ref s2.heap.objs.size) (compEnvC scope cl h0.objs.size X.env)) (compPost (model X.prog X.w) X.A X.xe (some (assign (.Name y py) X.env)) (λ_ s'=>SP X pins E .next s') (.ref s2.heap.objs.size) h0.objs.size)
     { s2 with heap:=h1,toks:=s2.toks+([]:List (Str × Value)).length }:=by
    refine Zpd T I2 W f2 I4 tn1 (ZzB _) hfl hcalm (hc _ _ _ _ _) (he _ _ _ _ _) at_ x1 itd (hbind _ _ _ _ _) hbig hgo λs' ⟨F',H',vs,I',x',hD',hFD',rs⟩=>?_;obtain⟨m,hn,_⟩:=id I'.loc;have IX:Inv X pins σ H' s':=Zos (h':=s'.heap) I2 f2 (ZBp hDC) I' (ZEt _ _);have hCn:H' h0.objs.size=none:=I'.free;have neL:h0.objs.size≠X.env.locals:=ZCj (ZBt I2.lt hDC);have neC:∀z c,X.env.cells.lookup z=some c->c≠h0.objs.size:=λz c hz=>by obtain⟨v,o,ho,_⟩:=I2.cell z c hz;exact ZzQ (ZBt (ZzJ ho) hDC)
    have neP:∀p∈X.pn++pins,p.1≠h0.objs.size:=λp hp=>ZzQ (ZBt (ZzJ (I2.pin p hp).1) hDC);show wpAny _ X.A (assign (.Name y py) X.env (.ref s2.heap.objs.size)) _ _ _;refine wpAny_assign_Name (ZmH IX hN hiy (.inl hy) (v:=.ref s2.heap.objs.size) rfl (λs3 I3 hsa=>?_) (.inr hy));obtain⟨a,sa,ea⟩:=hsa;have neA:h0.objs.size≠a:=by
     rcases ea with e | e
     ·rw[e]; exact neL
     ·exact ZAx (neC _ _ e)
    refine⟨m,hn.sameBut sa neA,λh2 hs2=>?_⟩;refine⟨_,H',I3.turned (t':=s3.toks) (it:=h0.objs.size) (λb o hb e=>(hs2.2 b hb).trans e) hCn neL (.inr (ZAd I2.sz (ZBp hDC))) neC neP,k _ F' H' ((at_.grow x').storeNew at_ x'.hh (fp':=[s2.heap.objs.size]) (.ol hD' rs) (by simp) λa ha=>?_)⟩;obtain rfl:a=s2.heap.objs.size:=by simpa using ha
    exact⟨hFD',hHsD⟩
   exact codeAny_compStart_list loop (W.self _ 0 _ _ _ tn1 loop)
  ·cases hb
 ·cases hb
end
end HP
namespace HP
open PySem PySem.Spec PyProof.Rows L2
variable[FX]
def Zt9(d:PyData):Option (List PyData):=some [d]
def ZlZ:PyData->Option (List PyData)
 | .tuple [x,y]=>some [x,y]
 | _=>none
theorem ZwP(c:HM.TF)(e:HM.EF)(r:HM.Env):∀xs,HM.ZaJ c e r xs=goG Zt9 c e r xs
 | []=>rfl
 | x::xs=>by unfold HM.ZaJ goG;rw[ZwP c e r xs];rfl
theorem ZwF(c:HM.TF)(e:HM.EF)(r:HM.Env):∀xs,HM.Zc0 c e r xs=goG ZlZ c e r xs
 | []=>rfl
 | x::xs=>by
  have ih:=ZwF c e r xs;unfold HM.Zc0 goG;split
  ·rename_i h; cases h
  ·rename_i a b q h
   cases h;rw[ih];rfl
  ·rename_i h1
   have hn:ZlZ x=none:=by
    unfold ZlZ;split
    ·exact(h1 _ _ _ rfl).elim
    ·rfl
   rw[hn]
theorem ZqY(i:HM.IF)(c:HM.TF)(e:HM.EF):HM.ZM i c e=ZfM Zt9 i c e:=by
 funext r
 unfold HM.ZM ZfM;cases i r with
 | none=>rfl
 | some xs=>dsimp only; rw[ZwP]
theorem ZqC(i:HM.IF)(c:HM.TF)(e:HM.EF):HM.Zdb i c e=ZfM ZlZ i c e:=by
 funext r
 unfold HM.Zdb ZfM;cases i r with
 | none=>rfl
 | some xs=>dsimp only; rw[ZwF]
theorem Zuq{K:Zzp}{F:Hp}{d1 d2:PyData}{v:V}(h:Rep K F (.tuple [d1,d2]) v):∃a v1 v2,v=.ref a/\F a=some (.tup [v1,v2])/\Rep K F d1 v1/\Rep K F d2 v2:=by
 cases h with
 | @tup a ds vs h1 h2 h3 =>
  cases vs with
  | nil=>simp at h2
  | cons v1 vs=>cases vs with
   | nil=>simp at h2
   | cons v2 vs=>cases vs with
    | nil=>exact⟨a,v1,v2,rfl,h1,h3 0 _ _ rfl rfl,h3 1 _ _ rfl rfl⟩
    | cons _ _=>simp at h2
section
variable{X:Cx}{N:List Str}{scope:Scope}{x x2:Str}{px px2 pt:Pos}{kt:Nat}
theorem Zs5(T:ZdX X N scope [x])(cl:List (Str × Addr))(C:Addr)(s₀:Shared)(H₀:Hp)(ex:List Addr):ZjM (Z0 X N scope cl C s₀ H₀ ex) 1 (.Name x px) Zt9:=by
 intro pins s σ sv H F d ys xv u hsv I r sub q hd;cases hd;have hx:=T.loc x (ZzI.mpr rfl);refine thn (ZjO (X:=Z0 X N scope cl C s₀ H₀ ex) (i:=0) T.nd (T.first 0 x rfl) (.inl (ZBu hx)) (.inr (ZBu hx)) _ s _ H xv u (λσ' H'=>σ'=(sv++σ).set 0 (some xv)/\H'=H) I r ⟨rfl,rfl⟩) λ_ s' ⟨σ',H',I',e1,e2⟩=>?_
 subst e1 e2;refine⟨[xv],rfl,?_,.one q⟩;cases sv with
 | nil=>simp at hsv
 | cons a sv=>cases sv with
  | nil=>exact I'
  | cons _ _=>simp at hsv
theorem Zsr(T:ZdX X N scope [x,x2])(cl:List (Str × Addr))(C:Addr)(s₀:Shared)(H₀:Hp)(ex:List Addr):ZjM (Z0 X N scope cl C s₀ H₀ ex) 2 (.Tuple [.Name x px,.Name x2 px2] kt pt) ZlZ:=by
 intro pins s σ sv H F d ys xv u hsv I r sub q hd;have hx:=T.loc x (Zzt ..);have hx2:=T.loc x2 (Zzu _ (Zzt ..));unfold ZlZ at hd;split at hd
 ·rename_i d1 d2
  cases hd;obtain⟨pa,v1,v2,e7,hpa,rx1,rx2⟩:=Zuq q;subst e7;refine thn (ZwH (X:=Z0 X N scope cl C s₀ H₀ ex) (n:=2) rfl (ZoP (ZjO (X:=Z0 X N scope cl C s₀ H₀ ex) (i:=0) T.nd (T.first 0 x rfl) (.inl (ZBu hx)) (.inr (ZBu hx))) (ZoP (ZjO (X:=Z0 X N scope cl C s₀ H₀ ex) (i:=1) T.nd (T.first 1 x2 rfl) (.inl (ZBu hx2)) (.inr (ZBu hx2))) ZvF)) rfl rfl _ s _ H (.ref pa) u (λσ' H'=>σ'=((sv++σ).set 0 (some v1)).set 1 (some v2)/\H'=H) I r ⟨pa,[v1,v2],rfl,.of (sub _ _ hpa),rfl,v1,[v2],rfl,v2,[],rfl,rfl,rfl,rfl⟩) λ_ s' ⟨σ',H',I',e1,e2⟩=>?_
  subst e1 e2;refine⟨[v1,v2],rfl,?_,.cons rx1 (.one rx2)⟩;cases sv with
  | nil=>simp at hsv
  | cons a sv=>cases sv with
   | nil=>simp at hsv
   | cons b sv=>cases sv with
    | nil=>exact I'
    | cons _ _=>simp at hsv
 ·cases hd
def Zsx(kinds:Str->Option NameKind)(XN N:List Str)(names:List (Str × NameKind))(fr:List Str):Bool :=
 names.all (λy=>y.2 != .cell)&&names.all (λy=>y.2 != .local||names.lookup y.1==some .local)&&fr.all (λx=>names.lookup x==some .local)&&(ZzA fr.length).all (λi=>N[i]?==fr[i]?)&&decide N.Nodup&&N.length==XN.length+fr.length &&
 names.all (λy=>y.2 != .free||kinds y.1==some .cell||kinds y.1==some .free) &&
 (ZzA (N.length-fr.length)).all (λi=>match N[i+fr.length]? with
  | some y=>(names.lookup y != some .free||XN[i]?==some y)&&(names.lookup y==some .free||(names.lookup y != some .local&&names.lookup y != some .cell))
  | none=>true)
theorem ZG{X:Cx}{N XN:List Str}{scope sc:Scope}{fr:List Str}(hs:X.env.scope=sc:=by rfl)(hN:X.N=XN:=by rfl)(hk:scope.kind=.function:=by rfl)(h:Zsx (λy=>sc.names.lookup y) XN N scope.names fr=true:=by decide +kernel):ZdX X N scope fr:=by
 subst hN;unfold Zsx at h;simp only[ZzK,Zzz,ZA2,bne_iff_ne,beq_iff_eq,decide_eq_true_eq]at h;obtain⟨⟨⟨⟨⟨⟨⟨h1,h2⟩,h3⟩,h4⟩,h5⟩,h6⟩,h7⟩,h8⟩:=h;have at_:∀(i:Nat) (y:Str),N[i+fr.length]?=some y->(scope.names.lookup y≠some .free\/X.N[i]?=some y)/\(scope.names.lookup y=some .free\/(scope.names.lookup y≠some .local/\scope.names.lookup y≠some .cell)):=λi y e=>by have hi:i+fr.length<N.length:=(ZzF.mp e).1;have:=h8 i (ZzP.mpr (by omega));rw[e]at this;simpa only[ZzK,ZA2,bne_iff_ne,beq_iff_eq]using this
 refine⟨hk,h1,λy hy e=>(h2 y hy).resolve_left (λz=>z e),h3,λi x e=>?_,h5,h6,λy hy e=>?_,λi y e q=>(at_ i y e).1.resolve_left (λz=>z q),λi y e v=>?_⟩
 ·rw[h4 i (ZzP.mpr (ZzF.mp e).1)]
  exact e
 ·have:=h7 y hy
  rw[show X.env.kindOf y.1=sc.names.lookup y.1 by rw[<-hs]; rfl];rcases this with(z | z) | z
  ·exact absurd e z
  ·exact .inl z
  ·exact .inr z
 ·rcases(at_ i y e).2 with z | ⟨z1,z2⟩
  ·exact z
  ·rcases v with v | v | v
   ·exact absurd v z1
   ·exact absurd v z2
   ·exact v
variable{elt iter:Expr}{ifs:List Expr}{pos:Pos}{fi:HM.IF}{fc:HM.TF}{fe:HM.EF}
theorem Zau(hxe:X.xe=λ_ _=>False)(hcalm:X.calm=true)(T:ZdX X N scope [x])(hi:XI X (.Name x px) iter fi)(hc:∀cl C s H ex,XTs (Z0 X N scope cl C s H ex) ifs fc)(he:∀cl C s H ex,XE (Z0 X N scope cl C s H ex) elt fe)
  (hs:∀x,ZBb iter X.env x=pure x:=by intro _; rfl):XF X (.ListComp elt [⟨.Name x px,iter,ifs,0⟩] scope pos) (HM.ZM fi fc fe):=by
 rw[ZqY];exact Znx hxe hcalm T (Zs5 T) hi.e hc he hs
theorem ZkB(hxe:X.xe=λ_ _=>False)(hcalm:X.calm=true)(T:ZdX X N scope [x,x2])(hi:XI X (.Tuple [.Name x px,.Name x2 px2] kt pt) iter fi)(hc:∀cl C s H ex,XTs (Z0 X N scope cl C s H ex) ifs fc)(he:∀cl C s H ex,XE (Z0 X N scope cl C s H ex) elt fe)
  (hs:∀x,ZBb iter X.env x=pure x:=by intro _; rfl):XF X (.ListComp elt [⟨.Tuple [.Name x px,.Name x2 px2] kt pt,iter,ifs,0⟩] scope pos) (HM.Zdb fi fc fe):=by
 rw[ZqC];exact Znx hxe hcalm T (Zsr T) hi.e hc he hs
theorem ZeG(i:Nat){y:Str}{py spos:Pos}(hN:X.N.Nodup)(hxe:X.xe=λ_ _=>False)(hcalm:X.calm=true)(T:ZdX X N scope [x])(hi:XI X (.Name x px) iter fi)(hc:∀cl C s H ex,XTs (Z0 X N scope cl C s H ex) ifs fc)(he:∀cl C s H ex,XE (Z0 X N scope cl C s H ex) elt fe)
  (hiy:X.N[i]?=some y:=by rfl) (hy:X.env.scope.names.lookup y=some .local:=by rfl) (hsw:ZBC (.ListComp elt [⟨.Name x px,iter,ifs,0⟩] scope pos) (some (.Name y py)) spos.line X.env=pure true:=by rfl)
  (hs:∀x,ZBb iter X.env x=pure x:=by intro _; rfl):XS X (.Assign [.Name y py] (.ListComp elt [⟨.Name x px,iter,ifs,0⟩] scope pos) spos) (HM.Z1 i (HM.ZM fi fc fe)):=by
 rw[ZqY];exact Zki i hN hxe hcalm T (Zs5 T) hi.e hc he hiy hy hsw hs
theorem Zkj(i:Nat){y:Str}{py spos:Pos}(hN:X.N.Nodup)(hxe:X.xe=λ_ _=>False)(hcalm:X.calm=true)(T:ZdX X N scope [x,x2])(hi:XI X (.Tuple [.Name x px,.Name x2 px2] kt pt) iter fi)(hc:∀cl C s H ex,XTs (Z0 X N scope cl C s H ex) ifs fc)(he:∀cl C s H ex,XE (Z0 X N scope cl C s H ex) elt fe)
  (hiy:X.N[i]?=some y:=by rfl) (hy:X.env.scope.names.lookup y=some .local:=by rfl) (hsw:ZBC (.ListComp elt [⟨.Tuple [.Name x px,.Name x2 px2] kt pt,iter,ifs,0⟩] scope pos) (some (.Name y py)) spos.line X.env=pure true:=by rfl)
  (hs:∀x,ZBb iter X.env x=pure x:=by intro _; rfl):XS X (.Assign [.Name y py] (.ListComp elt [⟨.Tuple [.Name x px,.Name x2 px2] kt pt,iter,ifs,0⟩] scope pos) spos) (HM.Z1 i (HM.Zdb fi fc fe)):=by
 rw[ZqC];exact Zki i hN hxe hcalm T (Zsr T) hi.e hc he hiy hy hsw hs
end
end HP
namespace HP
open PySem PySem.Spec PyProof.Rows L2
variable[FX]
section
variable{prog:Program}{w:World}{K:Type}[DecidableEq K]{knd:HeapKind prog w K}{A:Around}{E:Value->Shared->Prop}{s:Shared}
theorem Zl9{d a:Addr}{xs:List (K × Addr × Value)}{k:K}{v:Value}{Q:Value->Shared->Prop}(hu:knd.room A)(hkey:knd.is s.heap k a)(hm:s.heap.DictOfH knd d xs)(hsz:xs.length<=sizeLine)
  (h1:∀p,atKey xs k=some p->Q p.2 { s with toks:=s.toks+knd.draws k })
  (h2:atKey xs k=none->∀h',h'.DictOfH knd d (storedH xs k a v)->ZBq d s.heap h'->Q v { s with heap:=h',toks:=s.toks+knd.draws k }) :
  wpAny (model prog w) A (dictSetDefault d (.ref a) v) Q E s:=by
 obtain⟨o,es,ep,ho,hc,hd,he,his,hn⟩:=hm;unfold dictSetDefault
 try with_reducible refine ZAE ?_
 refine Zzq (knd.pyHash hu hkey ?_);refine Zzq (wpAny_dictFind_heap (s:={ s with toks:=s.toks+knd.draws k }) hu hkey ho hd he his hn ?_ ?_)
 ·intro hno
  have hnot:k ∉ xs.map (·.1):=not_mem_keys_of_get hno;have hnk:=atKey_none_of_get hno;refine Zzq (wpAny_rule (Zzq (wpAny_updateDictKeys (hz:=by have e:=size_of_entries he; omega) (s:={ s with toks:=s.toks+knd.draws k }) ho hd (Zzv (h2 hnk _ ⟨_,_,ep+1,ZAC _ ho (Obj.isFreed_of_dict (Obj.data_mapDictKeys hd _)),
   hc.mapDictKeys _,Obj.data_mapDictKeys hd _,?_,?_,?_⟩ (ZAB ..))))))
  ·rw[storedH_new hnk]
   simp[he,entryOfKey]
  ·rw[storedH_new hnk]
   intro x hx;rcases ZzX.mp hx with hx | hx
   ·exact knd.keeps (his x hx) ho hd (ZAB ..)
   ·simp only[ZzI]at hx
    subst hx;exact knd.keeps hkey ho hd (ZAB ..)
  ·rw[storedH_new hnk]
   rw[Zz0,ZBc];refine⟨hn,by simp,?_⟩;intro x hx y hy;simp only[Zzw,ZBf,ZzI]at hy;subst hy;exact λe=>hnot (e▸hx)
 ·intro j p hj
  refine Zzq (ZCy (s:={ s with toks:=s.toks+knd.draws k }) ho hd ?_);rw[entry_at he j,hj];exact Zzq (wpAny_rule (Zzv (h1 p (atKey_of_get hn hj))))
theorem Zkg(d a:Addr)(hd:(d==ZA1)=false)(dflt:Value) :
  MeetsIn prog w (Builtin.«dict.setdefault» ⟨[.ref d,.ref a,dflt],[]⟩) (λA R s=>knd.room A.in1/\∃k xs,knd.is s.heap k a/\s.heap.DictOfH knd d xs/\xs.length<=sizeLine /\
   (∀p,atKey xs k=some p->R (.ok (.ret p.2)) { s with toks:=s.toks+knd.draws k }) /\
   (atKey xs k=none->∀h',h'.DictOfH knd d (storedH xs k a dflt)->ZBq d s.heap h'->R (.ok (.ret dflt)) { s with heap:=h',toks:=s.toks+knd.draws k })) :=
 .of_wp λA R s ⟨hu,k,xs,hkey,hm,hz,h1,h2⟩=>by unfold Builtin.«dict.setdefault»;refine Zzq ?_;unfold Builtin.Dict.keyAndDefault;refine Zzq (wpAny_notOrdered_dict hm.typeIs ?_);show wpAny _ _ (pure (d,ZAo a,some dflt)) _ _ s;refine Zzv ?_;show wpAny _ _ (if(d==ZA1)=true then _ else(dictSetDefault d (.ref a) dflt >>= _)) _ _ s;rw[if_neg (by rw[hd]; exact ZAb)];exact Zzq (Zl9 hu hkey hm hz (λp hp=>Zzv ⟨p.2,rfl,h1 p hp⟩) λhn h' hm' hs'=>Zzv ⟨dflt,rfl,h2 hn h' hm' hs'⟩)
end
section
variable{X:Cx}{pins:List (Addr × Obj)}{σ:L2.St}{H:Hp}{s:Shared}{a b:Addr}{z:V}{r:Value}{A:Around}{E:Value->Shared->Prop}{kvs:List (List Key × V)}{k:List Key}
theorem ZwY{Q:Value->Shared->Prop}(hu:A.units+1<cLine)(I:Inv X pins σ H s)(e:H a=some (.dT kvs))(eb:H b=some (.tup (k.map kV)))(hl:kvs.length<sizeLine)(rz:RelV z r)
  (h1:∀v,ZaS kvs k=some v->∀w' s',Inv X pins σ H s'->RelV v w'->Q w' s') (h2:ZaS kvs k=none->∀s',Inv X pins σ (upd H a (.dT (kvs++[(k,z)]))) s'->Q r s') :
  wpAny (model X.prog X.w) A (call (.builtin "dict.setdefault") [.ref a,.ref b,r]) Q E s:=by
 obtain⟨zz,hd,xs,rel,dd⟩:=Zvk I.hok e;have hz:xs.length<=sizeLine:=by rw[<-ZBX rel]; exact zz
 have hv:=rel.val k;refine call_meetsIn ZDc dd.typeIs PySem.F.entry_dict_setdefault (PySem.F.args_dict_setdefault_3 _ _ _) (Zkg (knd:=ZCi (Zay X.prog X.w)) a b hd r) ⟨ZBD hu,k,xs,ZgK I.hok eb,dd,hz,λp hp=>?_,λhn h' dd' hs=>?_⟩
 ·rw[hp]at hv
  cases hvv:ZaS kvs k with
  | none=>rw[hvv]at hv; exact hv.elim
  | some v=>rw[hvv]at hv; exact h1 v hvv _ _ (I.tok _) hv
 ·rw[hn]at hv
  have hvv:ZaS kvs k=none:=by
   cases hvv:ZaS kvs k with
   | none=>rfl
   | some v=>rw[hvv]at hv; exact hv.elim
  refine h2 hvv _ ?_;have hp:=rel.put k eb rz;have epk:putK kvs k z=kvs++[(k,z)]:=by unfold putK;rw[if_neg];rw[ZiP,hvv];simp
  rw[epk]at hp;obtain⟨q,es,ep,hq,g2,g3,g4,_,g5⟩:=dd';refine ZjT I (by rw[e]; exact ZCr) hs ⟨q,hq⟩ ⟨by rw[ZzL]; exact hl,hd,_,hp.keeps λc ys ec=>?_,q,es,ep,hq,g2,g3,g4,g5⟩;rw[ZD (Zvn ec e (λz=>nomatch z))];exact ec
end
def Zy1(td ty tx:TE):TE:=λσ H Q=>td σ H λx H1=>∃a,x=.ref a/\IsD H1 a/\ty σ H1 λy H2=>tx σ H2 λz H3=>∃kvs k b,H3 a=some (.dT kvs)/\y=.ref b/\H3 b=some (.tup (k.map kV))/\kvs.length<sizeLine /\
 (∀v,ZaS kvs k=some v->Q v H3)/\(ZaS kvs k=none->Q z (upd H3 a (.dT (kvs++[(k,z)]))))
section
variable{X:Cx}{o e f:Expr}{apos cpos:Pos}{td ty tx:TE}
theorem Zxq(hu:X.A.units+1<cLine)(ho:PE X o td)(he:PE X e ty)(hf:PE X f tx)(m:M2 X o "setdefault" apos e f cpos):PE X (.Call (.Attribute o "setdefault" apos) [e,f] [] cpos) (Zy1 td ty tx):=by intro pins s σ H Q I h;refine wpAny_Call_method m.base m.few m.line ZDP ZDc PySem.F.type_dict_setdefault (thn (ho pins s σ H _ I h) λu s1 ⟨x,H1,I1,rx,a,ex,d,q1⟩=>?_);subst ex;obtain rfl:u=ZAo a:=rx;obtain⟨t1,t2,_⟩:=Zts I1 d;refine⟨t1,t2,?_⟩;rw[m.trees];refine ZB0 rfl (ZCX (ZBY (thn (he pins s1 σ H1 _ I1 q1) λiv s2 ⟨y,H2,I2,ry,q2⟩=>ZBY (thn (hf pins s2 σ H2 _ I2 q2) λfv s3 ⟨z,H3,I3,rz,kvs,k,b,ea,ey,eb,hl,q3,q4⟩=>ZDt ?_))));subst ey;obtain rfl:iv=ZAo b:=ry;exact ZwY hu I3 ea eb hl rz (λv hv w' s4 I4 rw'=>⟨v,H3,I4,rw',q3 v hv⟩) λhn s4 I4=>⟨z,_,I4,rz,q4 hn⟩
end
def OT(K:Zzp)(F H:Hp)(kvs:List (List Key × List PyData))(vvs:List (List Key × V))(ls:List Addr):Prop:=kvs.map (·.1)=vvs.map (·.1)/\vvs.map (·.2)=ls.map V.ref /\
 ∀(i:Nat) (ds:List PyData) (l:Addr),(kvs.map (·.2))[i]?=some ds->ls[i]?=some l->∃vs,H l=some (.lst vs)/\Zy K F ds vs
section
variable{K:Zzp}{F F' H H':Hp}{kvs:List (List Key × List PyData)}{vvs:List (List Key × V)}{ls:List Addr}
theorem OT.len(q:OT K F H kvs vvs ls):kvs.length=ls.length/\kvs.length=vvs.length:=by have e1:=congrArg ZAi q.1;have e2:=congrArg ZAi q.2.1;rw[Zzr,Zzr]at e1 e2;omega
theorem OT.mono(q:OT K F H kvs vvs ls)(s:Zs F F')(k:∀a∈ls,∀o,H a=some o->H' a=some o):OT K F' H' kvs vvs ls :=
 ⟨q.1,q.2.1,λi ds l h1 h2=>let ⟨vs,q1,q2⟩:=q.2.2 i ds l h1 h2; ⟨vs,k l (ZzU h2) _ q1,q2.mono s⟩⟩
theorem OT.snoc(q:OT K F H kvs vvs ls)(k:List Key){p:Addr}(hp:H p=some (.lst [])):OT K F H (kvs++[(k,[])]) (vvs++[(k,.ref p)]) (ls++[p]):=by
 refine⟨by rw[Zz0,Zz0,q.1]; rfl,by rw[Zz0,Zz0,q.2.1]; rfl,λi ds l h1 h2=>?_⟩;have hl:=q.len;rw[Zz0]at h1
 by_cases hi:i<kvs.length
 ·rw[Zz4 (by rw[Zzr]; exact hi)]at h1
  rw[Zz4 (by omega)]at h2;exact q.2.2 i ds l h1 h2
 ·rw[ZAf (by rw[Zzr]; omega),Zzr]at h1
  rw[ZAf (by omega),<-hl.1]at h2;cases hj:i-kvs.length with
  | zero=>rw[hj]at h1 h2;cases h1; cases h2;exact⟨[],hp,.nil⟩
  | succ j=>rw[hj]at h1; cases h1
theorem OT.look(q:OT K F H kvs vvs ls)(k:List Key):(∀ds,HM.Zg kvs k=some ds->∃l' vs,ZaS vvs k=some (.ref l')/\l'∈ls/\H l'=some (.lst vs)/\Zy K F ds vs)/\(HM.Zg kvs k=none->ZaS vvs k=none):=Zk2 k kvs vvs ls q.1 q.2.1 q.2.2
theorem OT.app(k:List Key){d:PyData}{v:V}:∀{kvs:List (List Key × List PyData)} {vvs:List (List Key × V)} {ls:List Addr},OT K F H kvs vvs ls->ls.Nodup->Rep K F d v->∀{l':Addr} {vs:List V},ZaS vvs k=some (.ref l')->H l'=some (.lst vs) ->
  OT K F (upd H l' (.lst (vs++[v]))) (HM.ZdH kvs k d) vvs ls
 | [],[],_,q,_,_,l',vs,hv,_=>by cases hv
 | [],_::_,_,q,_,_,_,_,_,_=>by have:=q.len; simp at this
 | _::_,[],_,q,_,_,_,_,_,_=>by have:=q.len; simp at this
 | _::_,_::_,[],q,_,_,_,_,_,_=>by have:=q.len; simp at this
 | (k1,ds1)::kvs,(k2,v2)::vvs,l1::ls,q,nd,rd,l',vs,hv,hl=>by
  obtain⟨q1,q2,q3⟩:=q;rw[Zzw,Zzw]at q1 q2;injection q1 with e1 e2
  injection q2 with e3 e4
  have e1:k1=k2:=e1;have e3:v2=.ref l1:=e3;subst e1 e3;have rest:OT K F H kvs vvs ls:=⟨e2,e4,λi ds l h1 h2=>q3 (i+1) ds l (by simpa using h1) (by simpa using h2)⟩;obtain⟨n1,n2⟩:=ZAh.mp nd;obtain⟨us,f1,f2⟩:=q3 0 ds1 l1 rfl rfl;unfold HM.ZdH
  by_cases hk:k1=k
  ·rw[if_pos hk]
   rw[Zel (p:=(k1,V.ref l1)) hk]at hv;cases hv;rw[hl]at f1;cases f1;refine⟨by rw[Zzw,Zzw,e2],by rw[Zzw,Zzw,e4],λi ds l h1 h2=>?_⟩;cases i with
   | zero=>cases h1; cases h2;exact⟨_,ZH,f2.append (.one rd)⟩
   | succ i=>rw[Zzw,ZAa]at h1;rw[ZAa]at h2;obtain⟨us,g1,g2⟩:=rest.2.2 i ds l h1 h2;exact⟨us,by rw[ZD (λz=>n1 (by rw[<-z]; exact ZzU h2))]; exact g1,g2⟩
  ·rw[if_neg hk]
   rw[Zem (p:=(k1,V.ref l1)) hk]at hv;have ih:=OT.app k rest n2 rd hv hl;have hne:l1≠l':=by
    rintro rfl
    have:∀(vvs:List (List Key × V)) (ls:List Addr),vvs.map (·.2)=ls.map V.ref->∀l',ZaS vvs k=some (.ref l')->l'∈ls:=by
     intro vvs
     induction vvs with
     | nil=>intro ls _ l' h; cases h
     | cons p vvs ih =>
      intro ls he l' h;cases ls with
      | nil=>simp at he
      | cons l ls =>
       rw[Zzw,Zzw]at he;injection he with he1 he2
       by_cases hp:p.1=k
       ·rw[Zel hp]at h
        rw[he1]at h;cases h;exact Zzt
       ·rw[Zem hp]at h
        exact Zzu _ (ih ls he2 l' h)
    exact n1 (this vvs ls e4 _ hv)
   refine⟨by rw[Zzw,Zzw,ih.1],by rw[Zzw,Zzw,e4],λi ds l h1 h2=>?_⟩;cases i with
   | zero=>cases h1; cases h2;exact⟨us,by rw[ZD hne]; exact f1,f2⟩
   | succ i=>rw[Zzw,ZAa]at h1;rw[ZAa]at h2;exact ih.2.2 i ds l h1 h2
end
theorem Zbv.otl{K:Zzp}{F0 H0 F H:Hp}{r:HM.Env}{σ:L2.St}{fp:Nat->List Addr}{i:Nat}{kvs:List (List Key × List PyData)}(e:Zbv K F0 H0 F H r σ fp)(h:r[i]?=some (some (.otl kvs))) :
  ∃a vvs ls,σ[i]?=some (some (.ref a))/\H a=some (.dT vvs)/\OT K F H kvs vvs ls/\fp i=a::ls:=by
 obtain⟨v,h1,h2⟩:=e.at_ i _ h;generalize hf:fp i=q at h2;cases h2 with
 | otl k1 k2 k3 k4=>exact⟨_,_,_,h1,k1,⟨k2,k3,k4⟩,rfl⟩
theorem Zbv.otlNew{K:Zzp}{F0 H0 Fb Hb F H:Hp}{r:HM.Env}{σ:L2.St}{fp:Nat->List Addr}{i:Nat}{kvs:List (List Key × List PyData)}{p:Addr}(k:List Key)(eb:Zbv K F0 H0 Fb Hb r σ fp)(x:Ext Fb Hb F H)(h:r[i]?=some (some (.otl kvs)))(hp:H p=some (.lst []))(hF:F p=none)(hb:Hb p=none) :
  ∃a vvs,σ[i]?=some (some (.ref a))/\H a=some (.dT vvs)/\vvs.length=kvs.length/\(HM.Zg kvs k=none->ZaS vvs k=none)/\At K F0 H0 F (upd H a (.dT (vvs++[(k,.ref p)]))) (r.set i (some (.otl (kvs++[(k,[])])))) σ:=by
 have e:=eb.grow x;obtain⟨a,vvs,ls,h1,h2,h3,h4⟩:=e.otl h;have hpn:∀j,p ∉ fp j:=λj hj=>by obtain⟨o,ho⟩:=eb.there hj;rw[hb]at ho; cases ho
 have hpa:p≠a:=λz=>hpn i (by rw[h4,z]; exact Zzt);have hal:a ∉ ls:=(ZAh.mp (h4▸e.nd i)).1;have nl:ls.Nodup:=(ZAh.mp (h4▸e.nd i)).2;have hpl:p ∉ ls:=λz=>hpn i (by rw[h4]; exact Zzu _ z);refine⟨a,vvs,h1,h2,h3.len.2.symm,(h3.look k).2,?_⟩;have q:=h3.snoc k hp;have q':OT K F (upd H a (.dT (vvs++[(k,.ref p)]))) (kvs++[(k,[])]) (vvs++[(k,.ref p)]) (ls++[p]):=q.mono (Zs.refl F) λc hc o z=>by
  rw[ZD]
  ·exact z
  ·rintro rfl
   rcases ZzX.mp hc with hc | hc
   ·exact hal hc
   ·exact hpa (ZzI.mp hc).symm
 have nd':(a::(ls++[p])).Nodup:=by
  refine ZAh.mpr ⟨?_,?_⟩
  ·intro z
   rcases ZzX.mp z with z | z
   ·exact hal z
   ·exact hpa (ZzI.mp z).symm
  ·rw[ZBc]
   refine⟨nl,by simp,λx hx y hy=>?_⟩;obtain rfl:y=p:=by simpa using hy
   rintro rfl
   exact hpl hx
 refine e.changeW h1 (fp':=a::(ls++[p])) (.otl ZH q'.1 q'.2.1 q'.2.2) nd' (λc hc=>?_) λc o z hn=>?_
 ·rcases ZzH.mp hc with z | z
  ·subst z; exact .inl (by rw[h4]; exact Zzt)
  ·rcases ZzX.mp z with z | z
   ·exact .inl (by rw[h4]; exact Zzu _ z)
   ·obtain rfl:c=p:=ZzI.mp z
    exact .inr ⟨hF,eb.ext.hh.free hb,hpn⟩
 ·rw[ZD (λy=>hn (by rw[h4,y]; exact Zzt))]
  exact z
theorem At.otlApp{K:Zzp}{F0 H0 F H:Hp}{r:HM.Env}{σ:L2.St}{i:Nat}{kvs:List (List Key × List PyData)}{ds:List PyData}(k:List Key)(e:At K F0 H0 F H r σ)(h:r[i]?=some (some (.otl kvs)))(hd:HM.Zg kvs k=some ds) :
  ∃a vvs l vs,σ[i]?=some (some (.ref a))/\H a=some (.dT vvs)/\ZaS vvs k=some (.ref l)/\H l=some (.lst vs)/\Zy K F ds vs/\∀d v,Rep K F d v->At K F0 H0 F (upd H l (.lst (vs++[v]))) (r.set i (some (.otl (HM.ZdH kvs k d)))) σ:=by
 obtain⟨fp,e⟩:=e;obtain⟨a,vvs,ls,h1,h2,h3,h4⟩:=e.otl h;obtain⟨l,vs,g1,g2,g3,g4⟩:=(h3.look k).1 ds hd;have hal:a ∉ ls:=(ZAh.mp (h4▸e.nd i)).1;have nl:ls.Nodup:=(ZAh.mp (h4▸e.nd i)).2;have hne:a≠l:=λz=>hal (by rw[z]; exact g2);refine⟨a,vvs,l,vs,h1,h2,g1,g3,g4,λd v rd=>?_⟩;have q:=h3.app k nl rd g1 g3;refine e.change h1 (fp':=a::ls) (.otl (by rw[ZD hne]; exact h2) q.1 q.2.1 q.2.2) (h4▸e.nd i) (λc hc=>.inl (by rw[h4]; exact hc)) λc o z hn=>?_;rw[ZD (λy=>hn (by rw[h4,y]; exact Zzu _ g2))];exact z
section
variable{X:Cx}{a b c e:Expr}{fa fb fc:HM.EF}{pos p:Pos}{f:HM.BF}
theorem Zsh(hu:X.A.units+1<cLine)(i:Nat){x:Str}{p1 p2 p3:Pos}(hk:XE X b fb)(hN:X.N[i]?=some x:=by rfl)(hv:Vis X.env.scope x:=by first | exact ZAe rfl | exact ZzY (ZAe rfl) | exact ZzY (ZzY rfl))(hd:(x==("__debug__":Str))=false:=by decide)(hcd:(x==("__classdict__":Str))=false:=by decide)
  (hs:ZBC (.List [] p3) (some (.Subscript (.Name x p1) b p2)) pos.line X.env=pure false:=by rfl):XS X (.Assign [.Subscript (.Name x p1) b p2] (.List [] p3) pos) (HM.Zmb i fb):=by
 intro r o h;unfold HM.Zmb at h;split at h
 ·rename_i y hy
  split at h
  ·rename_i kvs hb
   split at h
   ·rename_i k hk'
    split at h
    ·rename_i hz
     split at h
     ·rename_i hl
      cases h;refine PS.imp (ZlW hu (ZbU hN hv hd hcd) (hk r y hy) (Zcu (X:=X) Zk (by simp) r (.ol []) rfl) hs) λE σ H ⟨F0,H0,F,at_,kk⟩=>?_;refine⟨F0,H0,F,at_,λv F1 H1 x1 ⟨fp,r1,nd,hn⟩=>?_⟩;cases r1 with
      | @ol l _ vs hl1 rs =>
       obtain rfl:vs=[]:=rs.nil_inv;have at1:=at_.grow x1;obtain⟨u,fp,e1,e2⟩:=at1.any hb;refine⟨u,e1,F0,H0,F1,at1,λw F2 H2 x2 r2=>?_⟩;obtain⟨fq,eb⟩:=at_;have hlF:F2 l=none:=by
        cases q:F2 l with
        | none=>rfl
        | some o =>
         rcases x2.new l o q with z | z
         ·rw[(hn l (by simp)).1]at z; cases z
         ·exact(z.no hl1 λ_ q=>by cases q).elim
       obtain⟨aa,vvs,g1,g2,g3,g4,g5⟩:=eb.otlNew k (x1.trans x2) hb (x2.hh _ _ hl1) hlF (hn l (by simp)).2;rw[e1]at g1;cases g1;obtain⟨bb,rfl,hbb⟩:=Zb0 hk' r2;have hpk:putK vvs k (V.ref l)=vvs++[(k,.ref l)]:=by unfold putK;rw[if_neg];rw[ZiP,g4 hl];simp
       refine⟨aa,_,rfl,ZiM.t g2 (x2.sub _ _ hbb) (by rw[g3]; exact Zfr hz),?_⟩;rw[hpk];exact kk _ F2 _ g5
     ·cases h
    ·cases h
   ·cases h
  ·cases h
 ·cases h
theorem ZtN(hu:X.A.units+1<cLine)(i:Nat){x:Str}{p1 p2 p3 p4:Pos}(hk:XE X b fb)(ha:XE X a fa)(hN:X.N[i]?=some x:=by rfl)(hv:Vis X.env.scope x:=by first | exact ZAe rfl | exact ZzY (ZAe rfl) | exact ZzY (ZzY rfl))(hd:(x==("__debug__":Str))=false:=by decide)(hcd:(x==("__classdict__":Str))=false:=by decide)
  (hsl:Zo2 b:=by intro _ _; rfl)
  (hbase:ZBI (.Subscript (.Name x p1) b p2) "append" X.env (eval (.Subscript (.Name x p1) b p2) X.env)=eval (.Subscript (.Name x p1) b p2) X.env:=by rfl)
  (hfew:((backTo p4 (ZzC [a] X.env)).all (λx=>!x.1)&&(ZDH p4 (ZCG [] X.env)).all (λx=>x.1.isSome)&&decide (([a]:List Expr).length+([]:List Keyword).length+(if([]:List Keyword).isEmpty then 0 else 1)<30))=true:=by rfl)
  (hline:(p3.endLine==p4.line)=true:=by rfl) (hs:ZzC [a] X.env=[(false,eval a X.env)]:=by rfl):XS X (.Expr (.Call (.Attribute (.Subscript (.Name x p1) b p2) "append" p3) [a] [] p4) pos) (HM.Zpk i fb fa):=by
 intro r o h;unfold HM.Zpk at h;split at h
 ·rename_i y hy
  split at h
  ·rename_i kvs hb
   split at h
   ·rename_i k hk'
    split at h
    ·rename_i d hd'
     split at h
     ·rename_i ds hds
      split at h
      ·rename_i hz
       cases h;refine PS.imp (ZhX (Znq ZBy ZCk ZCl Zg5 (ZlR hu (ZbU hN hv hd hcd) (hk r y hy) hsl) (Zas (ha r d hd') ZbV hs) hbase hfew hline hs rfl)) λE σ H ⟨F0,H0,F,at_,kk⟩=>?_;obtain⟨aa,vvs,l,vs,e1,e2,e3,e4,e5,_⟩:=at_.otlApp k hb hds;refine⟨.ref aa,e1,F0,H0,F,at_,λw F1 H1 x1 r1=>?_⟩;obtain⟨bb,rfl,hbb⟩:=Zb0 hk' r1;have at1:=at_.grow x1;refine⟨aa,.ref l,rfl,by rw[<-e3]; exact Zcm.t (x1.hh _ _ e2) (x1.sub _ _ hbb),.inl ⟨rfl,_,SqL.of (x1.hh _ _ e4)⟩,F0,H0,F1,at1,λv F2 H2 x2 r2=>?_⟩;obtain⟨aa',vvs',l',vs',g1,g2,g3,g4,g5,g6⟩:=(at1.grow x2).otlApp k hb hds;rw[e1]at g1;cases g1;have:=(x1.trans x2).hh _ _ e2;rw[this]at g2;cases g2;rw[e3]at g3;cases g3;refine⟨_,vs',v,rfl,rfl,g4,?_,kk _ F2 _ (g6 d v r2)⟩;rw[<-g5.1];exact Zfr hz
      ·cases h
     ·cases h
    ·cases h
   ·cases h
  ·cases h
 ·cases h
theorem Ztt{k:List Key}{kvs:List (List Key × List PyData)}{ds:List PyData}(h:HM.Zg kvs k=some ds):HM.ZbT kvs k=kvs:=by unfold HM.ZbT; rw[h]
theorem Ztl{k:List Key}{kvs:List (List Key × List PyData)}(h:HM.Zg kvs k=none):HM.ZbT kvs k=kvs++[(k,[])]:=by unfold HM.ZbT; rw[h]
theorem ZtO(hu:X.A.units+1<cLine)(i:Nat){x:Str}{p0 p1 p2 p3 p4 p5:Pos}(hk:XE X b fb)(ha:XE X a fa)(m:M2 X (.Name x p0) "setdefault" p1 b (.List [] p2) p3)(hN:X.N[i]?=some x:=by rfl)(hv:Vis X.env.scope x:=by first | exact ZAe rfl | exact ZzY (ZAe rfl) | exact ZzY (ZzY rfl))(hd:(x==("__debug__":Str))=false:=by decide)(hcd:(x==("__classdict__":Str))=false:=by decide)
  (hbase:ZBI (.Call (.Attribute (.Name x p0) "setdefault" p1) [b,.List [] p2] [] p3) "append" X.env (eval (.Call (.Attribute (.Name x p0) "setdefault" p1) [b,.List [] p2] [] p3) X.env)=eval (.Call (.Attribute (.Name x p0) "setdefault" p1) [b,.List [] p2] [] p3) X.env:=by rfl)
  (hfew:((backTo p5 (ZzC [a] X.env)).all (λx=>!x.1)&&(ZDH p5 (ZCG [] X.env)).all (λx=>x.1.isSome)&&decide (([a]:List Expr).length+([]:List Keyword).length+(if([]:List Keyword).isEmpty then 0 else 1)<30))=true:=by rfl)
  (hline:(p4.endLine==p5.line)=true:=by rfl) (hs:ZzC [a] X.env=[(false,eval a X.env)]:=by rfl):XS X (.Expr (.Call (.Attribute (.Call (.Attribute (.Name x p0) "setdefault" p1) [b,.List [] p2] [] p3) "append" p4) [a] [] p5) pos) (HM.ZoV i fb fa):=by
 intro r o h;unfold HM.ZoV at h;split at h
 ·rename_i y hy
  split at h
  ·rename_i kvs hb
   split at h
   ·rename_i k hk'
    split at h
    ·rename_i hzz
     split at h
     ·rename_i d hd'
      split at h
      ·rename_i ds hds
       split at h
       ·rename_i hz
        cases h;have hi:i<r.length:=(ZzF.mp hb).1;have hb':(r.set i (some (.otl (HM.ZbT kvs k))))[i]?=some (some (.otl (HM.ZbT kvs k))):=ZAl hi;refine PS.imp (ZhX (Znq ZBy ZCk ZCl Zg5 (Zxq hu (ZbU hN hv hd hcd) (hk r y hy) (Zcu (X:=X) Zk (by simp) r (.ol []) rfl) m) (Zas (ha _ d hd') ZbV hs) hbase hfew hline hs rfl)) λE σ H ⟨F0,H0,F,at_,kk⟩=>?_;have fin:∀{F3 H3:Hp} {l:Addr},At X.K F0 H0 F3 H3 (r.set i (some (.otl (HM.ZbT kvs k)))) σ->(∃vs,SqL X.K H3 l vs)->(∀a' vvs',σ[i]?=some (some (.ref a'))->H3 a'=some (.dT vvs')->ZaS vvs' k=some (.ref l)) ->
          tyV X.K "list" (.ref l) H3/\Now X.K (r.set i (some (.otl (HM.ZbT kvs k)))) σ H3 λF0 H0 F=>∀v F' H',Ext F H3 F' H'->Rep X.K F' d v->ZqG (.ref l) [v] H' λ_ H'=>E.nx σ H':=by
         intro F3 H3 l at3 hl hat;refine⟨.inl ⟨rfl,hl⟩,F0,H0,F3,at3,λv F4 H4 x4 r4=>?_⟩;obtain⟨aa',vvs',l',vs',g1,g2,g3,g4,g5,g6⟩:=(at3.grow x4).otlApp k hb' hds;obtain⟨aa2,vvs2,l2,vs2,f1,f2,f3,_⟩:=at3.otlApp k hb' hds;rw[f1]at g1;cases g1;rw[x4.hh _ _ f2]at g2;cases g2;rw[hat _ _ f1 f2]at g3;cases g3;have g7:=g6 d v r4;rw[ZCY]at g7;refine⟨_,vs',v,rfl,rfl,g4,?_,kk _ F4 _ g7⟩;rw[<-g5.1];exact Zfr hz
        obtain⟨fq,eb⟩:=at_;obtain⟨aa,vvs,ls,e1,e2,e3,e4⟩:=eb.otl hb;refine⟨.ref aa,e1,aa,rfl,.inr ⟨vvs,.inl e2⟩,F0,H0,F,⟨fq,eb⟩,λw F1 H1 x1 r1=>⟨F0,H0,F1,At.grow ⟨fq,eb⟩ x1,λv F2 H2 x2 ⟨fp,r2,nd,hn⟩=>?_⟩⟩;obtain⟨bb,rfl,hbb⟩:=Zb0 hk' r1;have x12:=x1.trans x2;have hz0:vvs.length<sizeLine:=by rw[<-e3.len.2]; exact Zfr hzz
        refine⟨vvs,k,bb,x12.hh _ _ e2,rfl,x2.hh _ _ (x1.sub _ _ hbb),hz0,λu hu'=>?_,λhno=>?_⟩
        ·have hls:∃ds0,HM.Zg kvs k=some ds0:=by
          cases hq:HM.Zg kvs k with
          | some ds0=>exact⟨ds0,rfl⟩
          | none=>rw[(e3.look k).2 hq]at hu'; cases hu'
         obtain⟨ds0,hls⟩:=hls;have ead:=Ztt hls;obtain⟨l0,vs0,q1,q2,q3,q4⟩:=(e3.look k).1 ds0 hls;rw[q1]at hu';cases hu';refine fin (F3:=F2) ?_ ⟨vs0,SqL.of (x12.hh _ _ q3)⟩ λa' vvs' z1 z2=>?_
         ·rw[ead]
          have:r.set i (some (.otl kvs))=r:=by obtain⟨h1,h2⟩:=ZzF.mp hb;rw[<-h2];exact ZB4 h1
          rw[this];exact At.grow ⟨fq,eb⟩ x12
         ·rw[e1]at z1
          cases z1;rw[x12.hh _ _ e2]at z2;cases z2;exact q1
        ·have hls:HM.Zg kvs k=none:=by
          cases hq:HM.Zg kvs k with
          | none=>rfl
          | some ds0=>obtain⟨l0,vs0,q1,_⟩:=(e3.look k).1 ds0 hq;rw[hno]at q1; cases q1
         have ead:=Ztl hls;cases r2 with
         | @ol l _ vs hl1 rs =>
          obtain rfl:vs=[]:=rs.nil_inv;have hHl:H l=none:=x1.hh.free (hn l (by simp)).2;obtain⟨aa2,vvs2,g1,g2,g3,g4,g5⟩:=eb.otlNew k x12 hb hl1 (hn l (by simp)).1 hHl;rw[e1]at g1;cases g1;rw[x12.hh _ _ e2]at g2;cases g2;have hne:l≠aa:=λz=>by rw[z,e2]at hHl; cases hHl
          refine fin (F3:=F2) (by rw[ead]; exact g5) ⟨[],SqL.of (by rw[ZD hne]; exact hl1)⟩ λa' vvs' z1 z2=>?_;rw[e1]at z1;cases z1;rw[ZH]at z2;cases z2;unfold ZaS at hno ⊢;rw[ZD4]at hno;rw[ZDv,hno];simp
       ·cases h
      ·cases h
     ·cases h
    ·cases h
   ·cases h
  ·cases h
 ·cases h
end
end HP
namespace HP
open PySem PyProof.Rows
def Ze4(xs:Array Nat):Prop:=xs.toList.Pairwise (· < ·)
theorem Ze4.lt{xs:Array Nat}(h:Ze4 xs){i k:Nat}(hk:k<xs.size)(hik:i<k):xs.getD i 0<xs.getD k 0:=by have:=ZDC.mp h i k (by simpa using ZBt hik hk) (by simpa using hk) hik;simpa [ZBB,hk,ZBt hik hk]using this
theorem ZkV{xs:Array Nat}(h:Ze4 xs)(j:Nat):∀(fuel lo hi:Nat),lo<=hi->hi<=xs.size->hi-lo<=fuel->(∀i,i<lo->xs.getD i 0<j)->(∀i,hi<=i->i<xs.size->j<=xs.getD i 0) ->
  ZCz xs j fuel lo hi<=xs.size/\(∀i,i<ZCz xs j fuel lo hi->xs.getD i 0<j)/\∀i,ZCz xs j fuel lo hi<=i->i<xs.size->j<=xs.getD i 0
 | 0,lo,hi,h1,h2,h3,a,b=>by
  obtain rfl:lo=hi:=by omega
  exact⟨h2,a,b⟩
 | fuel+1,lo,hi,h1,h2,h3,a,b=>by
  unfold ZCz;split
  ·rename_i hlt
   have hm:(lo+hi) / 2<xs.size:=by omega
   have e:xs.getD ((lo+hi) / 2) j=xs.getD ((lo+hi) / 2) 0:=by simp[ZBB,hm]
   dsimp only;rw[e]
   by_cases q:xs.getD ((lo+hi) / 2) 0<j
   ·rw[if_pos q]
    refine ZkV h j fuel ((lo+hi) / 2+1) hi (by omega) h2 (by omega) (λi hi'=>?_) b
    by_cases c:i=(lo+hi) / 2
    ·rw[c]; exact q
    ·exact ZBt (h.lt hm (by omega)) q
   ·rw[if_neg q]
    refine ZkV h j fuel lo ((lo+hi) / 2) (by omega) (by omega) (by omega) a (λi hi' hs=>?_)
    by_cases c:i=(lo+hi) / 2
    ·rw[c]; omega
    ·have:=h.lt hs (show(lo+hi) / 2<i by omega); omega
  ·obtain rfl:lo=hi:=by omega
   exact⟨h2,a,b⟩
theorem Zge{xs:Array Nat}(h:Ze4 xs)(j:Nat):ZzE xs j<=xs.size/\(∀i,i<ZzE xs j->xs.getD i 0<j)/\∀i,ZzE xs j<=i->i<xs.size->j<=xs.getD i 0 :=
 ZkV h j xs.size 0 xs.size (ZAP _) (ZzB _) (by omega) (λi hi=>by omega) λi h1 h2=>by omega
theorem ZrF{xs:Array Nat}(h:Ze4 xs){i:Nat}(hi:i<xs.size):ZzE xs (xs.getD i 0+1)=i+1:=by
 obtain⟨a,b,c⟩:=Zge h (xs.getD i 0+1);apply Nat.le_antisymm
 ·apply ZB9
  intro q;have h1:=b (i+1) q;have h2:=h.lt (show i+1<xs.size by omega) (ZBQ i);omega
 ·apply ZB9
  intro q;have h1:=c (ZzE xs (xs.getD i 0+1)) (ZzB _) (by omega)
  by_cases e:ZzE xs (xs.getD i 0+1)=i
  ·rw[e]at h1; omega
  ·have:=h.lt hi (show ZzE xs (xs.getD i 0+1)<i by omega); omega
theorem Zr7{xs:Array Nat}(h:Ze4 xs):ZzE xs 0=0:=by obtain⟨a,b,c⟩:=Zge h 0;apply Nat.eq_zero_of_not_pos;intro q;have:=b 0 q;omega
theorem Zkw{xs:Array Nat}(h:Ze4 xs){j:Nat}(hn:xs[ZzE xs j]?≠some j):Ze4 (ZzS xs (ZzE xs j) j):=by
 obtain⟨a,b,c⟩:=Zge h j;unfold Ze4;rw[ZCm];have gt:∀i,ZzE xs j<=i->i<xs.size->j<xs.getD i 0:=by
  intro i h1 h2
  by_cases e:ZzE xs j=i
  ·subst e
   have h3:=c _ h1 h2;have:xs.getD (ZzE xs j) 0≠j:=λq=>hn (by
    have z:xs[ZzE xs j]?=some (xs.getD (ZzE xs j) 0):=by simp[ZBB,h2]
    rw[z,q])
   omega
  ·have h3:=h.lt h2 (show ZzE xs j<i by omega)
   have h4:=c _ (ZzB _) (show ZzE xs j<xs.size by omega);omega
 rw[ZCa];refine⟨h.sublist (List.take_sublist ..),ZAc.mpr ⟨λx hx=>?_,h.sublist (List.drop_sublist ..)⟩,λx hx y hy=>?_⟩
 ·obtain⟨i,hi,rfl⟩:=ZBz hx
  rw[ZB8,ZzV]at hi;rw[List.getElem_drop];have:=gt (ZzE xs j+i) (by omega) (by omega);simpa [ZBB,show ZzE xs j+i<xs.size by omega]using this
 ·obtain⟨i,hi,rfl⟩:=ZBz hx
  rw[ZA3,ZzV]at hi;rw[List.getElem_take];have h1:=b i (by omega);have h1':xs.toList[i]'(by simp; omega)<j:=by simpa [ZBB,show i<xs.size by omega]using h1
  rcases ZzH.mp hy with e | e
  ·rw[e]; exact h1'
  ·obtain⟨k,hk,rfl⟩:=ZBz e
   rw[ZB8,ZzV]at hk;rw[List.getElem_drop];have h2:=gt (ZzE xs j+k) (by omega) (by omega);have h2':j<xs.toList[ZzE xs j+k]'(by simp; omega):=by simpa [ZBB,show ZzE xs j+k<xs.size by omega]using h2
   exact ZBt h1' h2'
theorem has_none(j:Nat):SetTable.has #[] j=false:=by simp[SetTable.has]
structure Tab(b:Bool)(t:SetTable):Prop where
 dum:t.dummies=#[]
 rise:Ze4 t.place
 led:t.led=b
 plain:t.plain=true
 low:∀j∈t.place.toList,j<8
 mask:t.mask=if t.place.size<=4 then 7 else 31
theorem Tab.fresh(b:Bool):Tab b (SetTable.fresh 0 0 b):=⟨rfl,.nil,rfl,rfl,λj hj=>by simp[SetTable.fresh]at hj,rfl⟩
theorem Tab.few{b:Bool}{t:SetTable}(h:Tab b t):t.place.size<=8:=by
 have key:∀(l:List Nat) (lo:Nat),l.Pairwise (· < ·)->(∀j∈l,lo<=j/\j<8)->l.length<=8-lo:=by
  intro l
  induction l with
  | nil=>intro lo _ _; simp
  | cons x l ih=>intro lo hp hb;have h1:=hb x (Zzt ..);have h2:=ih (x+1) (ZAc.mp hp).2 λy hy=>⟨(ZAc.mp hp).1 y hy,(hb y (Zzu _ hy)).2⟩;rw[ZzG]; omega
 have:=key t.place.toList 0 h.rise λj hj=>⟨ZAP _,h.low j hj⟩;simpa using this
theorem ZiD{b:Bool}{t:SetTable}(h:Tab b t){j:Nat}(hj:j ∉ t.place.toList):t.slot j=.empty/\t.place[ZzE t.place j]?≠some j:=by have q:t.place[ZzE t.place j]?≠some j:=λe=>hj (by rw[<-ZAp]at e;exact ZzU e);unfold SetTable.slot;dsimp only;rw[if_neg (by simpa using q),h.dum,has_none,if_neg (by simp)];exact⟨rfl,q⟩
theorem Zxa{b:Bool}{t:SetTable}(h:Tab b t)(j:Nat):t.put j=({ t with place:=ZzS t.place (ZzE t.place j) j },ZzE t.place j):=by
 unfold SetTable.put;dsimp only;rw[h.dum,has_none];cases t;have:=h.dum
 simp_all
theorem size_insert{α:Type}(xs:Array α)(p:Nat)(x:α):(ZzS xs p x).size=xs.size+1:=by rw[<-ZzV,(ZBg xs p x).length_eq];simp
theorem Zw4{b:Bool}{t:SetTable}(h:Tab b t){es:Array (Int × Value)}(he:es.size=t.place.size){j:Nat}(h8:j<8)(hj:j ∉ t.place.toList)(v:Value) :
  layNew t es (j:Int) v=(ZzS es (ZzE t.place j) ((j:Int),v),{ t with place:=ZzS t.place (ZzE t.place j) j },false,false):=by
 obtain⟨e1,e2⟩:=ZiD h hj;have hfew:=h.few;have hm:t.mask=7\/t.mask=31:=by rw[h.mask]; split<;>simp
 have hbits:ZEh (j:Int) % (t.mask+1)=j:=by
  have hb:ZEh (j:Int)=j:=by unfold ZEh; omega
  rw[hb];rcases hm with e | e<;>rw[e]<;>omega
 have hfree:t.freeSlot (j:Int)=some (j,false):=by
  unfold SetTable.freeSlot SetTable.probe;have hf:10*ZD9 t.mask=(10*ZD9 t.mask-1)+1:=by unfold ZD9; omega
  rw[hf];unfold SetTable.probe.go;have hp:(t.probeStart (j:Int)).j=j:=hbits;rw[hp,e1];rfl
 have hle:t.place.size<=7:=by
  apply ZB9;intro q;have h8':t.place.size=8:=by omega
  have:=ZAH (l₁:=j::t.place.toList) (l₂:=ZzA 8) (ZAh.mpr ⟨hj,h.rise.imp λq=>ZzQ q⟩) (λx hx=>by
   rcases ZzH.mp hx with e | e
   ·rw[e]; exact ZzP.mpr h8
   ·exact ZzP.mpr (h.low x e))
  simp at this;omega
 have hfit:(ZCL { t with place:=ZzS t.place (ZzE t.place j) j } (ZzS es (ZzE t.place j) ((j:Int),v)).size)=true:=by unfold ZCL ZCM;simp only[size_insert,he,h.dum];simp;rw[h.mask];split<;>omega
 unfold layNew;rw[hfree];dsimp only;rw[Zxa h];dsimp only;unfold SetTable.orStandIn;rw[hfit];rfl
theorem Tab.ins{b:Bool}{t:SetTable}(h:Tab b t){j:Nat}(h8:j<8)(hj:j ∉ t.place.toList)(hs:t.place.size≠4):Tab b { t with place:=ZzS t.place (ZzE t.place j) j }:=by
 obtain⟨_,e2⟩:=ZiD h hj;refine⟨h.dum,Zkw h.rise e2,h.led,h.plain,λx hx=>?_,?_⟩
 ·have:=(ZBg t.place (ZzE t.place j) j).mem_iff.mp hx
  rw[ZBM]at this;rcases ZzX.mp this with q | q
  ·exact h.low x q
  ·rw[ZzI.mp q]; exact h8
 ·dsimp only
  rw[size_insert,h.mask];split<;>split<;>omega
def ZlP:List (List Nat):=(ZzA 8).flatMap λa=>(ZzA 8).flatMap λb=>(ZzA 8).flatMap λc=>(ZzA 8).flatMap λd=>(ZzA 8).filterMap λe=>if a<b/\b<c/\c<d/\d<e then some [a,b,c,d,e]else none
theorem Zqq{l:List Nat}(h:l.Pairwise (· < ·))(h8:∀j∈l,j<8)(h5:l.length=5):l∈ZlP:=by
 match l,h5 with
 | [a,b,c,d,e],_=>simp at h h8;unfold ZlP;simp only[ZBR,ZzP,ZAA];refine⟨a,by omega,b,by omega,c,by omega,d,by omega,e,by omega,?_⟩;rw[if_pos (by omega)]
theorem Zxb:∀l∈ZlP,(SetTable.layClean 31 (l.map λ(n:Nat)=>(n:Int)).toArray).map (λowner=>(ZzA 32).filterMap λj=>(owner.getD j none).map (j,·))=some (l.zip (ZzA 5)):=by decide +kernel
end HP
namespace HP
open PySem PyProof.Rows
def Ze0(e:Int × Value):Int:=match e.2 with
 | .int n _=>n
 | _=>0
section
variable(prog:Program)(w:World)
def Zpa(es:List (Int × Value)):Prop:=∀e∈es,∃n t,e=((intKind prog w).hash n,ZBl n t)
def Zd1(h:Heap)(a:Addr)(L:List Int):Prop:=∃o es ep t,h.get? a=some o/\o.ExactSet/\o.data=.set es ep t/\Zpa prog w es.toList/\(es.toList.map Ze0).Perm L/\es.toList.map Ze0=t.place.toList.map (λ(j:Nat)=>(j:Int))/\Tab (!w.params.followText "set-order") t
end
section
variable{prog:Program}{w:World}{A:Around}{E:Value->Shared->Prop}{s:Shared}{a:Addr}{L:List Int}
theorem Zpa.elems{es:List (Int × Value)}(h:Zpa prog w es):ElemsOf (intKind prog w) es:=λe he=>by obtain⟨n,t,rfl⟩:=h e he;exact⟨⟨n,ZDD _ _ _ _,rfl⟩,rfl⟩
theorem Zd1.at'{h h':Heap}(x:Zd1 prog w h a L)(k:∀o,h.get? a=some o->h'.get? a=some o):Zd1 prog w h' a L:=let ⟨o,es,ep,t,e,r⟩:=x; ⟨o,es,ep,t,k o e,r⟩
def stp(L:List Int)(n:Int):List Int:=if L.contains n then L else L++[n]
theorem ZsD{k n:Int}{t:Tok}:(intKind prog w).is k (.int n t)=true↔n=k:=by
 constructor
 ·intro h
  exact(intKind prog w).inj _ _ _ (ZDD _ _ _ _) h
 ·rintro rfl; exact ZDD _ _ _ _
theorem ZiE:∀(j:Nat),j<8->(intKind prog w).hash (j:Int)=(j:Int)
 | 0,_=>rfl
 | 1,_=>rfl
 | 2,_=>rfl
 | 3,_=>rfl
 | 4,_=>rfl
 | 5,_=>rfl
 | 6,_=>rfl
 | 7,_=>rfl
 | n+8,h=>by omega
theorem Tab.fits{b:Bool}{t:SetTable}(h:Tab b t):t.fits t.place.size=true:=by have hf:=h.few;unfold ZCL ZCM;rw[h.dum,h.mask];simp;split<;>omega
theorem size_of{es:Array (Int × Value)}{t:SetTable}(h:es.toList.map Ze0=t.place.toList.map (λ(j:Nat)=>(j:Int))):es.size=t.place.size:=by have:=congrArg ZAi h;simpa using this
theorem Zlr{h:Heap}{o:Obj}{es es':Array (Int × Value)}{ep:Nat}{t t':SetTable}(ho:h.get? a=some o)(hex:o.ExactSet)(hd:o.data=.set es ep t)(hel:Zpa prog w es'.toList)(hp:(es'.toList.map Ze0).Perm L)
  (hs:es'.toList.map Ze0=t'.place.toList.map (λ(j:Nat)=>(j:Int))) (ht:Tab (!w.params.followText "set-order") t') :
  (h.update a (ZCt es' t')).get? a=some { o with data:=.set es' (ep+1) t' }/\Zd1 prog w (h.update a (ZCt es' t')) a L:=by
 have hg:(h.update a (ZCt es' t')).get? a=some { o with data:=.set es' (ep+1) t' }:=by
  have:=ZAC (ZCt es' t') ho (by rw[putSet_of es' t' hd]; rfl)
  rwa [putSet_of es' t' hd]at this
 exact⟨hg,_,es',ep+1,t',hg,hex,rfl,hel,hp,hs,ht⟩
theorem Zuf{b:Bool}{t:SetTable}{es:Array (Int × Value)}(hr:Ze4 t.place)(h8:∀j∈t.place.toList,j<8)(h5:t.place.size=5)(he:es.map (·.1)=(t.place.toList.map (λ(j:Nat)=>(j:Int))).toArray)(hl:t.led=b)(hp:t.plain=true) :
  ∃t',relayAll t es 20=(es,t',false)/\t'.place=t.place/\Tab b t':=by
 have hc:=Zxb _ (Zqq hr h8 (by simpa using h5));obtain⟨owner,o1,o2⟩:=Zzs.mp hc;have hsz:es.size=5:=by have:=congrArg Array.size he;simp at this;omega
 have hlen:t.place.toList.length=5:=by simpa using h5
 have z1:(t.place.toList.zip (ZzA 5)).map (·.1)=t.place.toList:=List.map_fst_zip (by rw[hlen]; simp);have z2:(t.place.toList.zip (ZzA 5)).map (·.2)=ZzA 5:=List.map_snd_zip (by rw[hlen]; simp);have hrl:t.relaid (es.map (·.1)) 20=some ({ mask:=31,place:=t.place,dummies:=#[],finger:=t.finger,led:=t.led,moves:=t.movedTo 31,plain:=t.plain },(ZzA 5).toArray):=by
  unfold SetTable.relaid SetTable.laid;have e31:SetTable.sizeAbove 20-1=31:=by decide
  rw[e31,he,o1];show some _=some _;rw[o2,z1,z2]
 refine⟨{ mask:=31,place:=t.place,dummies:=#[],finger:=t.finger,led:=t.led,moves:=t.movedTo 31,plain:=t.plain },?_,rfl,⟨rfl,hr,hl,hp,h8,?_⟩⟩
 ·unfold relayAll
  rw[hrl];dsimp only;have ef:(ZzA 5).toArray.filterMap (λx=>es[x]?)=es:=by apply Array.toList_inj.mp;rw[Array.toList_filterMap];have:=filterMap_getElem?_range es;rw[hsz]at this;simpa using this
  rw[ef];have ec:coversAll (ZzA 5).toArray es.size=true:=by rw[hsz]; decide
  have et:ZCL { mask:=31,place:=t.place,dummies:=#[],finger:=t.finger,led:=t.led,moves:=t.movedTo 31,plain:=t.plain } es.size=true:=by unfold ZCL ZCM;simp[h5,hsz]
  rw[ec,et];rfl
 ·dsimp only
  rw[h5];rfl
theorem ZuU{j:Nat}{tk:Tok}{Q:Bool->Shared->Prop}(h8:j<8)(hX:Zd1 prog w s.heap a L)
  (h:∀b h',ZBq a s.heap h'->Zd1 prog w h' a (stp L j)->Q b { s with heap:=h' }) :
  wpAny (model prog w) A (setAddHashed a (.int j tk) ((intKind prog w).hash j)) Q E s:=by
 obtain⟨o,es,ep,t,ho,hex,hd,hen,hpm,hpl,ht⟩:=hX;have hel:=hen.elems;have hsc:(ZBl (j:Int) tk).scannable=true:=rfl;have hkey:(intKind prog w).is (j:Int) (.int j tk)=true:=ZDD _ _ _ _;have hsz:=size_of hpl;have hfew:=ht.few;have hf:t.fits es.size=true:=by rw[hsz]; exact ht.fits
 have hsb:scanBound=4096:=rfl;have hb:es.size<scanBound:=by omega
 unfold setAddHashed setAddHashedIn;refine ZAE (Zzq (ZCA ho hd hf ?_));dsimp only;rw[byScan_of hsc hb hel];simp only[↓reduceIte];unfold setAddByScan;refine Zzq (Zzq (wpAny_rule (Zzq (wpAny_setScan_of hkey ho hd hf hel ?_))));cases hr:List.findIdx? (λe=>(intKind prog w).is (j:Int) e.2) es.toList with
 | some i =>
  dsimp only;obtain⟨hi,hpi,_⟩:=List.findIdx?_eq_some_iff_getElem.mp hr;have hmem:(j:Int)∈L:=by refine hpm.mem_iff.mp (Zzx.mpr ⟨es.toList[i],ZA4 hi,?_⟩);obtain⟨m,u,e⟩:=hen _ (ZA4 hi);rw[e]at hpi ⊢;exact ZsD.mp hpi
  refine Zzv (Zzv ?_);have e:s={ s with heap:=s.heap }:=by cases s; rfl
  have q:=h false s.heap (ZEt a s.heap) ⟨o,es,ep,t,ho,hex,hd,hen,by unfold stp; rw[if_pos (by simpa using hmem)]; exact hpm,hpl,ht⟩;rw[e];exact q
 | none =>
  dsimp only;have hne:∀e∈es.toList,Ze0 e≠(j:Int):=λe he hv=>by obtain⟨m,u,e1⟩:=hen e he;have no:=List.findIdx?_eq_none_iff.mp hr e he;rw[e1]at no hv;have yes:(intKind prog w).is (j:Int) (.int m u)=true:=ZsD.mpr hv;exact absurd (yes.symm.trans no) (by simp)
  have hnm:(j:Int) ∉ L:=λhm=>by obtain⟨e,he,hv⟩:=Zzx.mp (hpm.mem_iff.mpr hm);exact hne e he hv
  have hj:j ∉ t.place.toList:=λhm=>by
   have:(j:Int)∈es.toList.map Ze0:=by rw[hpl]; exact Zzx.mpr ⟨j,hm,rfl⟩
   obtain⟨e,he,hv⟩:=Zzx.mp this;exact hne e he hv
  obtain⟨mk,pl,dm,fg,ld,mv,pn⟩:=t;obtain rfl:pn=true:=ht.plain;obtain rfl:dm=#[]:=ht.dum;rw[ZiE j h8,Zw4 ht hsz h8 hj];dsimp only;obtain⟨_,hnj⟩:=ZiD ht hj;obtain⟨hle,_,_⟩:=Zge ht.rise j;have hen1:Zpa prog w (ZzS es (ZzE pl j) ((j:Int),ZBl j tk)).toList:=λe he=>by
   have:=(ZBg _ _ _).mem_iff.mp he;rw[ZBM]at this;rcases ZzX.mp this with q | q
   ·exact hen e q
   ·exact⟨j,tk,by rw[ZiE j h8]; exact ZzI.mp q⟩
  have hpm1:((ZzS es (ZzE pl j) ((j:Int),ZBl j tk)).toList.map Ze0).Perm (stp L j):=by unfold stp;rw[if_neg (by simpa using hnm)];refine((ZBg _ _ _).map Ze0).trans ?_;rw[ZBM,Zz0];exact hpm.append_right _
  have hpl1:(ZzS es (ZzE pl j) ((j:Int),ZBl j tk)).toList.map Ze0=(ZzS pl (ZzE pl j) j).toList.map (λ(j:Nat)=>(j:Int)):=by rw[ZCm,ZCm,Zz0,Zz0,Zzw,Zzw,List.map_take,List.map_take,List.map_drop,List.map_drop,hpl];rfl
  have hs1:(ZzS es (ZzE pl j) ((j:Int),ZBl j tk)).size=es.size+1:=size_insert _ _ _;generalize hE:ZzS es (ZzE pl j) ((j:Int),ZBl j tk)=es1 at hen1 hpm1 hpl1 hs1 ⊢;have hz1:es1.size<=sizeLine:=by rw[ZAT]; omega
  refine Zzq (Zzv ?_);simp only[↓reduceIte];refine Zzq ?_;rw[hashByValue_scannable 8 hsc];refine Zzv ?_;rw[show plainKind (ZBl (j:Int) tk)=true from rfl];simp only[↓reduceIte];show wpAny (model prog w) A (do
    storeSet a es1 (⟨mk,ZzS pl (ZzE pl j) j,#[],fg,ld,mv,true⟩:SetTable)
    if(!false&&ZCb (⟨mk,ZzS pl (ZzE pl j) j,#[],fg,ld,mv,true⟩:SetTable))=true then _ else _) _ E s
  refine Zzq (wpAny_storeSet_of ho hd ?_ hz1);have hsb1:=ZAB s.heap a (ZCt es1 (⟨mk,ZzS pl (ZzE pl j) j,#[],fg,ld,mv,true⟩:SetTable))
  by_cases h4:pl.size=4
  ·have hm:mk=7:=by have q:=ht.mask; dsimp only at q; rw[h4]at q; exact q
   have htf:ZCb (⟨mk,ZzS pl (ZzE pl j) j,#[],fg,ld,mv,true⟩:SetTable)=true:=by unfold ZCb ZCM;simp[size_insert,h4,ht.dum,hm]
   have hg:(s.heap.update a (ZCt es1 (⟨mk,ZzS pl (ZzE pl j) j,#[],fg,ld,mv,true⟩:SetTable))).get? a=some { o with data:=.set es1 (ep+1) (⟨mk,ZzS pl (ZzE pl j) j,#[],fg,ld,mv,true⟩:SetTable) }:=by
    have:=ZAC (ZCt es1 (⟨mk,ZzS pl (ZzE pl j) j,#[],fg,ld,mv,true⟩:SetTable)) ho (by rw[putSet_of _ _ hd]; rfl)
    rwa [putSet_of _ _ hd]at this
   have hh:es1.map (·.1)=((ZzS pl (ZzE pl j) j).toList.map (λ(j:Nat)=>(j:Int))).toArray:=by
    apply Array.toList_inj.mp;rw[Array.toList_map,<-hpl1];refine ZAJ λe he=>?_;obtain⟨m,u,e1⟩:=hen1 e he;have hm:m∈es1.toList.map Ze0:=Zzx.mpr ⟨e,he,by rw[e1]; rfl⟩;rw[hpl1]at hm;obtain⟨k,hk,rfl⟩:=Zzx.mp hm;have hk8:k<8:=by
     have:=(ZBg _ _ _).mem_iff.mp hk;rw[ZBM]at this;rcases ZzX.mp this with q | q
     ·exact ht.low k q
     ·rw[ZzI.mp q]; exact h8
    rw[e1];exact ZiE (prog:=prog) (w:=w) k hk8
   obtain⟨t',r1,r2,r3⟩:=Zuf (b:=!w.params.followText "set-order") (t:=(⟨mk,ZzS pl (ZzE pl j) j,#[],fg,ld,mv,true⟩:SetTable)) (es:=es1) (Zkw ht.rise hnj)
    (λk hk=>by
     have:=(ZBg _ _ _).mem_iff.mp hk;rw[ZBM]at this;rcases ZzX.mp this with q | q
     ·exact ht.low k q
     ·rw[ZzI.mp q]; exact h8) (by dsimp only; rw[size_insert,h4]) hh ht.led ht.plain
   have hgr:SetTable.grown es1.size=20:=by rw[hs1,hsz,h4]; rfl
   rw[htf];simp only[Bool.not_false,Bool.and_self,↓reduceIte];rw[hgr,r1];dsimp only;refine Zzq (Zzv (Zzq (wpAny_storeSet_of hg rfl ?_ hz1)));obtain⟨_,hS2⟩:=Zlr (prog:=prog) (t':=t') hg hex rfl hen1 hpm1 (by rw[r2]; exact hpl1) r3;exact Zzv (Zzv (h true _ (hsb1.trans (ZAB _ a _)) hS2))
  ·have htf:ZCb (⟨mk,ZzS pl (ZzE pl j) j,#[],fg,ld,mv,true⟩:SetTable)=false:=by
    unfold ZCb ZCM;have q:=ht.mask;dsimp only at q;simp only[size_insert];rw[q];simp;have:=hfew;dsimp only at this;split<;>omega
   rw[htf];simp only[Bool.and_false,ZBn,↓reduceIte];obtain⟨_,hS1⟩:=Zlr (prog:=prog) (t':=(⟨mk,ZzS pl (ZzE pl j) j,#[],fg,ld,mv,true⟩:SetTable)) ho hex hd hen1 hpm1 hpl1 (ht.ins h8 hj h4);exact Zzv (Zzv (h true _ hsb1 hS1))
end
section
variable{prog:Program}{w:World}{A:Around}{E:Value->Shared->Prop}{s:Shared}
abbrev Zdo(w:World):Obj:={ cls:=.type "set",dict:=none,data:=.set #[] 0 (.fresh 0 0 (!w.params.followText "set-order")) }
theorem Znd(v:Value){Q₁:Value->Shared->Prop}(h:Q₁ (.ref s.heap.objs.size) { s with heap:=s.heap.push (Zdo w) }) :
  codeAny (model prog w) A (.call (.builtin "set.__new__") ⟨[.type "set",v],[]⟩) (wants Q₁ E) s:=by
 refine codeAny_of_tree ?_;show wpAny _ A.in1 (do checkBuiltinCall "set.__new__" ⟨[.type "set",v],[]⟩; again (.builtin "set.__new__" ⟨[.type "set",v],[]⟩)) _ _ s;refine Zzq (ZD5 (PySem.F.newCall_set_1 v) (Zzv ⟨ZBK ZEa _,ZAQ PySem.F.entry_set_new ?_⟩));rw[ZAz ZEa _];unfold Builtin.«set.__new__» Builtin.Frozenset.newClass;have hsub:=sub_set_self;obtain⟨hp,g,d,tk,os⟩:=s;dsimp only
 wp_walk
 refine ZCc (Zzv ?_);dsimp only;simp only[newObj];exact Zzq (wpAny_alloc (Zzv (Zzv h)))
theorem Zu4(h:Heap):Zd1 prog w (h.push (Zdo w)) h.objs.size [] :=
 ⟨_,#[],0,_,ZzM _ rfl,⟨rfl,rfl,rfl⟩,rfl,λe he=>by simp at he,.nil,rfl,Tab.fresh _⟩
theorem ZiF:∀(l acc:List Int) (x:Int),HM.dedup acc (l++[x])=stp (HM.dedup acc l) x
 | [],acc,x=>by show HM.dedup acc [x]=stp acc x;unfold HM.dedup stp;split<;>rfl
 | y::l,acc,x=>by
  show HM.dedup acc (y::(l++[x]))=_;unfold HM.dedup;split
  ·exact ZiF l acc x
  ·exact ZiF l _ x
variable{R:Result->Shared->Prop}{I:Addr}{fp wr:List Addr}{G:Array GenState->Array GenState->Prop}{P:Nat->Value->Prop}{St:Nat->Shared->Prop}
theorem ZsG{ns:List Int}(W:WalksS prog w A.in1 I fp wr G ns.length P St)(S:Addr)(hSf:S ∉ fp)(hval:∀i v,P i v->∃t,v=.int (ns.getD i 0) t)(hb:∀n∈ns,0<=n/\n<8) :
  ∀(k i:Nat) (s:Shared),ns.length-i=k->i<=ns.length->St i s->Zd1 prog w s.heap S (HM.dedup [] (ns.take i)) ->
   (∀s',Moved (S::wr) G s s'->Zd1 prog w s'.heap S (HM.dedup [] ns)->R (.ok (.ret .none)) s') ->
   codeAny (model prog w) A (.builtin "set.update.loop" ⟨[.ref S,.ref I],[]⟩) R s:=by
 have hSw:S ∉ wr:=λh=>hSf (W.sub _ h);have hsub:∀b∈wr,b∈S::wr:=λb hb=>Zzu _ hb;intro k
 induction k with
 | zero =>
  intro i s hk hi hst hS hR;obtain rfl:i=ns.length:=by omega
  rw[List.take_length]at hS;refine ZAQ F.entry_set_update_loop ?_;rw[ZAz F.plain_set_update_loop _];show wpAny _ A.in1 (pyNext (.ref I) >>= _) _ _ s;refine Zzq (W.done s _ _ hst λs' hm=>?_);show wpAny _ A.in1 (ret ZAy) _ _ s';exact Zzv (hR s' (hm.mono hsub) (hS.at' λo e=>hm.heap S o hSw e))
 | succ k ih =>
  intro i s hk hi hst hS hR;have hlt:i<ns.length:=by omega
  refine ZAQ F.entry_set_update_loop ?_;rw[ZAz F.plain_set_update_loop _];show wpAny _ A.in1 (pyNext (.ref I) >>= _) _ _ s;refine Zzq (W.item i s _ _ hlt hst λv s' hP hst' hm=>?_);obtain⟨t,rfl⟩:=hval i v hP;have hS':=hS.at' (h':=s'.heap) λo e=>hm.heap S o hSw e;show wpAny _ A.in1 (holding [ZBl (ns.getD i 0) t] (setAdd S (.int (ns.getD i 0) t)) >>= _) _ _ s';refine Zzq (ZAE ?_);unfold setAdd;refine ZAE (Zzq ((intKind prog w).pyHash (k:=ns.getD i 0) (ZDD _ _ _ _) ?_));have hbi:=hb (ns.getD i 0) (by rw[ZAZ,ZzD hlt]; exact ZA4 hlt);obtain⟨j,ej⟩:∃j:Nat,ns.getD i 0=(j:Int):=⟨(ns.getD i 0).toNat,by omega⟩;have e:stp (HM.dedup [] (ns.take i)) (ns.getD i 0)=HM.dedup [] (ns.take (i+1)):=by rw[<-ZiF,List.take_succ,ZAZ];simp[hlt]
  rw[ej]at e hbi ⊢;refine ZuU (s:={ s' with toks:=s'.toks+1 }) (by omega) hS' λb h' hsb hS2=>?_;rw[e]at hS2;refine Zzv ⟨ZBK F.plain_set_update_loop _,ih (i+1) _ (by omega) hlt (W.frame _ s' _ _ hst' (Nat.le_succ _) λb hb o e=>?_) hS2 λs'' hm'' hS''=>?_⟩
  ·rw[hsb.2 b (λh:b=S=>hSf (by rw[<-h]; exact hb))]; exact e
  ·refine hR s'' (Moved.trans W.gtrans ((hm.mono hsub).then_heap (Nat.le_succ _) λb o hb e=>?_) hm'') hS''
   rw[hsb.2 b (λh:b=S=>hb (by rw[h]; exact Zzt))]; exact e
set_option maxHeartbeats 3200000 in
theorem Ztx{l:Addr}{items:Array Value}{ns:List Int}{Q:Value->Shared->Prop}(hh:A.handled=none)(hl:s.heap.IsList l items)(hi:IntsAre items.toList ns)(hb:∀n∈ns,0<=n/\n<8)
  (h:∀(h':Heap) (tk:Nat),Zd1 prog w h' s.heap.objs.size (HM.dedup [] ns)->(∀b o,b<s.heap.objs.size->s.heap.get? b=some o->h'.get? b=some o)->Q (.ref s.heap.objs.size) { s with heap:=h',toks:=tk }) :
  wpAny (model prog w) A (call (.type "set") [.ref l]) Q E s:=by
 have hsz:items.size=ns.length:=by rw[<-hi.length,ZzV]
 obtain⟨c,tl,hmro⟩:=ZA5.mro;have hmade:=ZA5.made;have hsub:=ZA5.sub;refine ZDz (codeAny_of_tree ?_);show wpAny _ _ (callAny (.type "set") _) _ _ _;refine Zzv ⟨Code.quiet_builtin _ (by decide +kernel),ZAQ PySem.F.entry_type_call ?_⟩;rw[Around.under_plain (weight_type_call_type "set" [.ref l] []) rfl];have h1:=ZA5.notType;have h2:=ZA5.canCreate;have hct:=PySem.F.typeCall_set_1 (.ref l)
 repeat (any_goals (first | assumption | wp_step))
 refine ZBr (Znd (.ref l) (E:=E) (Q₁:=λobj s₁=>obj=.ref s.heap.objs.size/\s₁={ s with heap:=s.heap.push (Zdo w) }) ⟨rfl,rfl⟩) λr s₁ hr=>?_;cases r with
 | error e=>exact hr
 | ok fl =>
  cases fl with
  | ret obj =>
   obtain⟨rfl,rfl⟩:=hr;have hX:=Zu4 (prog:=prog) (w:=w) s.heap;have hS:(s.heap.push (Zdo w)).get? s.heap.objs.size=some (Zdo w):=ZzM _ rfl;have hT:Shared.TypeIs { s with heap:=s.heap.push (Zdo w) } (.ref s.heap.objs.size) "set":=⟨_,hS,rfl⟩;have hli:=ZA5.init.lookup;have hbi:=ZA5.init.bind (.ref s.heap.objs.size)
   repeat (any_goals (first | assumption | wp_step))
   refine ZBr (codeAny_call_builtin (R:=wants (λr s₂=>r=.none/\∃h' tk,s₂={ s with heap:=h',toks:=tk }/\Zd1 prog w h' s.heap.objs.size (HM.dedup [] ns) /\
     (∀b o,b<s.heap.objs.size->s.heap.get? b=some o->h'.get? b=some o)) E) ZA5.init.plain PySem.F.entry_set_init (check_set_init_1 hT ?_)) λr₂ s₂ hr₂=>?_
   ·obtain⟨⟨ocls,odict,odata,oslots⟩,hol,hcl,nl,hdl⟩:=hl
    simp only at hcl hdl;subst hcl; subst hdl;have hol':(s.heap.push (Zdo w)).get? l=some { cls:=.type "list",dict:=odict,data:=.seq items nl,slots:=oslots }:=Zzy _ hol;have hsls:=PySem.F.sub_list_set;have hslf:=PySem.F.sub_list_frozenset;have hne:(ZCo "list" == ZCo "dict")=false:=by decide
    have hl1:(s.heap.push (Zdo w)).IsList l items:=⟨_,hol',rfl,nl,rfl⟩;unfold Builtin.«set.__init__» noKeywords Builtin.Frozenset.updateFrom;generalize hPI:pyIter=PI
    wp_walk
    subst hPI;refine ZDu hl1 (Zzq (wpAny_runValue ?_));have hlS:l<s.heap.objs.size:=ZzJ hol;have hh3:A.in1.in1.in1.handled=none:=by simp[hh]
    have hneI:l≠(s.heap.push (Zdo w)).objs.size:=by rw[ZB5]; exact ZzQ (ZB3 hlS)
    have hSf:s.heap.objs.size ∉ [(s.heap.push (Zdo w)).objs.size,l]:=by rw[ZB5]; simp only[ZzH,ZzI,List.not_mem_nil,or_false,not_or];exact⟨ZzQ (ZBQ _),ZCj hlS⟩
    have Wl:=(Walks.list (prog:=prog) (w:=w) hh3 _ l hneI items).toS;rw[hsz]at Wl;refine ZsG Wl s.heap.objs.size hSf (λi v hv=>IntsAre.int_at hi i v (by rw[ZAp]; exact hv)) hb (ns.length-0) 0 _ (by omega) (ZAP _)
     ⟨⟨_,ZzM _ rfl,rfl,rfl⟩,hl1.push _⟩ (hX.at' λo e=>Zzy _ e) λs' hm hS'=>?_
    obtain⟨h',g',d',tk',os'⟩:=s';have eg:g'=s.gens:=hm.gens;have ed:d'=s.drawn:=hm.drawn;have eo:os'=s.os:=hm.os;subst eg; subst ed; subst eo
    show wpAny _ _ _ _ _ _;refine Zzv ?_;show wpAny _ _ (ret ZAy) _ _ _;refine Zzv ⟨rfl,h',tk',rfl,hS',λb o hb e=>?_⟩;refine hm.heap b o ?_ (Zzy _ (Zzy _ e));simp only[ZzH,ZzI,List.not_mem_nil,or_false,not_or];exact⟨ZzQ hb,by rw[ZB5]; exact ZzQ (ZB3 hb)⟩
   ·cases r₂ with
    | error e=>exact hr₂
    | ok fl₂ =>
     cases fl₂ with
     | ret r =>
      obtain⟨rfl,h',tk,rfl,hS',hk'⟩:=hr₂
      repeat (any_goals (first | assumption | wp_step))
      exact h _ _ hS' hk'
     | _=>exact hr₂.elim
  | _=>exact hr.elim
end
end HP
namespace HP
open PySem PyProof.Rows
theorem Zc1:Slot "set_iterator" "__next__" "set_iterator.__next__" :=
 .of (owner:="set_iterator") (n:="__next__") (by rw[typeLookup_type,builtinLookup_eq_fast]; kernel_rfl) (by decide +kernel) (by decide +kernel) (by decide +kernel)
  (by first | exact .inl (by decide +kernel) | exact .inr (by decide +kernel)) (by rw[isSubtype_type]; kernel_rfl)
theorem ZiT:entryFor table "set_iterator.__next__" = some Builtin.«set_iterator.__next__»:=entryFor_of_tree (by kernel_rfl)
theorem ZjK:Slot "set_iterator" "__iter__" "set_iterator.__iter__" :=
 .of (owner:="set_iterator") (n:="__iter__") (by rw[typeLookup_type,builtinLookup_eq_fast]; kernel_rfl) (by decide +kernel) (by decide +kernel) (by decide +kernel)
  (by first | exact .inl (by decide +kernel) | exact .inr (by decide +kernel)) (by rw[isSubtype_type]; kernel_rfl)
theorem Znk:entryFor table "set_iterator.__iter__" = some Builtin.«dict_keyiterator.__iter__» :=
 entryFor_alias (id':="dict_keyiterator.__iter__") (by kernel_rfl) rfl (by decide +kernel) (by kernel_rfl)
theorem Zlv:entryFor table "set.__iter__" = some Builtin.«frozenset.__iter__» :=
 entryFor_alias (id':="frozenset.__iter__") (by kernel_rfl) rfl (by decide +kernel) (by kernel_rfl)
theorem Zo8:Manifest.owners.lookup (String.ofList ['r','o','t','a','r','e','t','i','_','t','e','s'].reverse)=some Manifest.sig_set_iterator:=by kernel_rfl
theorem Zjl(a:Value):argsOk "set_iterator.__next__" ⟨[a],[]⟩:=by unfold argsOk; rw[signature?_of (id:="set_iterator.__next__") (n:=['_','_','t','x','e','n','_','_']) (o:=['r','o','t','a','r','e','t','i','_','t','e','s']) (by kernel_rfl) Zo8]; kernel_rfl
theorem ZpF(a:Value):argsOk "set_iterator.__iter__" ⟨[a],[]⟩:=by unfold argsOk; rw[signature?_of (id:="set_iterator.__iter__") (n:=['_','_','r','e','t','i','_','_']) (o:=['r','o','t','a','r','e','t','i','_','t','e','s']) (by kernel_rfl) Zo8]; kernel_rfl
theorem Zlt{α:Type}:∀(l:List α) (i:Nat) (h:i<l.length),(l[i]::l.eraseIdx i).Perm l
 | x::l,0,_=>.refl _
 | x::l,i+1,h=>by
  have h':i<l.length:=by simpa using h
  show(l[i]::x::l.eraseIdx i).Perm (x::l);exact(List.Perm.swap x l[i] _).trans ((Zlt l i h').cons x)
theorem Zmz{α:Type}(next:Nat->Nat):∀(n k:Nat) (left:List α) (out:Array α),left.length=n->(ZDV.go next n k left out).toList.Perm (out.toList++left)
 | 0,k,left,out,h=>by rw[ZB1 h,Zz8];exact .refl _
 | n+1,k,left,out,h=>by
  have hl:next k % left.length<left.length:=Nat.mod_lt _ (by omega)
  unfold ZDV.go;rw[ZzD hl];dsimp only;refine(Zmz next n (k+1) _ _ (by rw[List.length_eraseIdx_of_lt hl]; omega)).trans ?_
  rw[ZBM,ZAM];refine List.Perm.append_left _ ?_;exact Zlt left _ hl
theorem Zl2{α:Type}(next:Nat->Nat)(xs:Array α):(ZDV next xs).toList.Perm xs.toList:=by
 have:=Zmz next xs.size 0 xs.toList #[] (by simp)
 simpa [ZDV]using this
end HP
namespace HP
open PySem PyProof.Rows
structure Ze1(w:World)(h:Heap)(a:Addr)(es:Array (Int × Value))(ep:Nat)(t:SetTable):Prop where
 obj:∃o,h.get? a=some o/\o.ExactSet/\o.data=.set es ep t
 fit:t.fits es.size=true
 siz:es.size=t.place.size
 tab:Tab (!w.params.followText "set-order") t
theorem Ze1.at'{w:World}{h h':Heap}{a:Addr}{es:Array (Int × Value)}{ep:Nat}{t:SetTable}(x:Ze1 w h a es ep t)(k:∀o,h.get? a=some o->h'.get? a=some o):Ze1 w h' a es ep t :=
 ⟨let ⟨o,e,r⟩:=x.obj; ⟨o,k o e,r⟩,x.fit,x.siz,x.tab⟩
def Zeo(w:World)(a:Addr)(es:Array (Int × Value))(ep:Nat):Array (Int × Value):=if w.params.followText "set-order" then ZDV (w.params.setOrder a ep) es else es
theorem Zjn(w:World)(a:Addr)(es:Array (Int × Value))(ep:Nat):(Zeo w a es ep).toList.Perm es.toList:=by
 unfold Zeo; split
 ·exact Zl2 _ _
 ·exact .refl _
theorem ZjB(w:World)(a:Addr)(es:Array (Int × Value))(ep:Nat):(Zeo w a es ep).size=es.size:=by have:=(Zjn w a es ep).length_eq;simpa using this
def Zhz(h:Heap)(it a:Addr)(slot i n ep:Nat):Prop:=∃o,h.get? it=some o/\o.cls=.type "set_iterator"/\o.data=.fields #[.int slot 0,.int i 0,.ref a,.int n 0,.int ep 0]
theorem Zhz.typeIs{s:Shared}{it a:Addr}{slot i n ep:Nat}(x:Zhz s.heap it a slot i n ep):s.TypeIs (.ref it) "set_iterator":=let ⟨o,ho,hc,_⟩:=x; ⟨o,ho,hc⟩
theorem Zhz.at'{h h':Heap}{it a:Addr}{slot i n ep:Nat}(x:Zhz h it a slot i n ep)(k:∀o,h.get? it=some o->h'.get? it=some o):Zhz h' it a slot i n ep:=let ⟨o,e,r⟩:=x; ⟨o,k o e,r⟩
section
variable{prog:Program}{w:World}{A:Around}{E:Value->Shared->Prop}{s:Shared}{it a:Addr}{es:Array (Int × Value)}{ep:Nat}{t:SetTable}
theorem Zun{Q:Value->Shared->Prop}(x:Ze1 w s.heap a es ep t)
  (hQ:Q (.ref s.heap.objs.size) { s with heap:=s.heap.push { cls:=.type "set_iterator",data:=.fields #[.int 0 0,.int 0 0,.ref a,.int es.size 0,.int ep 0] } }) :
  wpAny (model prog w) A (pyIter (.ref a)) Q E s:=by
 obtain⟨o,ho,hex,hd⟩:=x.obj;have hT:s.TypeIs (.ref a) "set":=⟨o,ho,hex.1⟩;refine ZDw hT ZEb (ZAR ZEb hT Zlv ?_ (PySem.F.args_set_iter_1 _));unfold Builtin.«frozenset.__iter__» Builtin.Frozenset.slot0 slotArgs Builtin.Frozenset.addrOf Builtin.Frozenset.sizeOf;refine Zzq (Zzq (Zzv (Zzv ?_)));dsimp only;refine Zzq (Zzq (ZC8 ho hd x.fit (Zzv ?_)));have hdr:∀{R:Bool->Shared->Prop} {A':Around} {E':Value->Shared->Prop},R false s->wpAny (model prog w) A' (setDrawn a) R E' s:=λ{R A' E'} hR=>by unfold setDrawn setsByText;refine Zzq (ZCA ho hd x.fit (Zzq (Zzq (ZCc (Zzv (Zzv ?_))))));obtain⟨mk,pl,dm,fg,ld,mv,pn⟩:=t;obtain rfl:pn=true:=x.tab.plain;show R (!_&&(!true&&_)) s;simpa using hR
 refine Zzq (hdr ?_);rw[if_neg (by simp)];refine Zzq (Zzv (Zzq (wpAny_setEpoch_of ho hd x.fit ?_)));show wpAny (model prog w) A.in1 (newFields "set_iterator" [rawInt 0,rawInt 0,ZAo a,rawInt (es.size:Int),rawInt (ep:Int)] >>= _) _ E s;refine Zzq (ZAw (Zzv ⟨_,rfl,"set_iterator",_,⟨_,ZzM _ rfl,rfl⟩,Zc1.lookup,?_⟩));simpa [rawInt]using hQ
theorem Zkt{slot i:Nat}{R:Option (Value × Nat)->Shared->Prop}(x:Ze1 w s.heap a es ep t)(hs:w.params.followText "set-order" = false->ZzE t.place slot=i)
  (hR:R ((Zeo w a es ep)[i]?.map λe=>(e.2,if w.params.followText "set-order" then slot else t.place.getD i 0+1)) s):wpAny (model prog w) A (setNext a slot i ep) R E s:=by
 obtain⟨o,ho,hex,hd⟩:=x.obj;unfold setNext setsByText;refine Zzq (ZCA ho hd x.fit ?_);dsimp only;refine Zzq (Zzq (ZCc (Zzv ?_)));dsimp only;cases hb:w.params.followText "set-order" with
 | true=>have hb':(model prog w).w.params.followText "set-order" = true:=hb;rw[hb',if_pos rfl];unfold Zeo at hR;rw[hb,if_pos rfl]at hR;simp only[if_pos]at hR;refine ZBF (λq=>absurd q (by simp)) λ_=>?_;unfold setWalk setsByText;refine Zzq (Zzq (ZCA ho hd x.fit ?_));dsimp only;refine Zzq (Zzq (ZCc (Zzv ?_)));dsimp only;rw[hb',if_pos rfl];exact Zzq (ZCc (Zzv (Zzv hR)))
 | false =>
  have hb':(model prog w).w.params.followText "set-order" = false:=hb;rw[hb',if_neg (by simp)];unfold Zeo at hR;rw[hb]at hR;simp only[ZBn,if_false]at hR;have hi:=hs hb;have hled:t.led=true:=by rw[x.tab.led,hb]; rfl
  have hsz:=x.siz;obtain⟨mk,pl,dm,fg,ld,mv,pn⟩:=t;obtain rfl:pn=true:=x.tab.plain;obtain rfl:ld=true:=hled;refine ZBF (λq=>absurd (show(!true&&_)=true from q) (by simp)) λ_=>?_;refine Zzq ?_;refine ZBF (λq=>absurd (show(!true&&_)=true from q) (by simp)) λ_=>?_;refine Zzv ?_;dsimp only at hi hsz ⊢;rw[hi];refine Zzv ?_
  by_cases hlt:i<es.size
  ·have h1:es[i]?=some es[i]:=ZBN hlt
   have h2:pl[i]?=some (pl.getD i 0):=by simp[ZBB,show i<pl.size by omega]
   rw[h1]at hR ⊢;rw[h2];exact hR
  ·have h1:es[i]?=none:=ZCH (by omega)
   rw[h1]at hR ⊢;exact hR
theorem ZtW{slot i:Nat}{e:Int × Value}{Q:Option Value->Shared->Prop}(hit:Zhz s.heap it a slot i es.size ep)(x:Ze1 w s.heap a es ep t)(hs:w.params.followText "set-order" = false->ZzE t.place slot=i)(he:(Zeo w a es ep)[i]?=some e)
  (hQ:∀h',Zhz h' it a (if w.params.followText "set-order" then slot else t.place.getD i 0+1) (i+1) es.size ep->ZBq it s.heap h'->Q (some e.2) { s with heap:=h' }) :
  wpAny (model prog w) A (pyNext (.ref it)) Q E s:=by
 obtain⟨o,ho,hc,hd⟩:=id hit;obtain⟨os,hos,hex,hds⟩:=x.obj;unfold pyNext;refine Zzq (ZDn (wpAny_callSpecial?_slot (name:=ZAk "__next__") hit.typeIs Zc1
  (ZAR Zc1 hit.typeIs ZiT ?_ (Zjl _))))
 unfold Builtin.«set_iterator.__next__» slotArgs;refine Zzq (Zzv ?_);dsimp only;refine Zzq (ZDd ho hd ?_);dsimp only;refine Zzq (ZC8 hos hds x.fit ?_);refine ZBF (λq=>absurd q (by simp)) λ_=>?_;simp only[ZCB];refine Zzq (Zkt x hs ?_);rw[he];dsimp only[Option.map_some];refine Zzq (ZCu ho hd (by simp) ?_);have g1:(s.heap.update it (ZEi (·.setIfInBounds 0 (rawInt ((if w.params.followText "set-order" = true then slot else t.place.getD i 0+1:Nat):Int))))).get? it=some _:=ZAC _ ho (ZCS (ZA6 hd _));refine Zzq (ZCu g1 (ZA6 hd _) (by simp) ?_);refine Zzv ⟨_,rfl,Zzv (hQ _ ⟨_,ZAC _ g1 (ZCS (ZA6 (ZA6 hd _) _)),?_,?_⟩ ((ZAB ..).trans (ZAB ..)))⟩
 ·rw[ZDx,ZDx]; exact hc
 ·rw[ZA6 (ZA6 hd _)]; simp[rawInt]
theorem Zuz{slot i:Nat}{Q:Option Value->Shared->Prop}(hh:A.handled=none)(hit:Zhz s.heap it a slot i es.size ep)(x:Ze1 w s.heap a es ep t)(hs:w.params.followText "set-order" = false->ZzE t.place slot=i)(he:es.size<=i)
  (hQ:∀h',Heap.ExtBut it s.heap h'->Q none { s with heap:=h' }):wpAny (model prog w) A (pyNext (.ref it)) Q E s:=by
 obtain⟨o,ho,hc,hd⟩:=id hit;obtain⟨os,hos,hex,hds⟩:=x.obj;have hn:(Zeo w a es ep)[i]?=none:=ZCH (by rw[ZjB]; exact he);unfold pyNext;refine Zzq (ZDn (wpAny_callSpecial?_slot (name:=ZAk "__next__") hit.typeIs Zc1
  (ZAR Zc1 hit.typeIs ZiT ?_ (Zjl _))))
 unfold Builtin.«set_iterator.__next__» slotArgs;refine Zzq (Zzv ?_);dsimp only;refine Zzq (ZDd ho hd ?_);dsimp only;refine Zzq (ZC8 hos hds x.fit ?_);refine ZBF (λq=>absurd q (by simp)) λ_=>?_;simp only[ZCB];refine Zzq (Zkt x hs ?_);rw[hn];dsimp only[Option.map_none];refine Zzq (ZCu ho hd (by simp) ?_);refine Zzq ?_;simp only[newExc,newTuple];refine Zzq (ZAw ?_ (by size_fits));refine Zzq (m:=ZDe _ _) (ZD5 (a:=ZAy) (by first | rfl | (simp only[ZDe]; rfl)) ?_)
 refine ZAw ?_ (by size_fits);simp only[raiseNew];refine Zzq (wpAny_handled ?_);rw[show A.in1.handled=none from hh];refine Zzq (Zzv (wpAny_throw ?_));refine Zzq (ZDJ (T:="StopIteration") (b:=true) ⟨_,ZzM _ rfl,rfl⟩ isSubtype_stop ?_);exact Zzv (hQ _ (((ZAB ..).extBut.push _).push _))
theorem ZuX{slot i n:Nat}{Q:Value->Shared->Prop}(hit:Zhz s.heap it a slot i n ep)(h:Q (.ref it) s):wpAny (model prog w) A (pyIter (.ref it)) Q E s:=by refine ZDw hit.typeIs ZjK (ZAR ZjK hit.typeIs Znk ?_ (ZpF _));show wpAny _ _ (ret (.ref it)) _ _ s;exact Zzv ⟨_,rfl,"set_iterator",_,hit.typeIs,Zc1.lookup,h⟩
theorem ZsH(hh:A.handled=none)(I a:Addr)(hne:a≠I)(es:Array (Int × Value))(ep:Nat)(t:SetTable) :
  Walks prog w A I [I,a] [I] es.size (λi v=>∃e,(Zeo w a es ep)[i]?=some e/\v=e.2) (λi h=>∃slot,Zhz h I a slot i es.size ep/\Ze1 w h a es ep t/\(w.params.followText "set-order" = false->ZzE t.place slot=i)) where
 sub:=λb hb=>by simp at hb; simp[hb]
 frame:=λ_ _ _ ⟨slot,h1,h2,h3⟩ hk=>⟨slot,h1.at' λo e=>hk I (by simp) o e,h2.at' λo e=>hk a (by simp) o e,h3⟩
 item:=λi s Q E hi ⟨slot,h1,h2,h3⟩ hQ=>by
  have hlt:i<(Zeo w a es ep).size:=by rw[ZjB]; exact hi
  have hx:(Zeo w a es ep)[i]?=some (Zeo w a es ep)[i]:=ZBN hlt;refine ZtW h1 h2 h3 hx λh' hit' hs'=>?_;refine hQ _ h' s.toks ⟨_,hx,rfl⟩ ⟨_,hit',h2.at' λo e=>hs'.extBut a o hne e,λhb=>?_⟩ λb o hb e=>hs'.extBut b o (λh=>hb (by simp[h])) e;rw[hb];exact ZrF h2.tab.rise (by rw[<-h2.siz]; exact hi)
 done:=λs Q E ⟨slot,h1,h2,h3⟩ hQ=>Zuz hh h1 h2 h3 (ZzB _) λh' he'=>hQ h' s.toks λb o hb e=>he' b o (λh=>hb (by simp[h])) e
 self:=λ_ _ _ _ ⟨slot,h1,_⟩ hQ=>ZuX h1 hQ
end
end HP
namespace HP
open PySem PySem.W PyProof.Rows
section
variable{α β:Type}
def Zc2(o:Nat->Nat->Bool)(n:Nat):KasT α->(α->Prop)->Prop
 | .ret a,Q=>Q a
 | .ask i j k,Q=>i<n/\j<n/\Zc2 o n (k (o i j)) Q
theorem Zc2.bnd{o:Nat->Nat->Bool}{n:Nat}{f:α->KasT β}{Q:β->Prop}:∀(t:KasT α),Zc2 o n t (λa=>Zc2 o n (f a) Q)->Zc2 o n (t.bind f) Q
 | .ret a,h=>h
 | .ask i j k,h=>⟨h.1,h.2.1,Zc2.bnd (k (o i j)) h.2.2⟩
end
structure Pm(n:Nat)(p:Array Nat):Prop where
 pos:0<n
 perm:p.Perm (List.toArray (ZzA n))
theorem Pm.size{n:Nat}{p:Array Nat}(h:Pm n p):p.size=n:=by have:=h.perm.size_eq;simpa using this
theorem Pm.lt{n:Nat}{p:Array Nat}(h:Pm n p)(i:Nat):p.getD i 0<n:=by
 by_cases hi:i<p.size
 ·have e:p.getD i 0=p[i]:=by simp[ZBB,hi]
  rw[e];have:=(ZDo.mp h.perm).mem_iff (a:=p[i]);have h2:=this.mp (by simp);simpa using h2
 ·have e:p.getD i 0=0:=by simp[ZBB,hi]
  rw[e]; exact h.pos
theorem Pm.rev{n:Nat}{p:Array Nat}(h:Pm n p)(i j:Nat):Pm n (kas_rev p i j):=⟨h.pos,(mirror_perm _ _ _ _).trans h.perm⟩
theorem Pm.bub{n:Nat}{p:Array Nat}(h:Pm n p)(i j:Nat):Pm n (bubble p i j):=⟨h.pos,(bubble_perm _ _ _).trans h.perm⟩
theorem getD_eq?(p:Array Nat)(i:Nat):p.getD i 0=(p[i]?).getD 0:=by simp[Array.getD_eq_getD_getElem?]
section
variable(O:KeyOrd)(key:Nat->O.α)
def Ka(p:Array Nat)(i:Nat):O.α:=key (p.getD i 0)
def Up(p:Array Nat)(k:Nat):Prop:=∀i j,i<=j->j<k->O.kle (Ka O key p i) (Ka O key p j)
def Dn(p:Array Nat)(k:Nat):Prop:=∀i j,i<=j->j<k->O.kle (Ka O key p j) (Ka O key p i)
def Ev(p:Array Nat)(m q:Nat):Prop:=∀i,m-(q+1)<=i->i<m->Ka O key p i=Ka O key p (m-1)
abbrev orc:Nat->Nat->Bool:=λi j=>O.blt (key i) (key j)
variable{O key}{p:Array Nat}{n:Nat}
theorem Zo3{i j:Nat}(hj:j<=p.size)(k:Nat):Ka O key (kas_rev p i j) k=if i<=k/\k<j then Ka O key p (i+j-1-k)else Ka O key p k:=by unfold Ka kas_rev;rw[getD_eq?,getElem?_mirror_all hj];split<;>rw[<-getD_eq?]
theorem Zjw{i j:Nat}(hj:j<=p.size)(h:∀k,i<=k->k<j->Ka O key p k=Ka O key p (j-1))(k:Nat):Ka O key (kas_rev p i j) k=Ka O key p k:=by
 rw[Zo3 hj];split
 ·rename_i hk
  rw[h _ (by omega) (by omega),h k hk.1 hk.2]
 ·rfl
theorem Ztd{s d:Nat}(hs:s<p.size)(hd:d<=s)(k:Nat):Ka O key (bubble p s d) k=if k=s-d then Ka O key p s else if s-d<k/\k<=s then Ka O key p (k-1)else Ka O key p k:=by
 unfold Ka;rw[getD_eq?,getElem?_bubble hs d hd]
 by_cases h1:k=s-d
 ·rw[if_pos h1,if_pos h1,<-getD_eq?]
 ·rw[if_neg h1,if_neg h1]
  by_cases h2:s-d<k/\k<=s
  ·rw[if_pos h2,if_pos h2,<-getD_eq?]
  ·rw[if_neg h2,if_neg h2,<-getD_eq?]
theorem Up.one:Up O key p 1:=λi j h1 h2=>by
 obtain rfl:i=j:=by omega
 exact ZBZ _
theorem Up.more{k:Nat}(h:Up O key p k)(hl:O.kle (Ka O key p (k-1)) (Ka O key p k)):Up O key p (k+1):=λi j h1 h2=>by
 by_cases hj:j<k
 ·exact h i j h1 hj
 obtain rfl:j=k:=by omega
 by_cases hi:i=j
 ·subst hi; exact ZBZ _
 ·exact ZCP (h i (j-1) (by omega) (by omega)) hl
theorem Dn.more{k:Nat}(h:Dn O key p k)(hl:O.kle (Ka O key p k) (Ka O key p (k-1))):Dn O key p (k+1):=λi j h1 h2=>by
 by_cases hj:j<k
 ·exact h i j h1 hj
 obtain rfl:j=k:=by omega
 by_cases hi:i=j
 ·subst hi; exact ZBZ _
 ·exact ZCP hl (h i (j-1) (by omega) (by omega))
theorem Dn.same{p':Array Nat}{k:Nat}(h:Dn O key p k)(e:∀i,Ka O key p' i=Ka O key p i):Dn O key p' k:=λi j h1 h2=>by rw[e,e]; exact h i j h1 h2
theorem ZkT(hp:Pm n p){Q:Nat->Prop}:∀(f m:Nat),Up O key p m->(∀m',m<=m'->m'<=m+f->Up O key p m'->(m'=m+f\/O.klt (Ka O key p m') (Ka O key p (m'-1)))->Q m')->Zc2 (orc O key) n (kas_asc p f m) Q
 | 0,m,hu,hq=>hq m (ZzB _) (by omega) hu (.inl rfl)
 | f+1,m,hu,hq=>by
  refine⟨hp.lt _,hp.lt _,?_⟩;dsimp only;split
  ·rename_i h
   exact hq m (ZzB _) (by omega) hu (.inr h)
  ·rename_i h
   refine ZkT hp f (m+1) (hu.more (ZBG h)) λm' h1 h2 h3 h4=>hq m' (by omega) (by omega) h3 (h4.imp (λe=>by omega) id)
theorem Zhc{Q:Array Nat × Nat × Nat->Prop}:∀(f:Nat) (p:Array Nat) (m q:Nat),Pm n p->Dn O key p m->q+1<=m->Ev O key p m q->m+f<=n ->
  (∀p' m' q',Pm n p'->m<=m'->m'<=m+f->Dn O key p' m'->q'+1<=m'->Ev O key p' m' q'->Q (p',m',q'))->Zc2 (orc O key) n (kas_desc f p m q) Q
 | 0,p,m,q,hp,hd,h1,he,hn,hq=>hq p m q hp (ZzB _) (by omega) hd h1 he
 | f+1,p,m,q,hp,hd,h1,he,hn,hq=>by
  have hz:m<=p.size:=by rw[hp.size]; omega
  have e0:∀p',Ev O key p' (m+1) 0:=λp' i h1 h2=>by congr 1; omega
  refine⟨hp.lt _,hp.lt _,?_⟩;dsimp only;split
  ·rename_i h
   have hd':=hd.more (ZCC h);split
   ·exact Zhc f _ (m+1) 0 (hp.rev _ _) (hd'.same (Zjw hz he)) (by omega) (e0 _) (by omega) λp' m' q' a b c d e g=>hq p' m' q' a (by omega) (by omega) d e g
   ·exact Zhc f _ (m+1) 0 hp hd' (by omega) (e0 _) (by omega) λp' m' q' a b c d e g=>hq p' m' q' a (by omega) (by omega) d e g
  ·rename_i h
   refine⟨hp.lt _,hp.lt _,?_⟩;dsimp only;split
   ·exact hq p m q hp (ZzB _) (by omega) hd h1 he
   ·rename_i h'
    have l1:=ZBG h;have l2:=ZBG h';have ee:Ka O key p m=Ka O key p (m-1):=ZEk l2 l1;refine Zhc f p (m+1) (q+1) hp (hd.more l2) (by omega) (λi a b=>?_) (by omega) λp' m' q' a b c d e g=>hq p' m' q' a (by omega) (by omega) d e g;rw[show m+1-1=m by omega]
    by_cases hi:i=m
    ·rw[hi]
    ·rw[ee]; exact he i (by omega) (by omega)
theorem ZmI{Q:Nat × Array Nat->Prop}{m:Nat}(hp:Pm n p)(hd:Dn O key p m)(h1:1<=m)(hm:m<=n)(hq:∀m' p',1<=m'->m'<=n->Pm n p'->Up O key p' m'->Q (m',p')):Zc2 (orc O key) n (kas_tail3 m n p) Q:=by
 have hz:m<=p.size:=by rw[hp.size]; omega
 refine Zc2.bnd _ (ZkT (hp.rev 0 m) (n-m) m (λi j a b=>?_) λm' a b c _=>hq m' _ (by omega) (by omega) (hp.rev 0 m) c);rw[Zo3 hz,Zo3 hz,if_pos (by omega),if_pos (by omega)];exact hd _ _ (by omega) (by omega)
theorem ZmD{Q:Nat × Array Nat->Prop}{m:Nat}(hp:Pm n p)(hd:Dn O key p (m+1))(hm:m+1<=n)(hq:∀m' p',1<=m'->m'<=n->Pm n p'->Up O key p' m'->Q (m',p')):Zc2 (orc O key) n (kas_descPart m n p) Q:=by
 refine Zc2.bnd _ (Zhc (n-(m+1)) p (m+1) 0 hp hd (by omega) (λi a b=>by congr 1; omega) (by omega) λp' m' q' h1 h2 h3 h4 h5 h6=>?_);have hz:m'<=p'.size:=by rw[h1.size]; omega
 dsimp only;split
 ·exact ZmI (h1.rev _ _) (h4.same (Zjw hz h6)) (by omega) (by omega) hq
 ·exact ZmI h1 h4 (by omega) (by omega) hq
theorem Zr0{Q:Nat × Array Nat->Prop}(hp:Pm n p)(hq:∀m' p',1<=m'->m'<=n->Pm n p'->Up O key p' m'->Q (m',p')):Zc2 (orc O key) n (kas_count n p) Q:=by
 have h0:=hp.pos;refine Zc2.bnd _ (ZkT hp (n-1) 1 Up.one λm h1 h2 h3 h4=>?_);have hz:m<=p.size:=by rw[hp.size]; omega
 split
 ·exact hq m p (by omega) (by omega) hp h3
 ·rename_i hne
  have hne':m≠n:=by simpa using hne
  have hlt:O.klt (Ka O key p m) (Ka O key p (m-1)):=h4.resolve_left (by omega);split
  ·rename_i hm
   refine⟨hp.lt _,hp.lt _,?_⟩;dsimp only;split
   ·exact hq m p (by omega) (by omega) hp h3
   ·rename_i hr
    have hr':O.kle (Ka O key p (m-1)) (Ka O key p 0):=ZBG hr;have all:∀k,0<=k->k<m->Ka O key p k=Ka O key p (m-1):=λk _ hk=>ZEk (h3 k (m-1) (by omega) (by omega)) (ZCP hr' (h3 0 k (by omega) hk));refine ZmD (hp.rev _ _) (Dn.same ?_ (Zjw hz all)) (by omega) hq;refine Dn.more (λi j a b=>?_) (ZCC hlt);rw[all i (by omega) (by omega),all j (by omega) b]; exact ZBZ _
  ·obtain rfl:m=1:=by omega
   refine ZmD hp (Dn.more (λi j a b=>?_) (ZCC hlt)) (by omega) hq;obtain rfl:i=j:=by omega
   exact ZBZ _
theorem Zir{Q:Nat->Prop}{k:Nat}(hp:Pm n p)(hu:Up O key p k):∀(f l r:Nat),l<=r->r<=k->r-l<=f->(∀i,i<l->O.kle (Ka O key p i) (Ka O key p k))->(∀i,r<=i->i<k->O.klt (Ka O key p k) (Ka O key p i)) ->
  (∀l,l<=k->(∀i,i<l->O.kle (Ka O key p i) (Ka O key p k))->(∀i,l<=i->i<k->O.klt (Ka O key p k) (Ka O key p i))->Q l)->Zc2 (orc O key) n (kas_place p k f l r) Q
 | 0,l,r,h1,h2,h3,lo,hi,hq=>by
  obtain rfl:l=r:=by omega
  exact hq l h2 lo hi
 | f+1,l,r,h1,h2,h3,lo,hi,hq=>by
  unfold kas_place;split
  ·obtain rfl:l=r:=by omega
   exact hq l h2 lo hi
  ·refine⟨hp.lt _,hp.lt _,?_⟩
   dsimp only;split
   ·rename_i h
    exact Zir hp hu f l ((l+r) / 2) (by omega) (by omega) (by omega) lo (λi a b=>KeyOrd.klt_of_klt_of_kle h (hu _ _ a b)) hq
   ·rename_i h
    refine Zir hp hu f ((l+r) / 2+1) r (by omega) (by omega) (by omega) (λi a=>ZCP (hu i ((l+r) / 2) (by omega) (by omega)) (ZBG h)) hi hq
theorem Zph{Q:Array Nat->Prop}:∀(f:Nat) (p:Array Nat) (k:Nat),Pm n p->Up O key p k->k+f=n->(∀p',Pm n p'->Up O key p' n->Q p')->Zc2 (orc O key) n (kas_bin f p k) Q
 | 0,p,k,hp,hu,hn,hq=>by
  obtain rfl:k=n:=by omega
  exact hq p hp hu
 | f+1,p,k,hp,hu,hn,hq=>by
  refine Zc2.bnd _ (Zir hp hu k 0 k (by omega) (ZzB _) (by omega) (λi a=>by omega) (λi a b=>by omega) λl hl lo hi=>?_);refine Zph f _ (k+1) (hp.bub _ _) (λi j a b=>?_) (by omega) hq;have hk:k<p.size:=by rw[hp.size]; omega
  rw[Ztd hk (by omega),Ztd hk (by omega),show k-(k-l)=l by omega]
  repeat' split
  all_goals first
   | (exfalso; omega)
   | exact ZBZ _
   | exact lo _ (by omega)
   | exact ZCC (hi _ (by omega) (by omega))
   | exact hu _ _ (by omega) (by omega)
theorem ZsC(hn:0<n){Q:Array Nat->Prop}(hq:∀p,Pm n p->Up O key p n->Q p):Zc2 (orc O key) n (kas_sort n) Q:=by
 refine Zc2.bnd _ (Zr0 ⟨hn,.refl _⟩ λm p h1 h2 h3 h4=>?_);dsimp only;rw[show max m 1=m by omega];split
 ·exact Zph _ p m h3 h4 (by omega) hq
 ·exact hq p h3 (by rwa [show n=m by omega])
end
theorem lex_irrefl:∀a:List Int,HM.lexLt a a=false
 | []=>rfl
 | x::a=>by show(if x=x then HM.lexLt a a else decide (x<x))=false;rw[if_pos rfl]; exact lex_irrefl a
theorem ZgU(x y:Int)(a b:List Int):HM.lexLt (x::a) (y::b)=if x=y then HM.lexLt a b else decide (x<y):=rfl
theorem lex_trans:∀a b c:List Int,HM.lexLt a b=true->HM.lexLt b c=true->HM.lexLt a c=true
 | [],[],_,h,_=>by cases h
 | [],_::_,[],_,h=>by cases h
 | [],_::_,_::_,_,_=>rfl
 | _::_,[],_,h,_=>by cases h
 | _::_,_::_,[],_,h=>by cases h
 | x::a,y::b,z::c,h1,h2=>by
  rw[ZgU]at *;split at h1
  ·rename_i e
   subst e;split at h2
   ·rename_i e; subst e; rw[if_pos rfl]; exact lex_trans a b c h1 h2
   ·rename_i e; rw[if_neg e]; exact h2
  ·split at h2
   ·rename_i e1 e2; subst e2; rw[if_neg e1]; exact h1
   ·rename_i e1 e2
    have h1:=of_decide_eq_true h1;have h2:=of_decide_eq_true h2;rw[if_neg (by omega)]; exact decide_eq_true (by omega)
theorem ZlY:∀a b c:List Int,HM.lexLt a c=true->HM.lexLt a b=true\/HM.lexLt b c=true
 | [],[],_,h=>.inr h
 | [],_::_,_,_=>.inl rfl
 | _::_,_,[],h=>by cases h
 | _::_,[],_::_,_=>.inr rfl
 | x::a,y::b,z::c,h=>by
  rw[ZgU]at *;rw[ZgU];split at h
  ·rename_i e
   subst e
   by_cases e:x=y
   ·subst e; rw[if_pos rfl,if_pos rfl]; exact ZlY a b c h
   ·rw[if_neg e,if_neg (ZAx e)]
    by_cases q:x<y
    ·exact .inl (decide_eq_true q)
    ·exact .inr (decide_eq_true (by omega))
  ·rename_i e
   have h:=of_decide_eq_true h
   by_cases e1:x=y
   ·subst e1; rw[if_neg e]; exact .inr (decide_eq_true h)
   ·rw[if_neg e1]
    by_cases q:x<y
    ·exact .inl (decide_eq_true q)
    ·rw[if_neg (by omega)]; exact .inr (decide_eq_true (by omega))
theorem Zjm:∀a b:List Int,HM.lexLt a b=false->HM.lexLt b a=false->a=b
 | [],[],_,_=>rfl
 | [],_::_,h,_=>by cases h
 | _::_,[],_,h=>by cases h
 | x::a,y::b,h1,h2=>by
  rw[ZgU]at h1 h2
  by_cases e:x=y
  ·subst e
   rw[if_pos rfl]at h1 h2;rw[Zjm a b h1 h2]
  ·rw[if_neg e]at h1
   rw[if_neg (ZAx e)]at h2;have h1:=of_decide_eq_false h1;have h2:=of_decide_eq_false h2;omega
@[reducible] def Zpo:KeyOrd where
 α:=List Int
 blt:=HM.lexLt
 irrefl:=lex_irrefl
 trans:=lex_trans
 negTrans:=ZlY
 total:=Zjm
theorem ZiN{α:Type}{R:α->α->Prop}(anti:∀a b,R a b->R b a->a=b):∀{l m:List α},l.Perm m->l.Pairwise R->m.Pairwise R->l=m
 | [],m,hp,_,_=>(List.nil_perm.mp hp).symm
 | x::l,[],hp,_,_=>absurd hp.symm (by intro q; exact List.cons_ne_nil _ _ (List.nil_perm.mp q))
 | x::l,y::m,hp,hl,hm=>by
  obtain⟨l1,l2⟩:=ZAc.mp hl;obtain⟨m1,m2⟩:=ZAc.mp hm;have e:x=y:=by
   rcases ZzH.mp (hp.mem_iff.mp (Zzt ..))with e | e
   ·exact e
   ·rcases ZzH.mp (hp.mem_iff.mpr (Zzt ..))with e' | e'
    ·exact e'.symm
    ·exact anti x y (l1 y e') (m1 x e)
  subst e;rw[ZiN anti ((List.perm_cons x).mp hp) l2 m2]
def TI(h:Heap)(b:Addr)(t:List Int):Prop:=∃o its n,h.get? b=some o/\o.cls=.type "tuple"/\o.data=.seq its n/\IntsAre its.toList t
theorem TI.keep{h h':Heap}{b:Addr}{t:List Int}(x:TI h b t)(k:∀o,h.get? b=some o->h'.get? b=some o):TI h' b t:=let ⟨o,its,n,e,r⟩:=x; ⟨o,its,n,k o e,r⟩
section
variable{prog:Program}{w:World}{A:Around}{E:Value->Shared->Prop}{s:Shared}
theorem ZsN{fin:Bool}{Q:Bool->Shared->Prop}:∀{vs ws:List Value} {a b:List Int} (i:Nat),IntsAre vs a->IntsAre ws b->fin=decide (vs.length<ws.length)->Q (HM.lexLt a b) s->KatLex prog w A true fin Q (vs.zip ws) i s
 | _,_,_,_,i,.nil,.nil,e,q=>by subst e; exact kat_nil q
 | _,_,_,_,i,.nil,.cons _ _ _,e,q=>by subst e; exact kat_nil q
 | _,_,_,_,i,.cons _ _ _,.nil,e,q=>by subst e; exact kat_nil q
 | _,_,_,_,i,.cons x t hv,.cons y u hw,e,q=>by
  rw[List.zip_cons_cons];refine kat_cons (wpAny_eqBool_int ?_);rw[ZgU]at q
  by_cases h:x=y
  ·rw[if_pos h]at q
   rw[show(x==y)=true by simpa using h];refine kat_yes (ZsN (i+1) hv hw ?_ q);rw[e,ZzG,ZzG];exact decide_eq_decide.mpr (by omega)
  ·rw[if_neg h]at q
   rw[show(x==y)=false by simpa using h];refine kat_no ?_
   by_cases hi:i=0
   ·rw[show(true&&i==0)=true by simpa using hi]
    exact oneLt_int q
   ·rw[show(true&&i==0)=false by simpa using hi]
    exact kat_one _ _ (PyProof.Rows.lt_int q)
theorem Zw6{x y:Addr}{a b:List Int}{Q:Bool->Shared->Prop}(hx:TI s.heap x a)(hy:TI s.heap y b)(h:Q (HM.lexLt a b) s):wpAny (model prog w) A (keyLt' (tuples' true) (.ref x) (.ref y)) Q E s:=by obtain⟨ox,ix,n,e1,_,d1,r1⟩:=hx;obtain⟨oy,iy,k,e2,_,d2,r2⟩:=hy;refine kat_lt e1 d1 e2 d2 (ZsN 0 r1 r2 ?_ h);rw[ZzV,ZzV]
theorem ZqU{α:Type}{cmp:Nat->Nat->(Bool->Shared->Prop)->Shared->Prop}{o:Nat->Nat->Bool}{n:Nat}(hc:∀i j C,i<n->j<n->C (o i j) s->cmp i j C s){G:α->Shared->Prop}:∀(t:KasT α),Zc2 o n t (λa=>G a s)->t.kasWp cmp G s
 | .ret a,h=>h
 | .ask i j k,h=>hc i j _ h.1 h.2.1 (ZqU hc (k (o i j)) h.2.2)
theorem ZtX{a:Addr}{vs:List Value}{ts:List (List Int)}{n:Nat}{P:PySem.Fin->Shared->Prop}(ho:s.heap.get? a=some (seqObj "list" vs.toArray n))(hl:ts.length=vs.length)
  (hT:∀(i:Nat) t,ts[i]?=some t->∃b,vs[i]?=some (.ref b)/\TI s.heap b t) (hne:vs.length<2\/∀t∈ts,t≠[]) (h64:vs.length<64)
  (h:∀p:List Nat,p.Perm (ZzA vs.length)->(p.map λi=>ts.getD i []).Pairwise (λx y=>HM.lexLt y x=false)->P (.done (.ret .none)) { s with heap:=sortedHeap s.heap a vs (p.map λi=>vs.getD i ZAy).toArray }) :
  wpAny (model prog w) A (Builtin.«list.sort» ⟨[.ref a],[]⟩) P E s:=by
 rw[list_sort_plain];have ha:a<s.heap.objs.size:=ZzJ ho;refine Zzq (listItems_at ho rfl (Zzq (listUpdate_at ho rfl ?_ (by rw[ZzN,ZAT]; omega) (ZAP _))));obtain⟨e1,ho1⟩:∃e1,(s.heap.update a (ZCq λ_=>#[])).get? a=some (seqObj "list" #[] e1):=⟨_,get?_update_seq ho (λ_=>#[])⟩;refine Zzq (seqEpoch_at ho1 rfl ?_);refine Zzq (wpAny_newTuple ?_ (by show vs.length<=_; rw[ZAT]; omega));refine Zzq (wpAny_newList ?_ (ZAP _));refine ZAE ?_;generalize hG:((s.heap.update a (ZCq λ_=>#[])).push (seqObj "tuple" vs.toArray 0)).push (seqObj "list" #[] 0)=g;have ho6:g.get? a=some (seqObj "list" #[] e1):=by rw[<-hG,ZCD _ _ _ (by rw[size_push',ZCQ]; exact ZzQ (ZB3 ha)),ZCD _ _ _ (by rw[ZCQ]; exact ZzQ ha)];exact ho1
 have hold:∀b o,b≠a->s.heap.get? b=some o->g.get? b=some o:=λb o hb e=>by have hlt:=ZzJ e;rw[<-hG,ZCD _ _ _ (by rw[size_push',ZCQ]; exact ZzQ (ZB3 hlt)),ZCD _ _ _ (by rw[ZCQ]; exact ZzQ hlt),Heap.get?_update_ne _ _ _ _ hb];exact e
 have hT6:∀(i:Nat) t,ts[i]?=some t->∃b,vs[i]?=some (.ref b)/\TI g b t:=λi t e=>by
  obtain⟨b,e1,x⟩:=hT i t e;refine⟨b,e1,x.keep λo q=>hold b o ?_ q⟩
  rintro rfl
  obtain⟨o',_,_,q1,q2,_⟩:=x;rw[ho]at q1;cases q1;injection q2 with q2
  exact absurd q2 (by decide)
 show wpAny (model prog w) A _ P E { s with heap:=g };dsimp only;have fin:∀(st':SortSt) (p:List Nat),p.Perm (ZzA vs.length)->(p.map λi=>ts.getD i []).Pairwise (λx y=>HM.lexLt y x=false)->(arrOf st').map (·.2)=(p.map λi=>vs.getD i ZAy).toArray->failedOf st'=none ->
   wpAny (model prog w) A (do
    let touched:=(<-seqEpoch a) != e1
    Builtin.List.listUpdate (.ref a) λ_=>(arrOf st').map (·.2)
    if let some e:=failedOf st' then rule "list.sort.comparison-raised"; throw e
    if touched then rule "list.sort.modified"; raiseError "ValueError" "list modified during sort"
    ret .none) P E { s with heap:=g }:=by
  intro st' p hp hs har hf;refine Zzq (seqEpoch_at ho6 rfl ?_);rw[har];refine Zzq (listUpdate_at ho6 rfl ?_ (ZAP _) (by show(p.map λi=>vs.getD i ZAy).toArray.size<=_; rw[ZzN,Zzr,hp.length_eq,ZBw,ZAT]; omega));rw[hf];simp only[bne_self_eq_false,ZBn,if_false];refine Zzv ?_;have:=h p hp hs;unfold sortedHeap at this;rw[hG]at this;exact this
 by_cases h2:vs.toArray.size<2
 ·rw[if_pos h2,if_pos h2]
  refine Zzq (Zzv ?_);rw[StateT.run_pure];refine Zzq (Zzv ?_);refine fin (SortSt.mk' general' (vs.toArray.zip vs.toArray) #[] 7 none) (ZzA vs.length) (.refl _) ?_ ?_ rfl
  ·rw[ZzN]at h2
   have:vs.length=0\/vs.length=1:=by omega
   rcases this with e | e<;>rw[e]<;>simp
  ·rw[ZzN]at h2
   show Array.map (·.2) (vs.toArray.zip vs.toArray)=_
   match vs,h2 with
   | [],_=>simp
   | [v],_=>simp
 ·rw[if_neg h2,if_neg h2]
  rw[ZzN]at h2;have hne':∀t∈ts,t≠[]:=hne.resolve_left h2;have tups:∀(vs:List Value) (ts:List (List Int)),ts.length=vs.length->(∀(i:Nat) t,ts[i]?=some t->∃b,vs[i]?=some (.ref b)/\TI g b t)->(∀t∈ts,t≠[])->∃fs,KatTups g vs fs/\fs.length=vs.length/\∀v∈fs,∃x t,v=ZBl x t:=by
   intro vs
   induction vs with
   | nil=>intro ts hl _ _; exact⟨[],KatTups.nil,rfl,by simp⟩
   | cons v vs ih =>
    intro ts hl hT hn;cases ts with
    | nil=>simp at hl
    | cons t ts =>
     obtain⟨fs,f1,f2,f3⟩:=ih ts (by simpa using hl) (λi t e=>hT (i+1) t (by simpa using e)) λx hx=>hn x (Zzu _ hx);obtain⟨b,eb,o,its,m,g1,g2,g3,g4⟩:=hT 0 t rfl;simp at eb;subst eb;cases t with
     | nil=>exact absurd rfl (hn [] (Zzt ..))
     | cons x t =>
      cases hi:its.toList with
      | nil=>rw[hi]at g4; cases g4
      | cons y ys =>
       rw[hi]at g4;cases g4 with
       | cons _ u _ =>
        refine⟨.int x u::fs,KatTups.cons g1 g2 g3 ?_ f1,by simp[f2],λv hv=>?_⟩
        ·rw[<-ZAp,hi]; rfl
        ·rcases ZzH.mp hv with e | e
         ·exact⟨x,u,e⟩
         ·exact f3 v e
  obtain⟨fs,f1,f2,f3⟩:=tups vs ts hl hT6 hne';refine Zzq (kat_kind (s:={ s with heap:=g }) (T:=.type "int") f1 (by omega) (λv hv=>?_) (by rfl) ?_)
  ·obtain⟨x,t,rfl⟩:=f3 v hv
   exact Looks.of_pure rfl
  rw[show(ZCo "int" != ZCo "tuple")=true by decide];refine Zzq (ZAK (kat_run (ks:=vs) (Q:=λst' s'=>s'={ s with heap:=g }/\∃p:Array Nat,Pm vs.length p/\Up Zpo (λi=>ts.getD i []) p vs.length/\arrOf st'=p.map (kas_item (vs.toArray.zip vs.toArray))/\failedOf st'=none)
   (G:=λp s'=>s'={ s with heap:=g }/\Pm vs.length p/\Up Zpo (λi=>ts.getD i []) p vs.length) rfl (by omega) h64 (λp' st' s' a1 a2 a3 a4=>⟨a4.1,p',a4.2.1,a4.2.2,a2,a3⟩) ?_) ?_ λ_ _ e=>e)
  ·refine ZqU (o:=orc Zpo λi=>ts.getD i []) (n:=vs.length) (λi j C hi hj hC=>?_) _ (ZsC (by omega) λp h1 h2=>⟨rfl,h1,h2⟩)
   have gi:ts[i]?=some (ts.getD i []):=by simp[show i<ts.length by omega]
   have gj:ts[j]?=some (ts.getD j []):=by simp[show j<ts.length by omega]
   obtain⟨b1,v1,x1⟩:=hT6 i _ gi;obtain⟨b2,v2,x2⟩:=hT6 j _ gj;show wpAny (model prog w) A (keyLt' _ (vs.getD i ZAy) (vs.getD j ZAy)) C _ _;rw[show vs.getD i ZAy=.ref b1 by simp[ZAZ,v1],show vs.getD j ZAy=.ref b2 by simp[ZAZ,v2]];exact Zw6 x1 x2 hC
  ·rintro ⟨⟨⟩,st'⟩ s' ⟨rfl,p,hp,hu,har,hf⟩
   refine fin st' p.toList ?_ ?_ (kat_snds rfl har) hf
   ·have:=ZDo.mp hp.perm
    simpa using this
   ·rw[ZCE,ZDC]
    intro i j hi hj hij;have hsz:=hp.size;have q:=hu i j (ZBp hij) (by rw[ZzV]at hj; omega);unfold Ka at q;rw[show p.getD i 0=p.toList[i] by simp[ZBB,show i<p.size by simpa using hi],show p.getD j 0=p.toList[j] by simp[ZBB,show j<p.size by simpa using hj]]at q;exact q
end
def Zfh(h:Heap)(d:Addr)(es:Array DictEntry)(ep:Nat):Prop:=∃o,h.get? d=some o/\o.ExactDict/\o.data=.dict es ep
theorem Zfh.at'{h h':Heap}{d:Addr}{es:Array DictEntry}{ep:Nat}(x:Zfh h d es ep)(e:∀o,h.get? d=some o->h'.get? d=some o):Zfh h' d es ep:=let ⟨o,ho,r⟩:=x; ⟨o,e _ ho,r⟩
theorem Zfh.typeIs{s:Shared}{d:Addr}{es:Array DictEntry}{ep:Nat}(x:Zfh s.heap d es ep):s.TypeIs (.ref d) "dict":=let ⟨o,ho,hc,_⟩:=x; ⟨o,ho,hc.1⟩
theorem Zfh.lt{h:Heap}{d:Addr}{es:Array DictEntry}{ep:Nat}(x:Zfh h d es ep):d<h.objs.size:=let ⟨o,ho,_⟩:=x; ZzJ ho
section
variable{prog:Program}{w:World}{A:Around}{E:Value->Shared->Prop}{s:Shared}{it d:Addr}{es:Array DictEntry}{ep i:Nat}
theorem Zpi{Q:Value->Shared->Prop}(hd:(d==ZA1)=false)(hm:Zfh s.heap d es ep)
  (hQ:Q (.ref s.heap.objs.size) { s with heap:=s.heap.push { cls:=.type "dict_keyiterator",data:=.fields #[.ref d,.int 0 0,.int es.size 0,.int ep 0] } }) :
  wpAny (model prog w) A (pyIter (.ref d)) Q E s:=by
 obtain⟨o,ho,hc,hdat⟩:=id hm;have hT:=hm.typeIs;refine ZDw hT F.slot_dict_iter (ZAR F.slot_dict_iter hT F.entry_dict_iter ?_ (F.args_dict_iter_1 _));unfold Builtin.«dict.__iter__»;refine Zzq ?_;unfold Builtin.Dict.dictSlotNone;refine Zzq (wpAny_notOrdered_dict hT ?_);show wpAny _ _ (pure (ZAo d)) _ _ s;refine Zzv ?_;show wpAny _ _ (ZEc d >>= _) _ _ s;unfold ZEc;rw[if_neg (by rw[hd]; exact ZAb)];refine Zzq (Zzv (Zzq (ZCy ho hdat (Zzq (ZDW ho hdat ?_)))));refine Zzq (ZAw (Zzv ⟨_,rfl,"dict_keyiterator",_,⟨_,ZzM _ rfl,rfl⟩,F.slot_dict_keyiterator_next.lookup,?_⟩));simpa [rawInt]using hQ
theorem ZoN{e:DictEntry}{Q:Option Value->Shared->Prop}(hit:s.heap.IsKeyIter it d i es.size ep)(hm:Zfh s.heap d es ep)(hx:es[i]?=some e)
  (hQ:∀h',h'.IsKeyIter it d (i+1) es.size ep->ZBq it s.heap h'->Q (some e.key) { s with heap:=h' }) :
  wpAny (model prog w) A (pyNext (.ref it)) Q E s:=by
 obtain⟨o,ho,hc,hd⟩:=id hit;obtain⟨od,hod,hcd,hdd⟩:=id hm;unfold pyNext;refine Zzq (ZDn (wpAny_callSpecial?_slot (name:=ZAk "__next__") hit.typeIs F.slot_dict_keyiterator_next
  (ZAR F.slot_dict_keyiterator_next hit.typeIs F.entry_dict_keyiterator_next ?_ (F.args_dict_keyiterator_next_1 _))))
 refine Zzq (Zzv (Zzq (Zzq ?_)))
 first | refine Zzq (ZBx hit.typeIs (Zzv ?_)) | refine Zzq (ZBS hit.typeIs (Zzv ?_))
 refine Zzq (ZDd ho hd ?_);have hown:ZDf "dict_keyiterator" = false:=by decide
 simp only[hown,ZBn,if_false];show wpAny _ _ (if(ZAo d==ZAy)=true then _ else _) _ _ s;rw[if_neg (show ¬((ZAo d==ZAy)=true) from ZAb)];refine Zzq (Zzv (Zzq (ZCy hod hdd ?_)));rw[if_neg (by simp)];refine Zzq (Zzv (Zzq (ZDW hod hdd ?_)));rw[if_neg (by simp)];refine Zzv ?_;obtain⟨hlt,he⟩:=Array.getElem?_eq_some_iff.mp hx;simp only[show ¬((i:Int)<0) from by omega,if_false,ZCB,ZBN hlt];refine Zzq ?_
 first | refine Zzq (ZBx hit.typeIs (Zzv ?_)) | refine Zzq (ZBS hit.typeIs (Zzv ?_))
 refine Zzq (wpAny_isOneOf_keyiter hit.typeIs ?_);show wpAny _ _ (setField (.ref it) 1 (rawInt ((i:Int)+1)) >>= _) _ _ s;refine Zzq (ZCu ho hd (by simp) ?_);have hit':(s.heap.update it (ZEi (·.setIfInBounds 1 (rawInt ((i:Int)+1))))).IsKeyIter it d (i+1) es.size ep :=
  ⟨_,ZAC _ ho (ZCS (ZA6 hd _)),(ZDx ..).trans hc,by rw[ZA6 hd]; simp[rawInt]⟩
 refine Zzq (ZAE ?_);refine Zzq (wpAny_isOneOf_keyiter (s:={ s with heap:=s.heap.update it (ZEi (·.setIfInBounds 1 (rawInt ((i:Int)+1)))) }) hit'.typeIs ?_);show wpAny _ _ (pure es[i].key) _ _ _;refine Zzv (Zzv ⟨_,rfl,Zzv ?_⟩);rw[he];exact hQ _ hit' (ZAB ..)
theorem ZqN{Q:Option Value->Shared->Prop}(hh:A.handled=none)(hit:s.heap.IsKeyIter it d i es.size ep)(hm:Zfh s.heap d es ep)(hx:es.size<=i)
  (hQ:∀h',Heap.ExtBut it s.heap h'->Q none { s with heap:=h' }):wpAny (model prog w) A (pyNext (.ref it)) Q E s:=by
 obtain⟨o,ho,hc,hd⟩:=id hit;obtain⟨od,hod,hcd,hdd⟩:=id hm;unfold pyNext;refine Zzq (ZDn (wpAny_callSpecial?_slot (name:=ZAk "__next__") hit.typeIs F.slot_dict_keyiterator_next
  (ZAR F.slot_dict_keyiterator_next hit.typeIs F.entry_dict_keyiterator_next ?_ (F.args_dict_keyiterator_next_1 _))))
 refine Zzq (Zzv (Zzq (Zzq ?_)))
 first | refine Zzq (ZBx hit.typeIs (Zzv ?_)) | refine Zzq (ZBS hit.typeIs (Zzv ?_))
 refine Zzq (ZDd ho hd ?_);have hown:ZDf "dict_keyiterator" = false:=by decide
 simp only[hown,ZBn,if_false];show wpAny _ _ (if(ZAo d==ZAy)=true then _ else _) _ _ s;rw[if_neg (show ¬((ZAo d==ZAy)=true) from ZAb)];refine Zzq (Zzv (Zzq (ZCy hod hdd ?_)));rw[if_neg (by simp)];refine Zzq (Zzv (Zzq (ZDW hod hdd ?_)));rw[if_neg (by simp)];refine Zzv ?_;simp only[show ¬((i:Int)<0) from by omega,if_false,ZCB,ZCH hx];refine Zzq ?_
 first | refine Zzq (ZBx hit.typeIs (Zzv ?_)) | refine Zzq (ZBS hit.typeIs (Zzv ?_))
 show wpAny _ _ (setField (.ref it) 0 .none >>= _) _ _ s;refine Zzq (ZCu ho hd (by simp) ?_);show wpAny _ _ (newExc (.type "StopIteration") [] >>= _) _ _ _;refine Zzq ?_;simp only[newExc,newTuple];refine Zzq (ZAw ?_ (by size_fits));refine Zzq (m:=ZDe _ _) (ZD5 (a:=ZAy) (by first | rfl | (simp only[ZDe]; rfl)) ?_)
 refine ZAw ?_ (by size_fits);simp only[raiseNew];refine Zzq (wpAny_handled ?_);rw[show A.in1.handled=none from hh];refine Zzq (Zzv (wpAny_throw ?_));refine Zzq (ZDJ (T:="StopIteration") (b:=true) ⟨_,ZzM _ rfl,rfl⟩ isSubtype_stop ?_);exact Zzv (hQ _ (((ZAB ..).extBut.push _).push _))
theorem ZtI(hh:A.handled=none)(I d:Addr)(hne:d≠I)(es:Array DictEntry)(ep:Nat) :
  Walks prog w A I [I,d] [I] es.size (λi v=>∃e,es[i]?=some e/\v=e.key) (λi h=>h.IsKeyIter I d i es.size ep/\Zfh h d es ep) where
 sub:=λb hb=>by simp at hb; simp[hb]
 frame:=λ_ _ _ st hk=>⟨st.1.at λo e=>hk I (by simp) o e,st.2.at' λo e=>hk d (by simp) o e⟩
 item:=λi s Q E hi st hQ=>by have hx:es[i]?=some es[i]:=ZBN hi;refine ZoN st.1 st.2 hx λh' hit' hs'=>?_;exact hQ _ h' s.toks ⟨_,hx,rfl⟩ ⟨hit',st.2.at' λo e=>hs'.extBut d o hne e⟩ λb o hb e=>hs'.extBut b o (λh=>hb (by simp[h])) e
 done:=λs Q E st hQ=>ZqN hh st.1 st.2 (ZzB _) λh' he'=>hQ h' s.toks λb o hb e=>he' b o (λh=>hb (by simp[h])) e
 self:=λ_ _ _ _ st hQ=>wpAny_pyIter_keyiter st.1 hQ
end
end HP
namespace HP
open PySem PySem.Spec PySem.W PySem.Calls PyProof.Rows L2
variable[FX]
section
variable{prog:Program}{w:World}{A:Around}{E:Value->Shared->Prop}{s:Shared}
theorem Zuy{r:Addr}{Q:Bool->Shared->Prop}(hT:s.TypeIs (.ref r) "set")(h:Q false s):wpAny (model prog w) A (ZDi (.ref r)) Q E s:=by
 unfold ZDi;refine Zzq (wpAny_specialOf hT PySem.F.slot_set_len.lookup ?_);generalize hid:("set.__len__":String)=id0
 wp_delta
 rw[show splitId id0=some ("set","__len__") from by subst hid; decide +kernel];subst hid;refine Zzq (ZDJ (T:="set") (b:=true) hT (by rw[isSubtype_type]; kernel_rfl) ?_);refine ZBF (λq=>absurd q (by decide)) λ_=>?_;refine ZBF (λ_=>?_) (λq=>absurd (by decide +kernel) q);exact Zzq (wpAny_typeOf hT (Zzv h))
theorem ZvS{d:Addr}{es:Array DictEntry}{ep:Nat}(lo:(d==ZA1)=false):KdlSrc prog w "dict" d d es.size (λi v=>∃e,es[i]?=some e/\v=e.key) (λh=>Zfh h d es ep) where
 type:=λ_ hm=>hm.typeIs
 there:=λ_ hm=>⟨hm.lt,hm.lt⟩
 keep:=λ_ _ hm hk=>hm.at' λo e=>hk d (.inl rfl) o e
 notList:=by decide
 notTuple:=by decide
 hint:=λ_ _ _ _ hm hq=>kdl_hint_dict hm.typeIs hq
 iter:=λ_ _ hh hm=>⟨_,_,(λ_ _ hq=>Zpi lo hm hq),ZtI hh _ d (ZzQ hm.lt) es ep,⟨⟨_,ZzM _ rfl,rfl,rfl⟩,hm.at' λo e=>Zzy _ e⟩⟩
theorem Ze1.typeIs{a:Addr}{es:Array (Int × Value)}{ep:Nat}{t:SetTable}(x:Ze1 w s.heap a es ep t):s.TypeIs (.ref a) "set":=let ⟨o,ho,hc,_⟩:=x.obj; ⟨o,ho,hc.1⟩
theorem Ze1.lt{h:Heap}{a:Addr}{es:Array (Int × Value)}{ep:Nat}{t:SetTable}(x:Ze1 w h a es ep t):a<h.objs.size:=let ⟨o,ho,_⟩:=x.obj; ZzJ ho
theorem Zwn{a:Addr}{es:Array (Int × Value)}{ep:Nat}{t:SetTable}:KdlSrc prog w "set" a a es.size (λi v=>∃e,(Zeo w a es ep)[i]?=some e/\v=e.2) (λh=>Ze1 w h a es ep t) where
 type:=λ_ hm=>hm.typeIs
 there:=λ_ hm=>⟨hm.lt,hm.lt⟩
 keep:=λ_ _ hm hk=>hm.at' λo e=>hk a (.inl rfl) o e
 notList:=by decide
 notTuple:=by decide
 hint:=λ_ _ _ _ hm hq=>Zuy hm.typeIs hq
 iter:=λ_ _ hh hm=>⟨_,_,(λ_ _ hq=>Zun hm hq),ZsH hh _ a (ZzQ hm.lt) es ep t,⟨0,⟨_,ZzM _ rfl,rfl,rfl⟩,hm.at' λo e=>Zzy _ e,λ_=>Zr7 hm.tab.rise⟩⟩
theorem ZhE{T:String}{r d:Addr}{n:Nat}{P:Nat->Value->Prop}{OK:Heap->Prop}{R:List Value->Shared->Prop}(K:KdlSrc prog w T r d n P OK)(hh:A.handled=none)(hok:OK s.heap)(hn:n<=sizeLine)
  (h:∀(h':Heap) (tk:Nat) (acc:Array Value),(∀b o,s.heap.get? b=some o->h'.get? b=some o)->s.heap.objs.size<h'.objs.size->ItemsOf P acc n->R acc.toList { s with heap:=h',toks:=tk }) :
  wpAny (model prog w) A (collect (.ref r)) R E s:=by
 have hlt:=K.there _ hok;unfold collect;refine Zzq (wpAny_runValue (ZAQ entry_proto_collect' ?_));rw[ZAz ZDj _];show wpAny _ A.in1 (newList [] >>= λl=>again (.builtin "list.__iadd__" ⟨[l,.ref r],[]⟩)) _ _ s;refine Zzq (ZAw (Zzv ⟨ZBK ZBW _,ZAQ entry_list_iadd' ?_⟩));rw[ZAz ZBW _];have hS₁:(s.heap.push { cls:=.type "list",data:=.seq ([]:List Value).toArray }).get? s.heap.objs.size=some { cls:=.type "list",data:=.seq #[] }:=ZzM _ rfl;show wpAny _ A.in1 (ZDk (.ref s.heap.objs.size) (.ref r) (.ref s.heap.objs.size)) _ _ _;refine ZAK (kdl_extend (A:=A) (s:={ s with heap:=s.heap.push { cls:=.type "list",data:=.seq ([]:List Value).toArray } })
  (R:=λ(q:Result) (s':Shared)=>∃(h':Heap) (tk:Nat) (acc':Array Value) (c':Nat),q=.ok (.ret (.ref s.heap.objs.size))/\s'={ s with heap:=h',toks:=tk } /\
   (∀b o,s.heap.get? b=some o->h'.get? b=some o)/\h'.get? s.heap.objs.size=some { cls:=.type "list",dict:=none,data:=.seq acc' c',slots:=#[] }/\ItemsOf P acc' n)
  K hh (K.keep _ _ hok λb _ o e=>Zzy _ e) s.heap.objs.size (ZCj hlt.1) (ZCj hlt.2) (.ref s.heap.objs.size) 0 hS₁
  (λh' tk acc' c' hk hS' hacc=>⟨h',tk,acc',c',rfl,rfl,λb o e=>hk b o (ZzQ (ZzJ e)) (Zzy _ e),hS',hacc⟩) hn) (λfin s' x=>?_) λe s' x=>?_
 ·have go:∀(h':Heap) (tk:Nat) (acc':Array Value) (c':Nat),(∀b o,s.heap.get? b=some o->h'.get? b=some o)->h'.get? s.heap.objs.size=some { cls:=.type "list",dict:=none,data:=.seq acc' c',slots:=#[] }->ItemsOf P acc' n ->
    wpAny (model prog w) A (load s.heap.objs.size >>= λo=>match o.data with | .seq xs _=>pure xs.toList | _=>unsupported "internal:collect") R E { s with heap:=h',toks:=tk }:=λh' tk acc' c' hk hS' hacc =>
   Zzq (wpAny_load hS' (Zzv (h h' tk acc' hk (ZzJ hS') hacc)))
  cases fin with
  | done f=>obtain⟨h',tk,acc',c',e,rfl,hk,hS',hacc⟩:=x;cases e;exact go h' tk acc' c' hk hS' hacc
  | again c₁=>refine⟨x.1,ZBr x.2 λq s₂ y=>?_⟩;obtain⟨h',tk,acc',c',rfl,rfl,hk,hS',hacc⟩:=y;exact go h' tk acc' c' hk hS' hacc
 ·obtain⟨_,_,_,_,e',_⟩:=x
  cases e'
end
inductive Zjk(K:Zzp)(F H:Hp)(p:Addr):List PyData->Prop where
 | lst {ds:List PyData} {vs:List V} (h:SqL K H p vs) (r:Zy K F ds vs):Zjk K F H p ds
 | tup {ds:List PyData} {vs:List V} (h:SqT K H p vs) (r:Zy K F ds vs):Zjk K F H p ds
 | dk {kvs:List (Key × V)} (h:H p=some (.dK kvs)):Zjk K F H p (kvs.map λq=>HM.ZaM q.1)
 | dt {kvs:List (List Key × V)} (h:H p=some (.dT kvs)):Zjk K F H p (kvs.map λq=>.tuple (q.1.map HM.ZaM))
theorem ZvG{K:Zzp}{F:Hp}(k:Key):Rep K F (HM.ZaM k) (kV k):=by
 cases k with
 | inl i=>exact .int i
 | inr x=>exact .str x
theorem Zg7{K:Zzp}{F:Hp}:∀(ks:List Key),Zy K F (ks.map HM.ZaM) (ks.map kV)
 | []=>.nil
 | k::ks=>.cons (ZvG k) (Zg7 ks)
theorem Zv8{P:Program}{w:World}{k:Key}{u:Value}(h:(Zay P w).is k u=true):RelV (kV k) u:=by
 rw[Zr5]at h;rcases Zbq h with⟨i,t,rfl,rfl⟩ | ⟨x,t,rfl,rfl⟩
 ·exact⟨t,rfl⟩
 ·exact⟨t,rfl⟩
section
variable{X:Cx}{pins:List (Addr × Obj)}{σ:L2.St}{H F:Hp}{s:Shared}{p:Addr}{ds:List PyData}
theorem ZhR:∀{vs:List V} {us:List Value},vs.length=us.length->(∀(i:Nat) v u,vs[i]?=some v->us[i]?=some u->RelV v u)->Vals vs us
 | [],[],_,_=>.nil
 | [],_::_,h,_=>by simp at h
 | _::_,[],h,_=>by simp at h
 | v::vs,u::us,h,k=>.cons (k 0 v u rfl rfl) (ZhR (by simpa using h) λi a b e1 e2=>k (i+1) a b (by simpa using e1) (by simpa using e2))
theorem Zjk.gath(I:Inv X pins σ H s)(sub:Zs F H)(h:Zjk X.K F H p ds):∃vs,Zy X.K (Zcl F H) ds vs/\∀(A:Around) (E:Value->Shared->Prop) (R:List Value->Shared->Prop),A.handled=none ->
  (∀us h' tk,Vals vs us->(∀b o,s.heap.get? b=some o->h'.get? b=some o)->R us { s with heap:=h',toks:=tk })->wpAny (model X.prog X.w) A (collect (.ref p)) R E s:=by
 cases h with
 | @lst _ vs h r=>obtain⟨its,rv,pl,hz⟩:=I.list h;obtain⟨o,ho,hcl,n,hd⟩:=pl.isList;refine⟨vs,r.mono (ZdZ sub),λA E R _ k=>wpAny_collect_seq p (.inl rfl) ho hcl hd (λh' kp=>?_) (by rw[ZzN,<-rv.length]; exact hz)⟩;exact k its h' s.toks rv kp
 | @tup _ vs h r=>obtain⟨its,rv,pl,hz⟩:=I.tuple h;obtain⟨o,ho,hcl,n,hd⟩:=pl;refine⟨vs,r.mono (ZdZ sub),λA E R _ k=>wpAny_collect_seq p (.inr rfl) ho hcl hd (λh' kp=>?_) (by rw[ZzN,<-rv.length]; exact hz)⟩;exact k its h' s.toks rv kp
 | @dk kvs h =>
  obtain⟨z,lo,vs,rel,dd⟩:=ZrP I.hok h;obtain⟨ep,hat⟩:=dd.dictAt;have hl:kvs.length=vs.length:=ZBX rel;refine⟨kvs.map λq=>kV q.1,?_,λA E R hh k=>ZhE (kdl_dict (knd:=Zay X.prog X.w) (kvs:=vs) (ep:=ep) lo) hh hat (by omega) λh' tk acc kp hsz hacc=>k _ h' tk ?_ kp⟩
  ·have:=Zg7 (K:=X.K) (F:=Zcl F H) (kvs.map (·.1))
   rw[ZzO,ZzO]at this;exact this
  ·refine ZhR (by have q:acc.toList.length=acc.size:=ZzV; rw[Zzr,q,hacc.1,hl]) λi v u e1 e2=>?_
   obtain⟨kk,x,q1,q2⟩:=hacc.2 i u (by rw[<-ZAp]; exact e2);rw[ZzR]at e1;obtain⟨q,e3,e4⟩:=Zzs.mp e1;subst e4;have key:∀{l:List (Key × V)} {m:List (Key × Value)},KV l m->∀(i:Nat) a b,l[i]?=some a->m[i]?=some b->a.1=b.1:=by
    intro l m r
    induction r with
    | nil=>intro i a b e; simp at e
    | cons hq _ ih =>
     intro i a b e1 e2;cases i with
     | zero=>simp at e1 e2; subst e1; subst e2; exact hq.1
     | succ i=>exact ih i a b (by simpa using e1) (by simpa using e2)
   have ek:=key rel i q (kk,x) e3 q1;rw[ek];exact Zv8 q2
 | @dt kvs h =>
  obtain⟨z,lo,xs,rel,o,es,ep,h1,h2,h3,h4,h5⟩:=(show Zah X.prog X.w H s.heap p (.dT kvs) from I.hok p _ h);have hl:kvs.length=xs.length:=ZBX rel;have hes:es.size=xs.length:=by rw[<-ZzV,h4,Zzr]
  have hm:Zfh s.heap p es ep:=⟨o,h1,h2,h3⟩;refine⟨xs.map λq=>V.ref q.2.1,?_,λA E R hh k=>ZhE (ZvS (es:=es) (ep:=ep) lo) hh hm (by omega) λh' tk acc kp hsz hacc=>k _ h' tk ?_ kp⟩
  ·clear h4 hes hl z h h5
   induction rel with
   | nil=>exact .nil
   | @cons p0 _ _ _ hq _ ih=>obtain⟨q1,q2,_⟩:=hq;rw[Zzw,Zzw];refine .cons ?_ ih;have rk:=Zg7 (K:=X.K) (F:=Zcl F H) p0.1;exact .tup (ZkO q2) rk.1 rk.2
  ·refine ZhR (by have q:acc.toList.length=acc.size:=ZzV; rw[Zzr,q,hacc.1,hes]) λi v u e1 e2=>?_
   obtain⟨e,q1,q2⟩:=hacc.2 i u (by rw[<-ZAp]; exact e2);subst q2;rw[ZzR]at e1;obtain⟨q,e3,e4⟩:=Zzs.mp e1;subst e4;rw[<-ZAp,h4,ZzR,e3]at q1;cases q1;rfl
theorem Zc4{K:Zzp}{F:Hp}:∀{ds:List PyData} {vs:List V} {ns:List Int},HM.ZaP ds=some ns->Zy K F ds vs->vs=ns.map V.int
 | [],vs,ns,h,r=>by cases h;exact r.nil_inv
 | d::ds,vs,ns,h,r=>by
  obtain⟨v,us,rfl,r1,r2⟩:=r.cons_inv;cases d with
  | int b=>obtain⟨bs',h1,h2⟩:=Zzs.mp h;subst h2;rw[r1.int_inv,Zc4 h1 r2];rfl
  | none=>cases h
  | bool _=>cases h
  | str _=>cases h
  | list _=>cases h
  | tuple _=>cases h
  | dict _=>cases h
theorem ZqI:∀(t:List Int),HM.ZaP (HM.ofInts t)=some t
 | []=>rfl
 | x::t=>by show(HM.ZaP (HM.ofInts t)).map (x::·)=_;rw[ZqI t];rfl
theorem ZoR:∀{ds:List PyData} {ns:List Int},HM.ZaP ds=some ns->ds=HM.ofInts ns
 | [],ns,h=>by cases h; rfl
 | d::ds,ns,h=>by
  cases d with
  | int b=>obtain⟨bs',h1,h2⟩:=Zzs.mp h;subst h2;rw[ZoR h1];rfl
  | none=>cases h
  | bool _=>cases h
  | str _=>cases h
  | list _=>cases h
  | tuple _=>cases h
  | dict _=>cases h
theorem ZfK{K:Zzp}{F:Hp}:∀(ns:List Int),Zy K F (HM.ofInts ns) (ns.map V.int)
 | []=>.nil
 | n::ns=>.cons (.int n) (ZfK ns)
theorem Zeu:∀{ns:List Int} {us:List Value},Vals (ns.map V.int) us->IntsAre us ns
 | [],_,r=>by rw[ZBf]at r; cases r; exact .nil
 | n::ns,_,r=>by
  rw[Zzw]at r;cases r with
  | cons h t=>obtain⟨u,rfl⟩:=h; exact .cons n u (Zeu t)
theorem Ziw:∀{us:List Value} {ns:List Int},IntsAre us ns->Vals (ns.map V.int) us
 | _,_,.nil=>.nil
 | _,_,.cons n t h=>.cons ⟨t,rfl⟩ (Ziw h)
theorem Zpj:∀{ds:List PyData} {ts:List (List Int)},HM.Zj8 ds=some ts->ds=HM.ZfG ts
 | [],ts,h=>by cases h; rfl
 | d::ds,ts,h=>by
  cases d with
  | tuple es =>
   unfold HM.Zj8 at h;split at h
   ·rename_i ns hn
    obtain⟨r',h1,h2⟩:=Zzs.mp h;subst h2;rw[ZoR hn,Zpj h1];rfl
   ·cases h
  | none=>cases h
  | bool _=>cases h
  | int _=>cases h
  | str _=>cases h
  | list _=>cases h
  | dict _=>cases h
theorem Zoa{ns ms:List Int}(h:ms.Perm ns)(hs:ms.Pairwise (·<=·)):ms=HM.sortI ns:=by refine ZiN (R:=(·<=·)) (λa b h1 h2=>by omega) (h.trans (ZCg ns _).symm) hs ?_;have:=ZCx (le:=λa b:Int=>decide (a<=b)) (λa b c h1 h2=>by simp at *; omega) (λa b=>by simp; omega) ns;exact this.imp λh=>by simpa using h
theorem Zu1{ts us:List (List Int)}(h:us.Perm ts)(hs:us.Pairwise (λx y=>HM.lexLt y x=false)):us=HM.Zee ts:=by
 refine ZiN (R:=λx y=>HM.lexLt y x=false) (λa b h1 h2=>Zjm a b h2 h1) (h.trans (ZCg ts _).symm) hs ?_;have:=ZCx (le:=λa b:List Int=>!HM.lexLt b a) (λa b c h1 h2=>by
  simp only[Bool.not_eq_true']at *;cases q:HM.lexLt c a with
  | false=>rfl
  | true =>
   rcases ZlY c b a q with z | z
   ·rw[h2]at z; cases z
   ·rw[h1]at z; cases z) (λa b=>by
  cases q:HM.lexLt b a with
  | false=>simp
  | true =>
   cases q2:HM.lexLt a b with
   | false=>simp
   | true=>have:=lex_trans _ _ _ q q2; rw[lex_irrefl]at this; cases this) ts
 exact this.imp λh=>by simpa using h
theorem Zkz{h:Heap}{a:Addr}{vs:List Value}{out:Array Value}{b:Addr}{o:Obj}(hb:b≠a)(e:h.get? b=some o):(sortedHeap h a vs out).get? b=some o:=by rw[sortedHeap_old hb (ZzJ e)]; exact e
theorem ZoU(hc:X.calm=true):Zbe X (.builtin "sorted") (λxs H Q=>∃p F ds ds',xs=[.ref p]/\Zs F H/\Zjk X.K F H p ds/\HM.ZfC ds=some ds'/\∀l ws,H l=none->Zy X.K (Zcl F H) ds' ws->Q (.ref l) (upd H l (.lst ws))):=by
 intro pins s σ H xs us Q I r h;obtain⟨p,F,ds,ds',rfl,sub,hsrc,hsort,q⟩:=h;obtain⟨u,rfl,rx⟩:=vals1 r;cases rx;obtain⟨vs,rv,go⟩:=hsrc.gath I sub;unfold HM.ZfC at hsort;split at hsort
 ·rename_i h64
  have hvl:=rv.1;refine ZDE kind_sorted plain_sorted entry_sorted (args_sorted1 _) ?_;unfold Builtin.«sorted»;refine Zzq (m:=checkCount "sorted" 1 1 _) (Zzv ?_);refine Zzq (go _ _ _ (I.ok.hd hc) λus h' tk ru kp=>?_);have hul:=ru.length;refine Zzq (wpAny_newList ?_ (by rw[ZAT]; omega));have hoL:(h'.push (seqObj "list" us.toArray 0)).get? h'.objs.size=some (seqObj "list" us.toArray 0):=ZzM _ rfl;have fin:∀(out:Array Value) (ws:List V),Vals ws out.toList->Zy X.K (Zcl F H) ds' ws->ws.length<64->EP X pins σ Q (.ref h'.objs.size) { s with heap:=sortedHeap (h'.push (seqObj "list" us.toArray 0)) h'.objs.size us out,toks:=tk }:=λout ws rw' rd hw=>by obtain⟨e,he⟩:=sortedHeap_at (out:=out) hoL;have I1:Inv X pins σ H { s with heap:=h',toks:=tk }:=I.kept kp;refine⟨.ref h'.objs.size,_,I1.laid (a:=h'.objs.size) (o:=.lst ws) (t':=tk) (λb o e1=>?_) (ZzB _) ⟨by rw[ZAT]; omega,out.toList,e,rw',by simpa using he⟩,rfl,q _ ws (I1.hok.fresh (ZzB _)) rd⟩;exact Zkz (ZzQ (ZzJ e1)) (Zzy _ e1)
  show wpAny _ _ _ _ _ { s with heap:=h'.push (seqObj "list" us.toArray 0),toks:=tk };split at hsort
  ·rename_i ns hns
   cases hsort;have evs:=Zc4 hns rv;rw[evs]at ru;have hI:=Zeu ru;refine Zzq (ZAE (ZAR slot_list_sort ⟨_,hoL,rfl⟩ ZDX (list_sort_tree hoL hI (by omega) λout ns' a1 a2 a3=>⟨_,rfl,?_⟩) (args_list_sort _)));refine Zzv ⟨_,rfl,?_⟩;have e:=Zoa a2 a3;have hl:ns'.length<64:=by rw[a2.length_eq,<-hI.length,<-hul]; omega
   refine fin out (ns'.map V.int) (Ziw a1) ?_ (by rw[Zzr]; exact hl);rw[<-e];exact ZfK ns'
  ·split at hsort
   ·rename_i ts hts
    split at hsort
    ·rename_i hne
     cases hsort;have eds:=Zpj hts;have hT:∀(i:Nat) t,ts[i]?=some t->∃b,us[i]?=some (.ref b)/\TI (h'.push (seqObj "list" us.toArray 0)) b t:=λi t e=>by
      have ed:ds[i]?=some (.tuple (HM.ofInts t)):=by rw[eds]; unfold HM.ZfG; rw[ZzR,e]; rfl
      obtain⟨v,hv,rp⟩:=rv.get ed;generalize hq:HM.ofInts t=q at rp;cases rp with
      | @tupk b x h1 =>
       exfalso;cases t with
       | nil=>cases hq
       | cons a t =>
        injection hq with e1 _
        cases e1
      | @tup b _ xs hb hl hr=>subst hq;obtain⟨u,hu,ru'⟩:=ru.get hv;cases ru';have ev:=Zc4 (F:=Zcl F H) (ZqI t) ⟨hl,hr⟩;subst ev;have hH:H b=some (.tup (t.map V.int)):=(Ext.refl sub).tups.sub _ _ hb;obtain⟨z,its,rt,o,h1,h2,n,h3⟩:=(show Zah X.prog X.w H s.heap b (.tup (t.map V.int)) from I.hok b _ hH);exact⟨b,hu,o,its.toArray,n,Zzy _ (kp b o h1),h2,h3,by simpa using Zeu rt⟩
     have hlt:ts.length=us.length:=by have:=congrArg ZAi eds;unfold HM.ZfG at this;rw[Zzr]at this;omega
     refine Zzq (ZAE (ZAR slot_list_sort ⟨_,hoL,rfl⟩ ZDX (ZtX hoL hlt hT ?_ (by omega) λpm hp hs=>⟨_,rfl,?_⟩) (args_list_sort _)))
     ·rw[ZA2]at hne
      rcases hne with z | z
      ·left
       have:=of_decide_eq_true z;omega
      ·right
       intro t ht e;have:=Zzz.mp z t ht;rw[e]at this;cases this
     ·refine Zzv ⟨_,rfl,?_⟩
      have hpl:pm.length=us.length:=by rw[hp.length_eq,ZBw]
      have hmem:∀i∈pm,i<us.length:=λi hi=>ZzP.mp (hp.mem_iff.mp hi);have e:(pm.map λi=>ts.getD i [])=HM.Zee ts:=by
       refine Zu1 ?_ hs;refine(hp.map _).trans ?_;have:(ZzA us.length).map (λi=>ts.getD i [])=ts:=by refine List.ext_getElem (by simp[hlt]) λi h1 h2=>?_;simp at h1;simp[ZAZ,show i<ts.length by omega]
       rw[this]
      refine fin _ (pm.map λi=>vs.getD i V.non) ?_ ?_ (by rw[Zzr]; omega)
      ·refine ZhR (by simp) λk v u e1 e2=>?_
       rw[ZzR]at e1;rw[List.toList_toArray,ZzR]at e2;obtain⟨i,hi,rfl⟩:=Zzs.mp e1;rw[hi]at e2;cases e2;have hlt':=hmem i (ZzU hi);have hv:vs[i]?=some (vs.getD i V.non):=by simp[ZAZ,show i<vs.length by omega]
       obtain⟨u,hu,ru'⟩:=ru.get hv;have:us.getD i ZAy=u:=by simp[ZAZ,hu]
       show RelV _ (us.getD i ZAy);rw[this];exact ru'
      ·rw[<-e]
       refine⟨by unfold HM.ZfG; simp,λk d v e1 e2=>?_⟩;unfold HM.ZfG at e1;rw[ZzR,ZzR]at e1;rw[ZzR]at e2;obtain⟨i,hi,rfl⟩:=Zzs.mp e2;rw[hi]at e1;have hlt':=hmem i (ZzU hi);have hd:ds[i]?=some d:=by
        rw[eds]; unfold HM.ZfG;rw[ZzR];have:ts[i]?=some (ts.getD i []):=by simp[ZAZ,show i<ts.length by omega]
        rw[this];exact e1
       have hv:vs[i]?=some (vs.getD i V.non):=by simp[ZAZ,show i<vs.length by omega]
       exact rv.2 i d _ hd hv
    ·cases hsort
   ·cases hsort
 ·cases hsort
end
end HP
namespace HP
open PySem PySem.Spec PySem.W PySem.Calls PyProof.Rows L2
variable[FX]
section
variable{prog:Program}{w:World}{A:Around}{E:Value->Shared->Prop}{s:Shared}
theorem Zni{r:Addr}{a b c:Int}{t u v:Tok}{n:Nat}{R:List Value->Shared->Prop}(hh:A.handled=none)(hr:IsRange s.heap r a b c t u v)(hsmall:ZEl a b c=true)(hn:ZBT a b c=n)(hlen:n<=2 ^ 24)
  (h:∀(h':Heap) (tk:Nat) (acc:Array Value),(∀b o,s.heap.get? b=some o->h'.get? b=some o)->ItemsOf (λi v=>∃t,v=.int (a+i*c) t) acc n->R acc.toList { s with heap:=h',toks:=tk }) :
  wpAny (model prog w) A (collect (.ref r)) R E s:=by
 unfold collect;refine Zzq (wpAny_runValue (ZAQ entry_proto_collect' ?_));rw[ZAz ZDj _];show wpAny _ A.in1 (newList [] >>= λl=>again (.builtin "list.__iadd__" ⟨[l,.ref r],[]⟩)) _ _ s;refine Zzq (ZAw (Zzv ⟨ZBK ZBW _,ZAQ entry_list_iadd' ?_⟩));rw[ZAz ZBW _];have hS₁:(s.heap.push { cls:=.type "list",data:=.seq ([]:List Value).toArray }).get? s.heap.objs.size=some { cls:=.type "list",data:=.seq #[] }:=ZzM _ rfl;show wpAny _ A.in1 (ZDk (.ref s.heap.objs.size) (.ref r) (.ref s.heap.objs.size)) _ _ _;have hr1:IsRange (s.heap.push { cls:=.type "list",data:=.seq ([]:List Value).toArray }) r a b c t u v:=Zzy _ hr;refine ZAK (wpAny_extend_range (A:=A) (s:={ s with heap:=s.heap.push { cls:=.type "list",data:=.seq ([]:List Value).toArray } })
  (R:=λ(q:Result) (s':Shared)=>∃(h':Heap) (tk:Nat) (acc':Array Value) (c':Nat),q=.ok (.ret (.ref s.heap.objs.size))/\s'={ s with heap:=h',toks:=tk } /\
   (∀b o,s.heap.get? b=some o->h'.get? b=some o)/\h'.get? s.heap.objs.size=some { cls:=.type "list",dict:=none,data:=.seq acc' c',slots:=#[] }/\ItemsOf (λi v=>∃t,v=.int (a+i*c) t) acc' n)
  hh hr1 hsmall hn hlen s.heap.objs.size (.ref s.heap.objs.size) 0 hS₁
  (λh' tk acc' c' hk hS' hacc=>⟨h',tk,acc',c',rfl,rfl,λb o e=>hk b o (ZzQ (ZzJ e)) (Zzy _ e),hS',hacc⟩)) (λfin s' x=>?_) λe s' x=>?_
 ·have go:∀(h':Heap) (tk:Nat) (acc':Array Value) (c':Nat),(∀b o,s.heap.get? b=some o->h'.get? b=some o)->h'.get? s.heap.objs.size=some { cls:=.type "list",dict:=none,data:=.seq acc' c',slots:=#[] }->ItemsOf (λi v=>∃t,v=.int (a+i*c) t) acc' n ->
    wpAny (model prog w) A (load s.heap.objs.size >>= λo=>match o.data with | .seq xs _=>pure xs.toList | _=>unsupported "internal:collect") R E { s with heap:=h',toks:=tk }:=λh' tk acc' c' hk hS' hacc =>
   Zzq (wpAny_load hS' (Zzv (h h' tk acc' hk hacc)))
  cases fin with
  | done f=>obtain⟨h',tk,acc',c',e,rfl,hk,hS',hacc⟩:=x;cases e;exact go h' tk acc' c' hk hS' hacc
  | again c₁=>refine⟨x.1,ZBr x.2 λq s₂ y=>?_⟩;obtain⟨h',tk,acc',c',rfl,rfl,hk,hS',hacc⟩:=y;exact go h' tk acc' c' hk hS' hacc
 ·obtain⟨_,_,_,_,e',_⟩:=x
  cases e'
end
theorem Zkf(r:Addr)(a b c:Int)(t u v:Tok)(n:Nat)(hsmall:ZEl a b c=true)(hn:ZBT a b c=n)(hlen:n<=2 ^ 24) :
  Meets (Builtin.«tuple.__new__» ⟨[.type "tuple",.ref r],[]⟩)
   (λA R s=>A.handled=none/\IsRange s.heap r a b c t u v/\∀(h':Heap) (tk:Nat) (acc:Array Value),(∀b o',s.heap.get? b=some o'->h'.get? b=some o')->ItemsOf (λi v=>∃t,v=.int (a+i*c) t) acc n ->
    R (.ok (.ret (.ref h'.objs.size))) { s with heap:=h'.push { cls:=.type "tuple",data:=.seq acc },toks:=tk }) :=
 .of_wp λprog w A R s h=>by
  obtain⟨hp,g,d,tk,os⟩:=s; obtain⟨hh,ht,h⟩:=h;have hsub:=PySem.sub_tuple_self;have hinit:=PySem.init_tuple_lookup;have hmh:=PySem.madeHere_tuple;have hT:Shared.TypeIs ⟨hp,g,d,tk,os⟩ (.ref r) "range":=⟨_,ht,rfl⟩;have hh1:A.in1.handled=none:=hh
  wp_walk using wpAny_typeOf hT,Zni hh1 ht hsmall hn hlen
  intro h' tk' acc hk hacc;show wpAny _ _ (ZDK acc.toList.toArray >>= λv=>ret v) _ _ _;unfold ZDK;have e:acc.toList.toArray=acc:=by simp
  rw[e];refine Zzq (ZAw ?_ (by show acc.size<=sizeLine; rw[hacc.1,ZAT]; omega));exact Zzv ⟨_,rfl,h h' tk' acc hk hacc⟩
section
variable{X:Cx}{a b c e:Expr}{fa fb fc:HM.EF}{pos p:Pos}{f:HM.BF}
theorem Zpv:Zbe X (.type "range") (λxs H Q=>∃j,xs=[.int j]/\∀l,H l=none->Q (.ref l) (upd H l (.rng 0 j))):=by intro pins s σ H xs us Q I r h;obtain⟨j,rfl,q⟩:=h;obtain⟨u,rfl,rx⟩:=vals1 r;obtain⟨t,rfl⟩:=rx;refine call_range_1 ⟨.ref s.heap.objs.size,_,I.laid (a:=s.heap.objs.size) (o:=.rng 0 j) (λb o e=>Zzy _ e) (ZzB _) ?_,rfl,q _ (I.hok.fresh (ZzB _))⟩;exact⟨_,_,_,ZzM _ rfl⟩
theorem Zqn(hc:X.calm=true):Zbe X (.type "tuple") (λxs H Q=>∃p lo hi,xs=[.ref p]/\H p=some (.rng lo hi)/\-1000000<lo/\lo<1000000/\-1000000<hi/\hi<1000000 /\
  ∀l,H l=none->Q (.ref l) (upd H l (.tup ((ZzA (hi-lo).toNat).map λ(k:Nat)=>V.int (lo+k))))):=by
 intro pins s σ H xs us Q I r h;obtain⟨p,lo,hi,rfl,hp,h1,h2,h3,h4,q⟩:=h;obtain⟨u,rfl,rx⟩:=vals1 r;cases rx;obtain⟨t,u,v,ho⟩:=(show Zah X.prog X.w H s.heap p (.rng lo hi) from I.hok p _ hp);have hn:ZBT lo hi 1=((hi-lo).toNat:Nat):=by rw[rangeSize_one]; split<;>omega
 refine callType_new PySem.F.called_tuple (by decide) (PySem.F.typeCall_tuple_1 _) (PySem.F.newCall_tuple_1 _) (λobj=>PySem.F.args_object_init_2 obj _) PySem.F.entry_tuple_new
  (Zkf p lo hi 1 t u v (hi-lo).toNat (small_one (by omega) (by omega) (by omega) (by omega)) hn (by omega)) ⟨I.ok.hd hc,ho,λh' tk' acc kp hacc=>⟨⟨_,ZzM _ rfl,rfl⟩,?_⟩⟩
 have I1:Inv X pins σ H { s with heap:=h',toks:=tk' }:=I.kept kp;have rv:Vals ((ZzA (hi-lo).toNat).map λ(k:Nat)=>V.int (lo+k)) acc.toList:=by
  refine ZhR (by have z:acc.toList.length=acc.size:=ZzV; rw[Zzr,ZBw,z,hacc.1]) λi v u e1 e2=>?_;rw[ZzR]at e1;obtain⟨k,hk,rfl⟩:=Zzs.mp e1;obtain⟨t,rfl⟩:=hacc.2 i u (by rw[<-ZAp]; exact e2);have:k=i:=by have:=ZzF.mp hk;obtain⟨_,e⟩:=this;simpa using e.symm
  subst this;exact⟨t,by simp⟩
 have I2:=I1.laid (a:=h'.objs.size) (o:=.tup ((ZzA (hi-lo).toNat).map λ(k:Nat)=>V.int (lo+k))) (h':=h'.push { cls:=.type "tuple",data:=.seq acc }) (t':=tk') (λb o e=>Zzy _ e) (ZzB _)
  ⟨by rw[Zzr,ZBw,ZAT]; omega,acc.toList,rv,by simpa using IsTup.new _ _⟩
 exact⟨.ref h'.objs.size,_,I2,rfl,q _ (I1.hok.fresh (ZzB _))⟩
theorem Zqk{K:Zzp}{F:Hp}(lo:Int)(n:Nat):Zy K F (HM.Zb4 lo n) ((ZzA n).map λ(k:Nat)=>V.int (lo+k)):=by unfold HM.Zb4;refine⟨by simp,λi d v e1 e2=>?_⟩;rw[ZzR]at e1 e2;obtain⟨k,hk,rfl⟩:=Zzs.mp e1;rw[hk]at e2;cases e2;exact .int _
theorem ZpG(hmt:X.mg "tuple" = none)(hm:X.mg "range" = none)(hc:X.calm=true)(ha:XE X a fa){p' pos':Pos}(hgt:Gl X "tuple":=by rfl)(hg:Gl X "range":=by rfl)(hs:ZzC [a] X.env=[(false,eval a X.env)]:=by rfl)
  (hs2:ZzC [ZEq (.Name "range" p') [a] [] pos'] X.env=[(false,eval (ZEq (.Name "range" p') [a] [] pos') X.env)]:=by rfl) :
  XE X (.Call (.Name "tuple" p) [.Call (.Name "range" p') [a] [] pos'] [] pos) (HM.ZkJ (HM.Zb8 fa)):=by
 intro r d hd;unfold HM.ZkJ at hd;split at hd
 ·rename_i ds hds
  split at hd
  ·cases hd
   unfold HM.Zb8 at hds;split at hds
   ·rename_i j hj
    split at hds
    ·rename_i hok
     cases hds;obtain⟨k1,k2⟩:=ZjP hok;refine PE.imp (ZdG (Zqn hc) hgt hmt ZkZ (Zas (ZdG Zpv hg hm boot_range (Zas (ha r _ hj) ZbV hs) (he:=hs)) ZbV hs2) (he:=hs2)) λσ H Q ⟨F0,H0,F,at_,k⟩=>?_;refine⟨F0,H0,F,at_,λv F1 H1 x1 r1=>⟨j,by rw[r1.int_inv],λl hl=>?_⟩⟩;refine⟨l,0,j,rfl,ZH,by omega,by omega,by omega,by omega,λl2 hl2=>?_⟩;have x2:=x1.lay' (o:=.rng 0 j) hl;have x3:=x2.lay (o:=.tup ((ZzA (j-0).toNat).map λ(k:Nat)=>V.int (0+k))) hl2;have rp:=Zqk (K:=X.K) (F:=upd F1 l2 (.tup ((ZzA (j-0).toNat).map λ(k:Nat)=>V.int (0+k)))) 0 j.toNat;have ej:(j-0).toNat=j.toNat:=by omega
     refine k _ _ _ x3 (.tup ZH ?_ ?_)
     ·rw[ej]; exact rp.1
     ·rw[ej]at rp ⊢; exact rp.2
    ·cases hds
   ·cases hds
  ·cases hd
 ·cases hd
theorem Ztc{K:Zzp}{F H:Hp}{q:HM.B}{v:V}{fp:List Addr}{ds:List PyData}(sub:Zs F H)(r:Zai K F H q v fp)(h:HM.Zvq q=some ds):∃a,v=.ref a/\Zjk K F H a ds:=by
 cases r with
 | pl r =>
  cases r with
  | tup h1 h2 h3=>cases h; exact⟨_,rfl,.tup (.of (sub _ _ h1)) ⟨h2,h3⟩⟩
  | @tupk a x h1=>cases h; exact⟨_,rfl,.tup (.inr h1) (.one (.str x))⟩
  | lst h1 h2 h3=>cases h; exact⟨_,rfl,.lst (sub.seq h1) ⟨h2,h3⟩⟩
  | dct _ _ _ _=>cases h
  | fn _=>cases h
  | non=>cases h
  | bl _=>cases h
  | int _=>cases h
  | str _=>cases h
 | ol h1 r=>cases h; exact⟨_,rfl,.lst (.of h1) r⟩
 | hd _ _ _ _=>cases h
 | hf _=>cases h
 | @ok a kvs vvs h1 h2 h3 =>
  cases h;refine⟨_,rfl,?_⟩;have e:(kvs.map λp=>HM.ZaM p.1)=vvs.map λp=>HM.ZaM p.1:=by
   have:=congrArg (ZDb HM.ZaM) h2
   rwa [ZzO,ZzO]at this
  rw[e];exact .dk h1
 | @ot a kvs vvs h1 h2 h3 =>
  cases h;refine⟨_,rfl,?_⟩;have e:(kvs.map λp=>Zz1 (p.1.map HM.ZaM))=vvs.map λp=>Zz1 (p.1.map HM.ZaM):=by
   have:=congrArg (ZDb λk:List Key=>Zz1 (k.map HM.ZaM)) h2
   rwa [ZzO,ZzO]at this
  rw[e];exact .dt h1
 | @otl a kvs vvs ls h1 h2 h3 h4 =>
  cases h;refine⟨_,rfl,?_⟩;have e:(kvs.map λp=>Zz1 (p.1.map HM.ZaM))=vvs.map λp=>Zz1 (p.1.map HM.ZaM):=by
   have:=congrArg (ZDb λk:List Key=>Zz1 (k.map HM.ZaM)) h2
   rwa [ZzO,ZzO]at this
  rw[e];exact .dt h1
theorem ZgZ(hm:X.mg "sorted" = none)(hc:X.calm=true)(ha:XB X a f)(hg:Gl X "sorted":=by rfl)(hs:ZzC [a] X.env=[(false,eval a X.env)]:=by rfl):XF X (.Call (.Name "sorted" p) [a] [] pos) (HM.Zgi f):=by
 intro r d h;unfold HM.Zgi at h;split at h
 ·rename_i x hx
  split at h
  ·rename_i ds hds
   obtain⟨ds',h1,h2⟩:=Zzs.mp h;subst h2;refine PE.imp (ZdL (ZoU hc) hg hm Zmv (ZfI ha hx hs) (he:=hs)) λσ H Q ⟨F0,H0,F,at_,k⟩=>?_;refine⟨F0,H0,F,at_,λv fp F1 H1 x1 r1=>?_⟩;obtain⟨l,e1,src⟩:=Ztc x1.sub r1 hds;subst e1;exact⟨l,F1,ds,ds',rfl,x1.sub,src,h1,λl' ws hl' rs=>Zfk (P:=λv _ H'=>Q v H') x1.tups rs hl' k⟩
  ·cases h
 ·cases h
theorem Ztn(hc:X.calm=true):Zbe X (.type "set") (λxs H Q=>∃p ns,xs=[.ref p]/\SqL X.K H p (ns.map V.int)/\(∀n∈ns,0<=n/\n<8)/\∀l,H l=none->Q (.ref l) (upd H l (.ext λh=>Zd1 X.prog X.w h l (HM.dedup [] ns)))):=by intro pins s σ H xs us Q I r h;obtain⟨p,ns,rfl,hq,hb,q⟩:=h;obtain⟨u,rfl,rx⟩:=vals1 r;cases rx;obtain⟨its,rv,pl,hz⟩:=I.list hq;refine Ztx (I.ok.hd hc) pl.isList (by simpa using Zeu rv) hb λh' tk hS kp=>?_;have hS':=hS;obtain⟨o,es,ep,t,ho,_⟩:=hS';refine⟨.ref s.heap.objs.size,_,I.laid (a:=s.heap.objs.size) (o:=.ext λh=>Zd1 X.prog X.w h s.heap.objs.size (HM.dedup [] ns)) (λb o e=>kp b o (ZzJ e) e) (ZzB _) ?_,rfl,q _ (I.hok.fresh (ZzB _))⟩;exact⟨hS,⟨o,ho⟩,λh1 h2 x kk=>x.at' kk⟩
theorem ZoX(hc:X.calm=true):Zbe X (.builtin "sorted") (λxs H Q=>∃p L,xs=[.ref p]/\H p=some (.ext λh=>Zd1 X.prog X.w h p L)/\∀l,H l=none->Q (.ref l) (upd H l (.lst ((HM.sortI L).map V.int)))):=by
 intro pins s σ H xs us Q I r h;obtain⟨p,L,rfl,hp,q⟩:=h;obtain⟨u,rfl,rx⟩:=vals1 r;cases rx;obtain⟨hX,_,_⟩:=(show Zah X.prog X.w H s.heap p (.ext λh=>Zd1 X.prog X.w h p L) from I.hok p _ hp);obtain⟨o,es,ep,t,ho,hex,hd,hen,hpm,hpl,ht⟩:=hX;have hsz:=size_of hpl;have hfew:=ht.few;have raw:Ze1 X.w s.heap p es ep t:=⟨⟨o,ho,hex,hd⟩,by rw[hsz]; exact ht.fits,hsz,ht⟩;refine ZDE kind_sorted plain_sorted entry_sorted (args_sorted1 _) ?_;unfold Builtin.«sorted»;refine Zzq (m:=checkCount "sorted" 1 1 _) (Zzv ?_);refine Zzq (ZhE (Zwn (es:=es) (ep:=ep) (t:=t)) (I.ok.hd hc) raw (by rw[ZAT]; omega) λh' tk acc kp _ hacc=>?_);have hal:acc.toList.length=es.size:=by rw[ZzV]; exact hacc.1
 have hI:IntsAre acc.toList ((Zeo X.w p es ep).toList.map Ze0):=by
  have key:∀(us:List Value) (xs:List (Int × Value)),us.length=xs.length->(∀(i:Nat) u,us[i]?=some u->∃e,xs[i]?=some e/\u=e.2)->(∀e∈xs,∃n t,e=((intKind X.prog X.w).hash n,ZBl n t))->IntsAre us (xs.map Ze0):=by
   intro us
   induction us with
   | nil=>intro xs hl _ _; cases xs with | nil=>exact .nil | cons _ _=>simp at hl
   | cons u us ih =>
    intro xs hl hk he;cases xs with
    | nil=>simp at hl
    | cons x xs=>obtain⟨e,e1,e2⟩:=hk 0 u rfl;simp at e1;subst e1;obtain⟨n,t,e3⟩:=he x (Zzt ..);rw[e2,e3];exact .cons n t (ih xs (by simpa using hl) (λi u e=>hk (i+1) u (by simpa using e)) λe h=>he e (Zzu _ h))
  refine key acc.toList (Zeo X.w p es ep).toList (by rw[hal,ZzV,ZjB]) (λi u e=>?_) λe h=>hen e ((Zjn X.w p es ep).mem_iff.mp h);obtain⟨e',e1,e2⟩:=hacc.2 i u (by rw[<-ZAp]; exact e);exact⟨e',by rw[ZAp]; exact e1,e2⟩
 refine Zzq (wpAny_newList ?_ (by rw[hal,ZAT]; omega));have hoL:(h'.push (seqObj "list" acc.toList.toArray 0)).get? h'.objs.size=some (seqObj "list" acc.toList.toArray 0):=ZzM _ rfl;show wpAny _ _ _ _ _ { s with heap:=h'.push (seqObj "list" acc.toList.toArray 0),toks:=tk };refine Zzq (ZAE (ZAR slot_list_sort ⟨_,hoL,rfl⟩ ZDX (list_sort_tree hoL hI (by omega) λout ns' a1 a2 a3=>⟨_,rfl,?_⟩) (args_list_sort _)));refine Zzv ⟨_,rfl,?_⟩;have e:ns'=HM.sortI L:=Zoa (a2.trans (((Zjn X.w p es ep).map Ze0).trans hpm)) a3;have hl:ns'.length<64:=by rw[a2.length_eq,<-hI.length,hal]; omega
 obtain⟨ee,he⟩:=sortedHeap_at (out:=out) hoL;have I1:Inv X pins σ H { s with heap:=h',toks:=tk }:=I.kept kp;refine⟨.ref h'.objs.size,_,I1.laid (a:=h'.objs.size) (o:=.lst (ns'.map V.int)) (t':=tk) (λb o e1=>?_) (ZzB _) ⟨by rw[Zzr,ZAT]; omega,out.toList,ee,Ziw a1,by simpa using he⟩,rfl,?_⟩
 ·exact Zkz (ZzQ (ZzJ e1)) (Zzy _ e1)
 ·rw[e]; exact q _ (I1.hok.fresh (ZzB _))
theorem Zi0(hm:X.mg "sorted" = none)(hm2:X.mg "set" = none)(hc:X.calm=true){p' pos':Pos}(ha:XB X a f)(hg:Gl X "sorted":=by rfl)(hg2:Gl X "set":=by rfl)(hs:ZzC [a] X.env=[(false,eval a X.env)]:=by rfl)
  (hs2:ZzC [ZEq (.Name "set" p') [a] [] pos'] X.env=[(false,eval (ZEq (.Name "set" p') [a] [] pos') X.env)]:=by rfl) :
  XF X (.Call (.Name "sorted" p) [.Call (.Name "set" p') [a] [] pos'] [] pos) (HM.Zf7 f):=by
 intro r d h;unfold HM.Zf7 at h;split at h
 ·rename_i x hx
  split at h
  ·rename_i ds hds
   split at h
   ·rename_i ns hns
    split at h
    ·rename_i hlow
     cases h;refine PE.imp (ZdL (ZoX hc) hg hm Zmv (Zas (ZdG (Ztn hc) hg2 hm2 ZxP (ZfI ha hx hs) (he:=hs)) ZbV hs2) (he:=hs2)) λσ H Q ⟨F0,H0,F,at_,k⟩=>?_;refine⟨F0,H0,F,at_,λv fp F1 H1 x1 r1=>?_⟩;obtain⟨l,vs,e1,hq,rs⟩:=ZgN x1.sub r1 hds;subst e1;rw[Zc4 hns rs]at hq;refine⟨l,ns,rfl,hq,λn hn=>?_,λl2 hl2=>⟨l2,_,rfl,ZH,λl3 hl3=>?_⟩⟩
     ·have:=Zzz.mp hlow n hn
      rw[ZzK,decide_eq_true_eq,decide_eq_true_eq]at this;exact this
     ·have x2:=x1.lay' (o:=.ext λh=>Zd1 X.prog X.w h l2 (HM.dedup [] ns)) hl2
      exact Zfk (P:=λv _ H'=>Q v H') x2 (ZfK _) hl3 k
    ·cases h
   ·cases h
  ·cases h
 ·cases h
end
end HP
namespace HP
open PySem PySem.Spec PyProof.Rows L2
variable[FX]
section
variable{X:Cx}{a b:Expr}{fa:HM.EF}{f:HM.BF}{pos:Pos}
theorem ZkY(i:Int):∀ns:List Int,inV (.int i) (ns.map V.int)=ns.contains i
 | []=>rfl
 | n::ns=>by have ih:=ZkY i ns;unfold inV at ih ⊢;rw[Zzw,ZA8,ih,List.contains_cons];show(n==i||_)=(i==n||_);rw[show(n==i)=(i==n) from ZC2.mpr ⟨λh=>beq_iff_eq.mpr (beq_iff_eq.mp h).symm,λh=>beq_iff_eq.mpr (beq_iff_eq.mp h).symm⟩]
theorem Zjv:∀ns:List Int,(ns.map V.int).all Zbg=true
 | []=>rfl
 | n::ns=>by rw[Zzw,ZAF,Zjv ns]; rfl
theorem Zt3{r:HM.Env}{d:PyData}(h:HM.Zoi fa f r=some d):∃i q ds ns,fa r=some (.int i)/\f r=some q/\HM.Zbo q=some ds/\HM.ZaP ds=some ns/\d=.bool (ns.contains i):=by
 unfold HM.Zoi at h;split at h
 ·split at h
  ·split at h
   ·obtain⟨c,h1,h2⟩:=Zzs.mp h
    obtain⟨ns,h3,h4⟩:=Zzs.mp h1;exact⟨_,_,_,ns,by assumption,by assumption,by assumption,h3,by rw[<-h2,<-h4]⟩
   ·cases h
  ·cases h
 ·cases h
theorem Zqs{r:HM.Env}{d:PyData}(h:HM.ZhZ fa f r=some d):∃i q ds ns,fa r=some (.int i)/\f r=some q/\HM.Zbo q=some ds/\HM.ZaP ds=some ns/\d=.bool (!ns.contains i):=by
 unfold HM.ZhZ at h;split at h
 ·split at h
  ·split at h
   ·obtain⟨c,h1,h2⟩:=Zzs.mp h
    obtain⟨ns,h3,h4⟩:=Zzs.mp h1;exact⟨_,_,_,ns,by assumption,by assumption,by assumption,h3,by rw[<-h2,<-h4]⟩
   ·cases h
  ·cases h
 ·cases h
theorem ZuK{neg:Bool}{r:HM.Env}{i:Int}{q:HM.B}{ds:List PyData}{ns:List Int}(ha:XE X a fa)(hb:XB X b f)(h1:fa r=some (.int i))(h2:f r=some q)(h3:HM.Zbo q=some ds)(h4:HM.ZaP ds=some ns){op:CmpOp}(ho:OpR X (ZAu op) (rIn X.K neg))(hm:ZAD op b=false) :
  PE X (.Compare a [op] [b] pos) (tAt X.K r λ_ F' _ v=>v=.bl (if neg then !ns.contains i else ns.contains i)):=by
 refine PE.imp (Zq1 ho (ha r _ h1) (hb r q h2) hm) λσ H Q ⟨F0,H0,F,at_,k⟩=>?_;refine⟨F0,H0,F,at_,λv F1 H1 x1 r1=>⟨F0,H0,F1,at_.grow x1,λw F2 H2 x2 ⟨fp,r2⟩=>?_⟩⟩;obtain⟨p,vs,e1,hq,rs⟩:=ZgR x2.sub r2 h3;cases r1;rw[Zc4 h4 rs]at hq;refine⟨p,_,e1,hq,rfl,Zjv ns,k _ F2 H2 (x1.trans x2) ?_⟩;rw[ZkY]
theorem Zt0{neg:Bool}{r:HM.Env}{i:Int}{q:HM.B}{ds:List PyData}{ns:List Int}(ha:XE X a fa)(hb:XB X b f)(h1:fa r=some (.int i))(h2:f r=some q)(h3:HM.Zbo q=some ds)(h4:HM.ZaP ds=some ns){op:CmpOp}(ho:OpR X (ZAu op) (rIn X.K neg))(hm:ZAD op b=false) :
  PT X (.Compare a [op] [b] pos) λσ H Q=>Now X.K r σ H λF0 H0 F=>∀F' H',Ext F H F' H'->Q (if neg then !ns.contains i else ns.contains i) H':=by
 refine PT.imp (ZlS ho (ha r _ h1) (hb r q h2) hm) λσ H Q ⟨F0,H0,F,at_,k⟩=>?_;refine⟨F0,H0,F,at_,λv F1 H1 x1 r1=>⟨F0,H0,F1,at_.grow x1,λw F2 H2 x2 ⟨fp,r2⟩=>?_⟩⟩;obtain⟨p,vs,e1,hq,rs⟩:=ZgR x2.sub r2 h3;cases r1;rw[Zc4 h4 rs]at hq;refine⟨p,_,e1,hq,rfl,Zjv ns,_,rfl,?_⟩;rw[ZkY];exact k F2 H2 (x1.trans x2)
theorem Zwx(ha:XE X a fa)(hb:XB X b f)(hm:ZAD .In b=false:=by rfl):XE X (.Compare a [.In] [b] pos) (HM.Zoi fa f):=by intro r d h;obtain⟨i,q,ds,ns,h1,h2,h3,h4,rfl⟩:=Zt3 h;refine PE.imp (ZuK ha hb h1 h2 h3 h4 ZsS hm) λσ H Q ⟨F0,H0,F,at_,k⟩=>⟨F0,H0,F,at_,λv F' H' x e=>k v F' H' x ?_⟩;subst e;exact .bl _
theorem Zsi(ha:XE X a fa)(hb:XB X b f)(hm:ZAD .NotIn b=false:=by rfl):XT X (.Compare a [.NotIn] [b] pos) (HM.tV (HM.ZhZ fa f)):=by intro r d h;obtain⟨i,q,ds,ns,h1,h2,h3,h4,e⟩:=Zqs (ZfL h);cases e;exact Zt0 ha hb h1 h2 h3 h4 ZoF hm
end
end HP
namespace HP
open PySem PySem.Spec PyProof.Rows L2
variable[FX]
section
variable{X:Cx}{c e:Expr}{fa:HM.EF}{t:HM.TF}{g:HM.SF}{pos:Pos}{body:List Stmt}
theorem ZkC(n:Nat)(hxe:X.xe=λ_ _=>False)(hc:XT X c t)(hb:XSs X body g):XS X (.While c body [] pos) (HM.Zly n t g):=by
 intro r o ho;have ho:HM.Za4 t g n r=some o:=ho;have pb:PSs X body (λE σ H=>∃r o,g r=some o/\tSt X.K r o E σ H):=λpins s σ H E I ⟨r,o,h1,h2⟩=>hb r o h1 pins s σ H E I h2;have pc:PT X c (λσ H Q=>∃r b,t r=some b/\Now X.K r σ H λF0 H0 F=>∀F' H',Ext F H F' H'->Q b H'):=λpins s σ H Q I ⟨r,b,h1,h2⟩=>hc r b h1 pins s σ H Q I h2;refine PS.imp (ZuB (ZmB hxe) pc pb) λE σ H ⟨F0,H0,F,at_,k⟩=>?_;refine⟨λm σ H=>∃F r,At X.K F0 H0 F H r σ/\HM.Za4 t g m r=some o,⟨n,F,r,at_,ho⟩,?_⟩
 rintro m σ H ⟨F2,r2,at2,go⟩
 cases m with
 | zero=>cases go
 | succ m =>
  unfold HM.Za4 at go;split at go
  ·rename_i ht
   refine⟨r2,true,ht,F0,H0,F2,at2,λF' H' x=>?_⟩;dsimp only;rw[if_pos rfl];have at3:=at2.grow x;have a4:=at3.rebase;refine⟨λσ' H'=>∃F r,At X.K F0 H0 F H' r σ'/\HM.Za4 t g m r=some o,λσ' H' q=>⟨m,ZBQ m,q⟩,?_⟩;split at go
   ·rename_i r' hr
    exact⟨_,_,hr,F',H0,F',a4,λσ' F' H' a'=>⟨F',r',a'.unbase at3.ext at3.nt0,go⟩⟩
   ·rename_i r' hr
    exact⟨_,_,hr,F',H0,F',a4,λσ' F' H' a'=>⟨F',r',a'.unbase at3.ext at3.nt0,go⟩⟩
   ·rename_i r' hr
    cases go;exact⟨_,_,hr,F',H0,F',a4,λσ' F' H' a'=>k σ' F' H' (a'.unbase at3.ext at3.nt0)⟩
   ·rename_i d hr
    cases go;exact⟨_,_,hr,F',H0,F',a4,λv F' H' x q=>k v F' H' (at3.ext.unbase x) q⟩
   ·cases go
  ·rename_i ht
   cases go;refine⟨r2,false,ht,F0,H0,F2,at2,λF' H' x=>?_⟩;dsimp only;rw[if_neg (by simp)];exact k σ F' H' (at2.grow x)
  ·cases go
end
end HP
namespace HP
open PySem PySem.Spec PyProof.Rows L2
variable[FX]
section
variable{X:Cx}{a b:Expr}{fa:HM.EF}{f:HM.BF}{pos:Pos}
theorem ZsF{e:Value->Bool}{f:PyData->Bool}:∀{ds:List PyData} {us:List Value},ds.length=us.length->(∀(i:Nat) d u,ds[i]?=some d->us[i]?=some u->e u=f d)->us.any e=ds.any f
 | [],[],_,_=>rfl
 | [],_::_,hl,_=>by simp at hl
 | _::_,[],hl,_=>by simp at hl
 | d::ds,u::us,hl,k=>by rw[ZA8,ZA8,k 0 d u rfl rfl,ZsF (ds:=ds) (us:=us) (by simpa using hl) λi d u e1 e2=>k (i+1) d u (by simpa using e1) (by simpa using e2)]
def ZxI(K:Zzp)(neg:Bool):R2:=λvx vy H Q=>∃F p xs x ds,Zs F H/\vy=.ref p/\(SqL K H p xs\/SqT K H p xs)/\Rep K F x vx/\Zy K F ds xs/\HM.Zag x=true/\ds.all HM.Zag=true /\
 Q (.bl (if neg then !ds.any λd=>ZAr d x else ds.any λd=>ZAr d x)) H
open Classical in
noncomputable def ZhI (h:Heap) (x:PyData) (u:Value):Bool:=decide (∃d as,Reads h u d as/\d.canLay0=true/\ZAr d x=true)
theorem Ztq{h:Heap}{x d:PyData}{u:Value}{as:List Addr}(r:Reads h u d as)(hl:d.canLay0=true):ZhI h x u=ZAr d x:=by
 classical
 unfold ZhI;cases q:ZAr d x with
 | true=>exact decide_eq_true ⟨d,as,r,hl,q⟩
 | false=>refine decide_eq_false λ⟨d',as',r',hl',q'⟩=>?_;rw[SeqAt.Reads.unique d d' u as as' hl r r']at q;rw[q]at q';cases q'
theorem Zow{k:Nat}(hr:Zal k X.A){pins:List (Addr × Obj)}{s:Shared}{σ:L2.St}{H F:Hp}{x:PyData}{vx:V}{u:Value}{ds:List PyData}{xs:List V}{its:List Value}(I:Inv X pins σ H s)(sub:Zs F H)(rx:Rep X.K F x vx)(ru:RelV vx u)(rs:Zy X.K F ds xs)(rv:Vals xs its)(px:HM.Zag x=true)(pd:ds.all HM.Zag=true) :
  (∀y∈its,SeqAt.EqAt X.A.in1 s y u (ZhI s.heap x y))/\its.any (ZhI s.heap x)=ds.any λd=>ZAr d x:=by
 obtain⟨x1,x2⟩:=Zc6 px;obtain⟨as,hx⟩:=rx.reads I sub x1 u ru;have hun:=hr.un;have each:∀(i:Nat) d y,ds[i]?=some d->its[i]?=some y->(∃bs,Reads s.heap y d bs)/\d.canLay0=true/\d.depth<=60:=λi d y e1 e2=>by
  have hi:i<xs.length:=by rw[<-rs.1]; exact(ZzF.mp e1).1
  obtain⟨y',q1,q2⟩:=rv.get (ZzD hi);rw[e2]at q1;cases q1;have hp:=Zc6 (Zzz.mp pd d (ZzU e1));exact⟨(rs.2 i d _ e1 (ZzD hi)).reads I sub hp.1 y q2,hp⟩
 have hl:ds.length=its.length:=rs.1.trans rv.length;refine⟨λy hy=>?_,ZsF hl λi d y e1 e2=>?_⟩
 ·obtain⟨i,hi,e⟩:=ZBz hy
  have hi':i<ds.length:=by omega
  obtain⟨⟨bs,q⟩,h1,h2⟩:=each i ds[i] y (ZzD hi') (by rw[ZzD hi,e]);rw[Ztq q h1];refine SeqAt.eqAt_reads _ _ _ _ _ _ _ _ q hx h1 x1 ?_;have:min (ds[i]).depth x.depth<=60:=ZAd (ZDU _ _) h2;show X.A.units+1+_<_;omega
 ·obtain⟨⟨bs,q⟩,h1,_⟩:=each i d y e1 e2
  exact Ztq q h1
theorem ZsW{k:Nat}(hr:Zal k X.A):OpR X (ZAu .NotIn) (ZxI X.K true):=by
 intro pins s σ H vx vy v u Q I r1 r2 ⟨F,p,xs,x,ds,sub,e,hq,rx,rs,px,pd,q⟩;subst e;cases r2;rcases hq with hq | hq
 ·obtain⟨its,r,pl,hz⟩:=I.list hq
  obtain⟨h1,h2⟩:=Zow hr I sub rx r1 rs r px pd;refine SeqAt.notIn_listAt (ZhI s.heap x) pl.isList (λw hw=>h1 w (by simpa using hw)) ⟨.bl _,H,I,rfl,?_⟩;rw[show its.toArray.any (ZhI s.heap x)=its.any (ZhI s.heap x) by simp,h2];exact q
 ·obtain⟨its,r,pl,hz⟩:=I.tuple hq
  obtain⟨h1,h2⟩:=Zow hr I sub rx r1 rs r px pd;refine SeqAt.notIn_tupleAt (ZhI s.heap x) pl (λw hw=>h1 w (by simpa using hw)) ⟨.bl _,H,I,rfl,?_⟩;rw[show its.toArray.any (ZhI s.heap x)=its.any (ZhI s.heap x) by simp,h2];exact q
theorem Zu0{ds:List PyData}{x:PyData}{c:Bool}(h:HM.Zpb ds x=some c):HM.Zag x=true/\ds.all HM.Zag=true/\c=ds.any λd=>ZAr d x:=by
 unfold HM.Zpb at h;split at h
 ·rename_i hp
  rw[ZzK]at hp;cases h;exact⟨hp.1,hp.2,rfl⟩
 ·cases h
theorem Zqp{r:HM.Env}{d:PyData}(h:HM.ZhY fa f r=some d):∃x q ds,fa r=some x/\f r=some q/\HM.Zbo q=some ds/\HM.Zag x=true/\ds.all HM.Zag=true/\d=.bool (!ds.any λd=>ZAr d x):=by
 unfold HM.ZhY at h;split at h
 ·split at h
  ·split at h
   ·obtain⟨c,h1,h2⟩:=Zzs.mp h
    obtain⟨h3,h4,h5⟩:=Zu0 h1;exact⟨_,_,_,by assumption,by assumption,by assumption,h3,h4,by rw[<-h2,<-h5]⟩
   ·cases h
  ·cases h
 ·cases h
theorem Zt7{neg:Bool}{r:HM.Env}{x:PyData}{q:HM.B}{ds:List PyData}(ha:XE X a fa)(hb:XB X b f)(h1:fa r=some x)(h2:f r=some q)(h3:HM.Zbo q=some ds)(p1:HM.Zag x=true)(p2:ds.all HM.Zag=true){op:CmpOp}(ho:OpR X (ZAu op) (ZxI X.K neg))(hm:ZAD op b=false) :
  PT X (.Compare a [op] [b] pos) λσ H Q=>Now X.K r σ H λF0 H0 F=>∀F' H',Ext F H F' H'->Q (if neg then !ds.any λd=>ZAr d x else ds.any λd=>ZAr d x) H':=by
 refine PT.imp (ZlS ho (ha r _ h1) (hb r q h2) hm) λσ H Q ⟨F0,H0,F,at_,k⟩=>?_;refine⟨F0,H0,F,at_,λv F1 H1 x1 r1=>⟨F0,H0,F1,at_.grow x1,λw F2 H2 x2 ⟨fp,r2⟩=>?_⟩⟩;obtain⟨p,vs,e1,hq,rs⟩:=ZgR x2.sub r2 h3;exact⟨F2,p,vs,x,ds,x2.sub,e1,hq,r1.mono x2.ff,rs,p1,p2,_,rfl,k F2 H2 (x1.trans x2)⟩
theorem Zsj{k:Nat}(hr:Zal k X.A)(ha:XE X a fa)(hb:XB X b f)(hm:ZAD .NotIn b=false:=by rfl):XT X (.Compare a [.NotIn] [b] pos) (HM.tV (HM.ZhY fa f)):=by intro r d h;obtain⟨x,q,ds,h1,h2,h3,h4,h5,e⟩:=Zqp (ZfL h);cases e;exact Zt7 ha hb h1 h2 h3 h4 h5 (ZsW hr) hm
end
end HP
namespace HP
open PySem PySem.Spec PyProof.Rows L2
variable[FX]
section
variable{X:Cx}{a b c e:Expr}{fa fb fc:HM.EF}{f:HM.BF}{pos p:Pos}{es:List Expr}
theorem rdT{F F':Hp}{a:Addr}{vvs:List (List Key × V)}(r:Rd F a (.dT vvs))(s:ZaG F F'):Rd F' a (.dT vvs):=r.imp (λh=>s _ _ h) λ⟨o,h⟩=>⟨o,s _ _ h⟩
theorem Znm{H:Hp}{a b:Addr}{kvs:List (List Key × V)}{k:List Key}(e:Rd H a (.dT kvs))(eb:H b=some (.tup (k.map kV))):Zcm H a (.ref b) (ZaS kvs k):=.inr ⟨kvs,k,b,e,rfl,eb,rfl⟩
theorem Zix{K:Zzp}{F H:Hp}{q:HM.B}{v:V}{fp:List Addr}{kvs:List (List Key × PyData)}(sub:Zs F H)(r:Zai K F H q v fp)(h:HM.ZkK q=some kvs):∃l vvs,v=.ref l/\Rd H l (.dT vvs)/\ZaL K F kvs vvs:=by
 cases r with
 | pl r =>
  cases r with
  | @dct l es kvs' vvs h1 h2 h3 h4=>subst h2;have h:HM.Zff (HM.Ze kvs')=some kvs:=h;rw[HM.dec_enc]at h;cases h;refine⟨l,vvs,rfl,Zj4 h1 sub,h3,?_,h4⟩;have:=congrArg ZAi h3;rw[Zzr,Zzr]at this;rw[Zzr,Zzr,this]
  | fn _=>cases h
  | tupk _=>cases h
  | tup _ _ _=>cases h
  | lst _ _ _=>cases h
  | non=>cases h
  | bl _=>cases h
  | int _=>cases h
  | str _=>cases h
 | ol _ _=>cases h
 | ok _ _ _=>cases h
 | @ot l kvs vvs h1 h2 h3=>cases h; exact⟨l,vvs,rfl,.inl h1,h2,h3⟩
 | @hd l o es kvs' vvs h1 h2 h3 h4=>subst h2;have h:HM.Zff (HM.Ze kvs')=some kvs:=h;rw[HM.dec_enc]at h;cases h;exact⟨l,vvs,rfl,.inr ⟨o,sub _ _ h1⟩,h3,h4⟩
 | hf _=>cases h
 | otl _ _ _ _=>cases h
theorem Zt5{r:HM.Env}{d:PyData}(h:HM.ZoM fa f r=some d):∃x q kvs y,fa r=some x/\f r=some q/\HM.ZkK q=some kvs/\HM.ZaT x=some y/\d=.bool (HM.Zg kvs y).isSome:=by
 unfold HM.ZoM at h;split at h
 ·split at h
  ·split at h
   ·obtain⟨y,h1,h2⟩:=Zzs.mp h
    exact⟨_,_,_,y,by assumption,by assumption,by assumption,h1,h2.symm⟩
   ·cases h
  ·cases h
 ·cases h
theorem Zqd{r:HM.Env}{d:PyData}(h:HM.Zct fa f r=some d):∃x q kvs y,fa r=some x/\f r=some q/\HM.ZkK q=some kvs/\HM.ZaT x=some y/\d=.bool (!(HM.Zg kvs y).isSome):=by
 unfold HM.Zct at h;split at h
 ·split at h
  ·split at h
   ·obtain⟨y,h1,h2⟩:=Zzs.mp h
    exact⟨_,_,_,y,by assumption,by assumption,by assumption,h1,h2.symm⟩
   ·cases h
  ·cases h
 ·cases h
theorem Zwy(hu:X.A.units+1<cLine)(ha:XE X a fa)(hb:XB X b f)(hm:ZAD .In b=false:=by rfl):XT X (.Compare a [.In] [b] pos) (HM.tV (HM.ZoM fa f)):=by intro r d h;obtain⟨x,q,kvs,y,h1,h2,h3,h4,e⟩:=Zt5 (ZfL h);cases e;refine PT.imp (ZpE (ZxK hu (ha r x h1) (hb r q h2)) hm) λσ H Q ⟨F0,H0,F,at_,k⟩=>?_;refine⟨F0,H0,F,at_,λv F1 H1 x1 r1=>⟨F0,H0,F1,at_.grow x1,λw F2 H2 x2 ⟨fp,r2⟩=>?_⟩⟩;obtain⟨l,vvs,e1,e2,T⟩:=Zix x2.sub r2 h3;obtain⟨bb,rfl,hbb⟩:=Zb0 h4 (r1.mono x2.ff);exact⟨l,_,e1,Znm e2 (x2.sub _ _ hbb),_,rfl,by rw[T.some_iff]; exact k F2 H2 (x1.trans x2)⟩
theorem Zg0(hu:X.A.units+1<cLine)(ha:XE X a fa)(hb:XB X b f)(hm:ZAD .NotIn b=false:=by rfl):XT X (.Compare a [.NotIn] [b] pos) (HM.tV (HM.Zct fa f)):=by intro r d h;obtain⟨x,q,kvs,y,h1,h2,h3,h4,e⟩:=Zqd (ZfL h);cases e;refine PT.imp (ZpE (Zmo hu (ha r x h1) (hb r q h2)) hm) λσ H Q ⟨F0,H0,F,at_,k⟩=>?_;refine⟨F0,H0,F,at_,λv F1 H1 x1 r1=>⟨F0,H0,F1,at_.grow x1,λw F2 H2 x2 ⟨fp,r2⟩=>?_⟩⟩;obtain⟨l,vvs,e1,e2,T⟩:=Zix x2.sub r2 h3;obtain⟨bb,rfl,hbb⟩:=Zb0 h4 (r1.mono x2.ff);exact⟨l,_,e1,Znm e2 (x2.sub _ _ hbb),_,rfl,by rw[T.some_iff]; exact k F2 H2 (x1.trans x2)⟩
theorem Zer(hu:X.A.units+1<cLine)(ha:XB X a f)(hk:XE X b fb)(hs:Zo2 b:=by intro _ _; rfl):XE X (.Subscript a b pos) (HM.Zam f fb):=by
 intro r d h;unfold HM.Zam at h;split at h
 ·rename_i q hq
  split at h
  ·rename_i kvs hd
   split at h
   ·rename_i x hx
    split at h
    ·rename_i y hy
     refine PE.imp (ZlR hu (ha r q hq) (hk r x hx) hs) λσ H Q ⟨F0,H0,F,at_,kk⟩=>?_;refine⟨F0,H0,F,at_,λv F1 H1 x1 ⟨fp,r1⟩=>⟨F0,H0,F1,at_.grow x1,λw F2 H2 x2 r2=>?_⟩⟩;obtain⟨l,vvs,e1,e2,T⟩:=Zix x1.sub r1 hd;have e2':=rdT e2 x2.hh;have T':ZaL X.K F2 kvs vvs:=⟨T.1,T.2.mono x2.ff⟩;obtain⟨bb,rfl,hbb⟩:=Zb0 hy r2;obtain⟨u,q1,q2⟩:=T'.look.1 d h;exact⟨l,u,e1,by rw[<-q1]; exact Znm e2' (x2.sub _ _ hbb),kk u F2 H2 (x1.trans x2) q2⟩
    ·cases h
   ·cases h
  ·cases h
 ·cases h
theorem ZtP{apos:Pos}(hu:X.A.units+1<cLine)(ha:XB X a f)(hk:XE X b fb)(hz:XE X c fc)(m:M2 X a "get" apos b c pos):XE X (.Call (.Attribute a "get" apos) [b,c] [] pos) (HM.ZjG f fb fc):=by
 intro r d h;unfold HM.ZjG at h;split at h
 ·rename_i q hq
  split at h
  ·rename_i kvs hd
   split at h
   ·rename_i x hx
    split at h
    ·rename_i z hz'
     split at h
     ·rename_i y hy
      cases h;refine PE.imp (Zuo hu (ha r q hq) (hk r x hx) (hz r z hz') m) λσ H Q ⟨F0,H0,F,at_,kk⟩=>?_;refine⟨F0,H0,F,at_,λv F1 H1 x1 ⟨fp,r1⟩=>?_⟩;obtain⟨l,vvs,e1,e2,T⟩:=Zix x1.sub r1 hd;refine⟨l,e1,.inr ⟨vvs,e2⟩,F0,H0,F1,at_.grow x1,λw F2 H2 x2 r2=>⟨F0,H0,F2,(at_.grow x1).grow x2,λw' F3 H3 x3 r3=>?_⟩⟩;have e3:=rdT (rdT e2 x2.hh) x3.hh;have T':ZaL X.K F3 kvs vvs:=⟨T.1,(T.2.mono x2.ff).mono x3.ff⟩;obtain⟨bb,rfl,hbb⟩:=Zb0 hy (r2.mono x3.ff);refine⟨_,Znm e3 (x3.sub _ _ hbb),kk _ F3 H3 ((x1.trans x2).trans x3) ?_⟩;obtain⟨t1,t2⟩:=T'.look (k:=y);cases hl:HM.Zg kvs y with
      | none=>rw[t2 hl]; exact r3
      | some dd=>obtain⟨u,q1,q2⟩:=t1 dd hl; rw[q1]; exact q2
     ·cases h
    ·cases h
   ·cases h
  ·cases h
 ·cases h
structure XAL(X:Cx)(es:List Expr)(f:HM.AF):Prop where
 len:∀r ds,f r=some ds->ds.length=es.length
 pa:∀r ds,f r=some ds->PA X es λσ H Q=>Now X.K r σ H λF0 H0 F=>∀vs F' H',Ext F H F' H'->Zy X.K H' ds vs->Q vs H'
theorem Zai.lent{K:Zzp}{F H:Hp}{q:HM.B}{v:V}{fp:List Addr}{d:PyData}(sub:Zs F H)(r:Zai K F H q v fp)(h:HM.frz q=some d):Rep K H d v:=by
 cases r with
 | pl r=>cases h; exact r.mono sub
 | ol h1 r=>cases h; exact .lst (.of h1) r.1 (r.mono sub).2
 | ok _ _ _=>cases h
 | hd h1 he hk r=>cases h; exact(Rep.dct (.inr ⟨_,h1⟩) he hk r.2).mono sub
 | hf h1=>cases h; exact(Rep.fn h1).mono sub
 | ot h1 hk r=>cases h; exact .dct (.inl h1) rfl hk (r.mono sub).2
 | otl _ _ _ _=>cases h
end
end HP
namespace HP
open PySem PySem.Spec PyProof.Rows L2
variable[FX]
section
variable{X:Cx}{a b c e:Expr}{fa fb fc:HM.EF}{f:HM.BF}{pos p:Pos}{es:List Expr}
theorem Zny{g:HM.AF}(h:XA X es g):XAL X es g :=
 ⟨h.len,λr ds hd=>PA.imp (h.pa r ds hd) λσ H Q ⟨F0,H0,F,at_,k⟩=>⟨F0,H0,F,at_,λvs F' H' x q=>k vs F' H' x (q.mono x.sub)⟩⟩
theorem Zfa{g:HM.AF}(ha:XE X e fa)(hr:XAL X es g)(hs:ZzC (e::es) X.env=(false,eval e X.env)::ZzC es X.env:=by rfl):XAL X (e::es) (HM.Zc fa g):=by
 refine⟨λr ds h=>?_,λr ds h=>?_⟩
 ·unfold HM.Zc at h
  split at h
  ·obtain⟨xs,h1,h2⟩:=Zzs.mp h
   subst h2;rw[ZzG,ZzG,hr.len r xs h1]
  ·cases h
 unfold HM.Zc at h;split at h
 ·rename_i x hx
  obtain⟨xs,h1,h2⟩:=Zzs.mp h;subst h2;refine PA.imp (Zas (ha r x hx) (hr.pa r xs h1) hs) λσ H Q ⟨F0,H0,F,at_,k⟩=>?_;exact⟨F0,H0,F,at_,λv F1 H1 x1 r1=>⟨F0,H0,F1,at_.grow x1,λvs F2 H2 x2 r2=>k (v::vs) F2 H2 (x1.trans x2) (.cons ((r1.mono x2.ff).mono x2.sub) r2)⟩⟩
 ·cases h
theorem ZkD{g:HM.AF}(ha:XB X e f)(hr:XAL X es g)(hs:ZzC (e::es) X.env=(false,eval e X.env)::ZzC es X.env:=by rfl):XAL X (e::es) (HM.Zc (HM.Zhf f) g):=by
 refine⟨λr ds h=>?_,λr ds h=>?_⟩
 ·unfold HM.Zc at h
  split at h
  ·obtain⟨xs,h1,h2⟩:=Zzs.mp h
   subst h2;rw[ZzG,ZzG,hr.len r xs h1]
  ·cases h
 unfold HM.Zc at h;split at h
 ·rename_i x hx
  obtain⟨xs,h1,h2⟩:=Zzs.mp h;subst h2;obtain⟨q,hq,hf⟩:=ZCw.mp hx;refine PA.imp (Zas (ha r q hq) (hr.pa r xs h1) hs) λσ H Q ⟨F0,H0,F,at_,k⟩=>?_;exact⟨F0,H0,F,at_,λv F1 H1 x1 ⟨fp,r1⟩=>⟨F0,H0,F1,at_.grow x1,λvs F2 H2 x2 r2=>k (v::vs) F2 H2 (x1.trans x2) (.cons ((r1.lent x1.sub hf).monoT x2.hh) r2)⟩⟩
 ·cases h
theorem Rep.flat{K:Zzp}{F F':Hp}{d:PyData}{v:V}(r:Rep K F d v)(h:HM.Zj1 d=true):Rep K F' d v:=by
 cases r with
 | non=>exact .non
 | bl b=>exact .bl b
 | int i=>exact .int i
 | str x=>exact .str x
 | tupk _=>cases h
 | tup _ _ _=>cases h
 | lst _ _ _=>cases h
 | dct _ _ _ _=>cases h
 | fn _=>cases h
theorem Ext.forget{F H F'' H'':Hp}(s:Zs F H)(n:NoT F)(x:Ext (Zcj H) H F'' H''):Ext F H F H'' :=
 ⟨Zs.refl F,x.hh,(n.sub s).trans (x.ff.trans x.sub),λ_ _ z=>.inl z,x.tab,id⟩
theorem ZtQ{k:Nat}{x:Str}{g:HM.AF}{M:List PyData->Option PyData}(C:Callee X.prog X.w X.K X.mg X.base k x M)(hr:Zal k X.A)(ha:XAL X (e::es) g)(hg:Gl X x:=by rfl)(hdb:(x==("__debug__":Str))=false:=by decide)
  (he:ZzC (e::es) X.env=(false,eval e X.env)::ZzC es X.env:=by rfl) (hpl:(backTo pos (ZzC es X.env)).any (·.1)=false:=by rfl):XE X (.Call (.Name x p) (e::es) [] pos) (HM.Zol M g):=by
 intro r d hd;unfold HM.Zol at hd;split at hd
 ·rename_i ds hds
  split at hd
  ·rename_i d' hM
   split at hd
   ·rename_i hflat
    cases hd;obtain⟨fa,fd,ps,hl,F,hm,hk,hb⟩:=C.ex;refine PE.imp (Zj7 (E:=E0) F hr hg hm hk hb .nil Znr (ha.pa r ds hds) hdb he hpl) λσ H Q ⟨F0,H0,F1,at_,k⟩=>?_;refine⟨F0,H0,F1,at_,λvs F' H' x q=>?_⟩;show spD X.K ps.length M (vs++[]) H' Q E0;rw[Zz8];exact⟨Zcj H',ds,d,by rw[<-q.1]; exact hl ds d hM,Zex,at_.tbx x,.drop,q.drop',hM,λv F2 H2 x2 q2=>k v F' H2 (x.trans (Ext.forget x.sub (at_.ntx x) x2)) (q2.flat hflat)⟩
   ·cases hd
  ·cases hd
 ·cases hd
theorem Ztw(hc:X.calm=true):Zbe X (.builtin "max") (λxs H Q=>∃(p:Addr) (ns:List Int),xs=[.ref p]/\SqL X.K H p (ns.map V.int)/\0<ns.length/\∀M,M∈ns->(∀a,a∈ns->a<=M)->Q (.int M) H):=by
 intro pins s σ H xs us Q I r h;obtain⟨p,ns,rfl,hq,hne,q⟩:=h;obtain⟨u,rfl,rx⟩:=vals1 r;cases rx;obtain⟨its,rv,pl,hz⟩:=I.list hq;have hi:=Zeu rv;obtain⟨xs,e⟩:=hi.allInts.items;have hns:ns=xs.toList.map (·.1):=by rw[<-hi.numsOf,<-nums_intItems,<-e]
 have hsz:0<xs.size:=by have h3:=hne; rw[hns,Zzr,ZzV]at h3; exact h3
 have hl:=pl.isList;rw[e]at hl;refine max_intList (I.ok.hd hc) hl hsz λv h' tk hv hk=>?_;obtain⟨t,rfl⟩:=intItems_at hv;obtain⟨h1,h2⟩:=argBest_gt (numAt xs) (xs.size-1);refine⟨.int _,H,I.kept (t':=tk) hk,⟨t,rfl⟩,q _ ?_ λa ha=>?_⟩
 ·rw[hns,numAt_eq]; exact getD_mem (by rw[Zzr,ZzV]; omega)
 ·rw[hns]at ha
  obtain⟨j,hj,rfl⟩:=mem_getD ha;rw[Zzr,ZzV]at hj;rw[<-numAt_eq]; exact h2 j (by omega)
theorem ZlF(hm:X.mg "max" = none)(hc:X.calm=true)(ha:XB X a f)(hg:Gl X "max":=by rfl)(hs:ZzC [a] X.env=[(false,eval a X.env)]:=by rfl):XE X (.Call (.Name "max" p) [a] [] pos) (HM.Ziv f):=by
 intro r d h;unfold HM.Ziv at h;split at h
 ·rename_i x hx
  split at h
  ·rename_i ds hds
   split at h
   ·rename_i ns hns
    obtain⟨m,h1,h2⟩:=Zzs.mp h;subst h2;refine PE.imp (ZdL (Ztw hc) hg hm Zto (ZfI ha hx hs) (he:=hs)) λσ H Q ⟨F0,H0,F,at_,k⟩=>?_;refine⟨F0,H0,F,at_,λv fp F1 H1 x1 r1=>?_⟩;obtain⟨l,vs,e1,hq,rs⟩:=ZgN x1.sub r1 hds;rw[Zc4 hns rs]at hq;obtain⟨m1,m2⟩:=ZCT.mp h1;refine⟨l,ns,by rw[e1],hq,List.length_pos_of_mem m1,λM k1 k2=>?_⟩;have:M=m:=Int.le_antisymm (m2 M k1) (k2 m m1);subst this;exact k _ F1 H1 x1 (.int _)
   ·cases h
  ·cases h
 ·cases h
end
end HP
namespace HP
open PySem PySem.Spec PyProof.Rows L2
variable[FX]
section
variable{X:Cx}{a b c e:Expr}{fa fb fc:HM.EF}{f:HM.BF}{pos p:Pos}
theorem ZtR{op op':CmpOp}{g g':PyData->PyData->Option PyData}(o:Ze7 X op g)(o':Ze7 X op' g')(ha:XE X a fa)(hb:XE X b fb)(hc:XE X c fc)
  (hm:lastMarks [op,op'] [b,c]=false:=by with_unfolding_all rfl):XT X (.Compare a [op,op'] [b,c] pos) (HM.tV (HM.ZfH g g' fa fb fc)):=by
 intro r t ht;have hd:=ZfL ht;unfold HM.ZfH at hd;obtain⟨R,o1,o2⟩:=o.ex;obtain⟨R',o1',o2'⟩:=o'.ex;split at hd
 ·rename_i x hx
  split at hd
  ·rename_i y hy
   split at hd
   ·rename_i hg
    split at hd
    ·rename_i z hz
     refine PT.imp (Zox o1 o1' (ha r x hx) (hb r y hy) (hc r z hz) hm) λσ H Q ⟨F0,H0,F,at_,k⟩=>?_;refine⟨F0,H0,F,at_,λv F1 H1 x1 r1=>⟨F0,H0,F1,at_.grow x1,λw F2 H2 x2 r2=>?_⟩⟩;refine o2 F2 H2 x y _ v w _ x2.sub hg (r1.mono x2.ff) r2 λu ru=>?_;refine⟨true,ru.bool_inv,ZkN ⟨F0,H0,F2,(at_.grow x1).grow x2,λw' F3 H3 x3 r3=>?_⟩⟩;exact o2' F3 H3 y z _ w w' _ x3.sub hd (r2.mono x3.ff) r3 λu' ru'=>⟨t,ru'.bool_inv,k F3 H3 ((x1.trans x2).trans x3)⟩
    ·cases hd
   ·rename_i hg
    cases hd;refine PT.imp (Zox o1 o1' (ha r x hx) (hb r y hy) ZgT hm) λσ H Q ⟨F0,H0,F,at_,k⟩=>?_;refine⟨F0,H0,F,at_,λv F1 H1 x1 r1=>⟨F0,H0,F1,at_.grow x1,λw F2 H2 x2 r2=>?_⟩⟩;refine o2 F2 H2 x y _ v w _ x2.sub hg (r1.mono x2.ff) r2 λu ru=>?_;exact⟨false,ru.bool_inv,ZkQ ⟨false,rfl,k F2 H2 (x1.trans x2)⟩⟩
   ·cases hd
  ·cases hd
 ·cases hd
end
end HP
namespace HP
open PySem PySem.Spec PyProof.Rows L2
variable[FX]
section
variable{X:Cx}{a b c e:Expr}{fa fb fc:HM.EF}{f:HM.BF}{pos p:Pos}{es:List Expr}
theorem Zsk(i:Nat){x:Str}{p1 p2 p3:Pos}(ha:XB X a f)(hN:X.N[i]?=some x:=by rfl)(hv:Vis X.env.scope x:=by first | exact ZAe rfl | exact ZzY (ZAe rfl) | exact ZzY (ZzY rfl))(hd:(x==("__debug__":Str))=false:=by decide)(hcd:(x==("__classdict__":Str))=false:=by decide)
  (hbase:ZBI (.Name x p1) "extend" X.env (eval (.Name x p1) X.env)=eval (.Name x p1) X.env:=by rfl)
  (hfew:((backTo p3 (ZzC [a] X.env)).all (λx=>!x.1)&&(ZDH p3 (ZCG [] X.env)).all (λx=>x.1.isSome)&&decide (([a]:List Expr).length+([]:List Keyword).length+(if([]:List Keyword).isEmpty then 0 else 1)<30))=true:=by rfl)
  (hline:(p2.endLine==p3.line)=true:=by rfl) (hs:ZzC [a] X.env=[(false,eval a X.env)]:=by rfl):XS X (.Expr (.Call (.Attribute (.Name x p1) "extend" p2) [a] [] p3) pos) (HM.ZjS i f):=by
 intro r o h;unfold HM.ZjS at h;split at h
 ·rename_i ds hds
  split at h
  ·rename_i es hes
   split at h
   ·rename_i hz
    cases h;refine PS.imp (ZhX (Znq ZBy PySem.F.slot_list_extend PySem.F.type_list_extend Ztg (ZbU hN hv hd hcd) (Zas (ha r _ hes) ZbV hs) hbase hfew hline hs rfl)) λE σ H ⟨F0,H0,F,at_,k⟩=>?_;obtain⟨l,vs,e1,e2,e3,_⟩:=at_.chgList (es:=ds) hds;refine⟨.ref l,e1,.inl ⟨rfl,_,SqL.of e2⟩,F0,H0,F,at_,λv F1 H1 x1 ⟨fp,r1⟩=>?_⟩;have at1:=at_.grow x1;obtain⟨l',vs',f1,f2,f3,f4⟩:=at1.chgList (es:=ds++es) hds;rw[e1]at f1;cases f1;cases r1 with
    | @ol b _ us hb rs =>
     refine⟨_,b,vs',us,rfl,rfl,f2,hb,?_,k _ F1 _ (f4 _ (f3.append rs))⟩;have e4:=f3.1;have e6:=rs.1;have e5:(1000000:Nat)<=sizeLine:=by decide
     unfold HM.big at hz;omega
   ·cases h
  ·cases h
 ·cases h
theorem Zwz(i j:Nat){x y:Str}{p1 p2 p3 p4:Pos}(hN:X.N.Nodup)(hNi:X.N[i]?=some x:=by rfl)(hNj:X.N[j]?=some y:=by rfl)(hx:Loc X.env.scope x:=by first | exact ZAe rfl | exact ZzY rfl)(hv:Vis X.env.scope y:=by first | exact ZAe rfl | exact ZzY (ZAe rfl) | exact ZzY (ZzY rfl))(hd:(y==("__debug__":Str))=false:=by decide)(hcd:(y==("__classdict__":Str))=false:=by decide)
  (hbase:ZBI (.Name y p1) "pop" X.env (eval (.Name y p1) X.env)=eval (.Name y p1) X.env:=by rfl) (hline:(p2.endLine==p3.line)=true:=by rfl)
  (hs:ZBC (.Call (.Attribute (.Name y p1) "pop" p2) [] [] p3) (some (.Name x p4)) pos.line X.env=pure false:=by rfl) (hf:X.fn x=true\/X.env.scope.names.lookup x=some .local:=by first | exact .inl rfl | exact .inr rfl) :
  XS X (.Assign [.Name x p4] (.Call (.Attribute (.Name y p1) "pop" p2) [] [] p3) pos) (HM.ZuW i j):=by
 intro r o h;unfold HM.ZuW at h;split at h
 ·rename_i ds hds
  split at h
  ·rename_i d hd'
   cases h;refine PS.imp (Zpt hN hNi hx (ZxG ZBy PySem.F.slot_list_pop PySem.F.type_list_pop Zw1 (ZbU hNj hv hd hcd) hbase hline) hs hf) λE σ H ⟨F0,H0,F,at_,k⟩=>?_;obtain⟨l,vs,e1,e2,e3,e4⟩:=at_.chgList (es:=ds.dropLast) hds;obtain⟨v,q1,q2⟩:=e3.get hd';refine⟨.ref l,e1,.inl ⟨rfl,_,SqL.of e2⟩,l,vs,v,rfl,rfl,e2,by rw[<-e3.1]; exact q1,k _ F _ ((e4 _ ?_).set q2)⟩;rw[ZEd,ZEd,<-e3.1];exact e3.take _
  ·cases h
 ·cases h
def spF(K:Zzp)(n:Nat)(M:List PyData->Option PyData):Sp:=λvs H Q _=>∃F ds ys,vs.length=n/\Zs F H/\Tb H/\NoT F/\Zy K F ds vs/\M ds=some (.list ys)/\∀l us F' H',Ext F H F' H'->H' l=some (.lst us)->Zy K F' ys us->F' l=none->H l=none->Q (.ref l) H'
structure Zez(P:Program)(w:World)(K:Zzp)(mg:Str->Option Value)(base:Heap)(k:Nat)(x:Str)(M:List PyData->Option PyData):Prop where
 ex:∃f fd ps,(∀ds d,M ds=some d->ds.length=ps.length)/\ZdK P w K mg base CX0 k f fd ps (spF K ps.length M)/\mg x=some (.ref f)/\ZAU K (.ref f)=true/\Binds K fd ps []
theorem Zez.mono{P:Program}{w:World}{K:Zzp}{mg:Str->Option Value}{base:Heap}{j k:Nat}{x:Str}{M:List PyData->Option PyData}(C:Zez P w K mg base j x M)(h:j<=k):Zez P w K mg base k x M:=by obtain⟨f,fd,ps,l,F,r⟩:=C.ex;exact⟨f,fd,ps,l,F.mono h,r⟩
theorem ZtS{k:Nat}{x:Str}{g:HM.AF}{M:List PyData->Option PyData}(C:Zez X.prog X.w X.K X.mg X.base k x M)(hr:Zal k X.A)(ha:XA X (e::es) g)(hg:Gl X x:=by rfl)(hdb:(x==("__debug__":Str))=false:=by decide)
  (he:ZzC (e::es) X.env=(false,eval e X.env)::ZzC es X.env:=by rfl) (hpl:(backTo pos (ZzC es X.env)).any (·.1)=false:=by rfl):XF X (.Call (.Name x p) (e::es) [] pos) (HM.Zjj M g):=by
 intro r d hd;unfold HM.Zjj at hd;split at hd
 ·rename_i ds hds
  split at hd
  ·rename_i ys hM
   cases hd;obtain⟨fa,fd,ps,hl,F,hm,hk,hb⟩:=C.ex;refine PE.imp (Zj7 (E:=E0) F hr hg hm hk hb .nil Znr (ha.pa r ds hds) hdb he hpl) λσ H Q ⟨F0,H0,F1,at_,k⟩=>?_;refine⟨F0,H0,F1,at_,λvs F' H' x q=>?_⟩;show spF X.K ps.length M (vs++[]) H' Q E0;rw[Zz8];refine⟨F',ds,ys,by rw[<-q.1]; exact hl ds _ hM,x.sub,at_.tbx x,at_.ntx x,q,hM,λl us F2 H2 x2 h1 h2 h3 h4=>k _ F2 H2 (x.trans x2) ⟨[l],.ol h1 h2,by simp,λa ha=>?_⟩⟩;obtain rfl:a=l:=by simpa using ha
   exact⟨h3,x.hh.free h4⟩
  ·cases hd
 ·cases hd
theorem Zro{P:Program}{w:World}{K:Zzp}{mg:Str->Option Value}{base:Heap}{k:Nat}{x qual:Str}{st:Stmt}{f:Addr}{fd:FuncData}{N ps:List Str}{e:Expr}{g:HM.BF}{p1:Pos}(Fn:Fun K x qual st f fd)(S:Zx N ps (Zf st))(hm:mg x=some (.ref f))(hb:Binds K fd ps [])
  (hst:Za1 st=[.Return (some e) p1]) (hol:∀r b,g r=some b->∃ys,b=.ol ys)
  (body:∀(cdv:Value) (A:Around) (outer:List Env) (s:Shared) (H:Hp) (E:XK),Zal k (A.deeper (envOfC qual (Zf st) s.heap.objs.size f cdv))->XF (ZgM CX0 P w K mg base N qual (Zf st) f cdv A outer s H E).nox e g) :
  Zez P w K mg base (k+1) x (HM.fnOf ps.length N.length (HM.ZF (HM.eOf g))):=by
 have hpl:ps.length<=N.length:=by have:=congrArg ZAi S.pre; rw[ZA3]at this; omega
 refine⟨f,fd,ps,λds d h=>?_,Fn.ok S (λvs H Q E h=>?_) (λcdv A outer s H vs Q E hr h=>?_),hm,Fn.kp,hb⟩
 ·unfold HM.fnOf at h
  split at h
  ·assumption
  ·cases h
 ·obtain⟨_,_,_,h,_⟩:=h
  exact h
 ·obtain⟨F,ds,ys,hl,sub,tb,nt,q,hM,kk⟩:=h
  unfold HM.fnOf at hM;split at hM
  ·rename_i hds
   have a0:=ZgX (N:=N) sub tb nt q (by omega);have hg:g (HM.Ze8 N.length ds)=some (.ol ys):=by
    split at hM
    ·rename_i r hr'
     cases hq:HM.eOf g (HM.Ze8 N.length ds)with
     | none=>unfold HM.ZF at hr'; rw[hq]at hr'; cases hr'
     | some d=>unfold HM.ZF at hr'; rw[hq]at hr'; cases hr'
    ·rename_i d' hr'
     cases hM;obtain⟨d,h1,h2⟩:=Zzs.mp hr';cases h2;obtain⟨b,h3,h4⟩:=ZCw.mp h1;obtain⟨zs,rfl⟩:=hol _ _ h3;cases h4;exact h3
    ·cases hM
   rw[hst];refine⟨_,ZqB (ZoC (body cdv A outer s H E hr _ _ hg)),F,H,F,a0,λv F' H' x ⟨fp,r1,nd,hn⟩=>?_⟩;cases r1 with
   | @ol l _ us h1 h2=>exact kk l us F' H' x h1 h2 (hn l (by simp)).1 (hn l (by simp)).2
  ·cases hM
theorem Zu2(i:HM.IF)(c:HM.TF)(e:HM.EF)(r:HM.Env)(b:HM.B)(h:HM.ZM i c e r=some b):∃ys,b=.ol ys:=by
 unfold HM.ZM at h;split at h
 ·split at h
  ·obtain⟨ys,_,h2⟩:=Zzs.mp h
   exact⟨ys,h2.symm⟩
  ·cases h
 ·cases h
end
end HP
namespace HP
open PySem PySem.Spec PyProof.Rows L2
variable[FX]
section
variable{K:Zzp}{F H F0 H0 G:Hp}{a b:Addr}{ob u:HO}{vvs:List (List Key × V)}{d:PyData}{v:V}{ds:List PyData}{vs:List V}{r:HM.Env}{σ:L2.St}{i:Nat}{es:List (PyData × PyData)}
theorem Zbn(h:b≠a):sw a ob G b=G b:=by unfold sw; rw[if_neg h]
theorem Zgf:sw a ob G a=(G a).map λ_=>ob:=by unfold sw; rw[if_pos rfl]
theorem ZqM(s:Zs F H):Zs (sw a ob F) (sw a ob H):=λb o z=>by
 by_cases hb:b=a
 ·subst hb
  rw[Zgf]at z ⊢;obtain⟨x,h1,h2⟩:=Zzs.mp z;rw[s _ _ h1,<-h2]; rfl
 ·rw[Zbn hb]at z ⊢; exact s b o z
theorem Zvj(hG:∀u,G a=some u->u=.dT vvs):sw a (.dT vvs) (sw a ob G)=G:=by
 funext b
 by_cases hb:b=a
 ·subst hb
  rw[Zgf,Zgf];cases h:G b with
  | none=>rfl
  | some u=>rw[hG u h]; rfl
 ·rw[Zbn hb,Zbn hb]
theorem Dk.nt(h:Dk vvs u):(∀xs,u≠.tup xs)/\(∀xs,u≠.lst xs)/\(∀o xs,u≠.frz o (.lst xs))/\(∀ps,u≠.tbl ps)/\(∀x,u≠.own x):=by rcases h with h | ⟨o,h⟩<;>subst h<;>exact⟨λ_ z=>(by cases z),λ_ z=>(by cases z),λ_ _ z=>(by cases z),λ_ z=>(by cases z),λ_ z=>(by cases z)⟩
theorem Rep.sw(hF:∀u,F a=some u->Dk vvs u)(hob:Dk vvs ob)(r:Rep K F d v):Rep K (HP.sw a ob F) d v:=by
 induction r with
 | non=>exact .non
 | bl b=>exact .bl b
 | int i=>exact .int i
 | str x=>exact .str x
 | fn h=>exact .fn (FX.sw hF hob h)
 | tupk h=>exact .tupk h
 | @tup b ds vs h hl _ ih=>exact .tup (by rw[Zbn (λz=>(hF _ (z▸h)).nt.1 _ rfl)]; exact h) hl ih
 | @lst b ds vs h hl _ ih =>
  refine .lst ?_ hl ih;rcases h with h | h
  ·refine .inl ?_
   have hb:b≠a:=λz=>by
    rcases h with h | ⟨o,h⟩
    ·exact(hF _ (z▸h)).nt.2.1 _ rfl
    ·exact(hF _ (z▸h)).nt.2.2.1 _ _ rfl
   unfold Rd;rw[Zbn hb];exact h
  ·exact .inr h
 | @dct b es kvs vvs' h he hk _ ih =>
  refine .dct ?_ he hk ih
  by_cases hb:b=a
  ·subst hb
   have:vvs'=vvs/\∃u,F b=some u:=by
    rcases h with h | ⟨o,h⟩
    ·rcases hF _ h with z | ⟨o',z⟩
     ·cases z; exact⟨rfl,_,h⟩
     ·cases z
    ·rcases hF _ h with z | ⟨o',z⟩
     ·cases z
     ·cases z; exact⟨rfl,_,h⟩
   obtain⟨rfl,u,hu⟩:=this;unfold Rd;rw[Zgf,hu];rcases hob with z | ⟨o,z⟩
   ·subst z; exact .inl rfl
   ·subst z; exact .inr ⟨o,rfl⟩
  ·unfold Rd
   rw[Zbn hb];exact h
theorem Zy.sw(hF:∀u,F a=some u->Dk vvs u)(hob:Dk vvs ob)(r:Zy K F ds vs):Zy K (HP.sw a ob F) ds vs:=⟨r.1,λi d v h1 h2=>(r.2 i d v h1 h2).sw hF hob⟩
theorem Ext.sw(x:Ext F0 H0 F H)(hH:∀u,H a=some u->Dk vvs u)(hob:Dk vvs ob):Ext (HP.sw a ob F0) (HP.sw a ob H0) (HP.sw a ob F) (HP.sw a ob H) :=
 ⟨ZqM x.ff,x.hh.sw,ZqM x.sub,λb o z=>by
  by_cases hb:b=a
  ·subst hb
   rw[Zgf]at z;obtain⟨u,h1,h2⟩:=Zzs.mp z;rcases x.new b u h1 with q | q | ⟨xs,e,q⟩
   ·exact .inl (by rw[Zgf,q,<-h2]; rfl)
   ·exact .inr (.inl (by rw[Zgf,q]; rfl))
   ·exact absurd e ((hH _ (x.sub _ _ h1)).nt.1 xs)
  ·rw[Zbn hb]at z
   rcases x.new b o z with q | q
   ·exact .inl (by rw[Zbn hb]; exact q)
   ·refine .inr ?_
    unfold Fre;rw[Zbn hb];exact q,λt=>(x.tab (t.unsw hob)).sw hH,λt b o z=>by
  unfold HP.sw at z;split at z
  ·obtain⟨u,_,e⟩:=Zzs.mp z
   subst e; exact hob.ntt
  ·rename_i hb
   refine x.nts (λc u y=>?_) b o z
   by_cases hc:c=a
   ·subst hc; exact(hH _ (x.sub _ _ (x.ff _ _ y))).ntt
   ·exact t c u (by rw[Zbn hc]; exact y)⟩
theorem At.sw(e:At K F0 H0 F H r σ)(hFa:F a=some u)(hu:Dk vvs u)(hob:Dk vvs ob)(nh:∀(i:Nat) (es:List (PyData × PyData)),r[i]?≠some (some (HM.B.hd es))):At K (HP.sw a ob F0) (HP.sw a ob H0) (HP.sw a ob F) (HP.sw a ob H) r σ:=by
 obtain⟨fp,e⟩:=e;have hF:∀u,F a=some u->Dk vvs u:=λu' h=>by rw[hFa]at h; cases h; exact hu
 have hH:∀u,H a=some u->Dk vvs u:=λu' h=>by rw[e.sub _ _ hFa]at h; cases h; exact hu
 have own:∀i,∀c∈fp i,c≠a:=λi c hc z=>by rw[<-z,(e.own i c hc).1]at hFa; cases hFa
 refine⟨fp,e.ext.sw hH hob,e.len,λi b h=>?_,e.emp,λi b h=>?_,e.nd,e.dis,e.tb.sw (vvs:=vvs) (λu' z=>by have q:=e.ext.hh.back z (e.sub _ _ hFa) hu.nt.2.2.2.1;rw[q]; exact hu),λb o z=>?_⟩
 rotate_left 2
 ·unfold HP.sw at z
  split at z
  ·obtain⟨u,_,e⟩:=Zzs.mp z
   subst e; exact hob.ntt
  ·exact e.nt b o z
 ·obtain⟨v,h1,h2⟩:=e.at_ i b h
  refine⟨v,h1,?_⟩;have own:=own i;generalize fp i=f at h2 own;cases h2 with
  | pl q=>exact .pl (q.sw hF hob)
  | ol k q=>exact .ol (by rw[Zbn (own _ (by simp))]; exact k) (q.sw hF hob)
  | ok k hk q=>exact .ok (by rw[Zbn (own _ (by simp))]; exact k) hk (q.sw hF hob)
  | ot k hk q=>exact .ot (by rw[Zbn (own _ (by simp))]; exact k) hk (q.sw hF hob)
  | otl k hk hv q=>refine .otl (by rw[Zbn (own _ (by simp))]; exact k) hk hv λi ds l h1 h2=>?_;obtain⟨vs,q1,q2⟩:=q i ds l h1 h2;exact⟨vs,by rw[Zbn (own l (Zzu _ (ZzU h2)))]; exact q1,q2.sw hF hob⟩
  | hd _ _ _ _=>exact absurd h (nh _ _)
  | hf _=>exact absurd h (nh _ _)
 ·rw[Zbn (own i b h),Zbn (own i b h)]
  exact e.own i b h
theorem set_same{x:Option V}(h:σ[i]?=some x):σ.set i x=σ:=by obtain⟨h1,h2⟩:=ZzF.mp h;rw[<-h2];exact ZB4 h1
theorem At.say{b':HM.B}(e:At K F0 H0 F H r σ)(h1:σ[i]?=some (some v))(q:Zai K F H b' v []):At K F0 H0 F H (r.set i (some b')) σ:=by
 have:=e.store (i:=i) q ZA9 (λa h=>by simp at h) λ_ _ _ _ _ _ h=>by simp at h
 rwa [set_same h1]at this
theorem At.loosen(e:At K F0 H0 F H r σ)(h:r[i]?=some (some (.hd es))):At K F0 H0 F H (r.set i (some (.pl (.dict es)))) σ:=by
 obtain⟨v,fp,h1,h2⟩:=e.any h;cases h2 with
 | hd k1 k2 k3 k4=>exact e.say h1 (.pl (.dct (.inr ⟨_,k1⟩) k2 k3 k4.2))
 | hf k1=>exact e.say h1 (.pl (.fn k1))
theorem Zvm(h:r.all (λq=>!HM.Zbc q)=true)(i:Nat)(es:List (PyData × PyData)):r[i]?≠some (some (.hd es)):=λz=>by have:=Zzz.mp h _ (ZzU z);cases this
theorem ZsO{b':HM.B}(h:(r.set i none).all (λq=>!HM.Zbc q)=true)(hb:∀es,b'≠.hd es)(j:Nat)(es:List (PyData × PyData)):(r.set i (some b'))[j]?≠some (some (.hd es)):=λz=>by
 by_cases hj:i=j
 ·subst hj
  by_cases hi:i<r.length
  ·rw[ZAl hi]at z
   injection z with z
   injection z with z
   exact hb _ z
  ·rw[ZD8 (by rw[ZAG]; omega)]at z
   cases z
 ·rw[Zz2 hj]at z
  exact Zvm h j es (by rw[Zz2 hj]; exact z)
end
section
variable{X:Cx}{pins:List (Addr × Obj)}{σ:L2.St}{H:Hp}{s:Shared}{a:Addr}{u ob:HO}{vvs:List (List Key × V)}
theorem Znt{h:Heap}{o:HO}{b:Addr}(ha:H a=some u)(hu:Dk vvs u)(x:Zah X.prog X.w H h b o):Zah X.prog X.w (sw a ob H) h b o :=
 x.stay (λ_ _ _ q=>q) (λc q=>by rw[Zbn (λz=>by rw[z,ha]at q; cases q; exact hu.nt.2.2.2.2 _ rfl)]; exact q) λc xs q=>by rw[Zbn (λz=>by rw[z,ha]at q; cases q; exact hu.nt.1 _ rfl)]; exact q
theorem Zpw(I:Inv X pins σ H s)(ha:H a=some u)(hu:Dk vvs u)(ok:Zah X.prog X.w (sw a ob H) s.heap a ob)(hn:∀o w,X.H₀ a≠some (.frz o w)):Inv X pins σ (HP.sw a ob H) s:=by
 have none':∀b,H b=none->HP.sw a ob H b=none:=λb h=>by rw[Zbn (λz=>by rw[z,ha]at h; cases h)]; exact h
 refine⟨I.ok,I.os,I.bare,⟨I.base.keep,I.base.slot,λb o h1 h2 h3=>none' b (I.base.free b o h1 h2 h3),I.base.there,λb xs h=>?_,λb o w h=>?_,λb ps h=>?_⟩,I.loc,I.cell,none' _ I.free,λx c h=>none' _ (I.freeC x c h),λp hp=>?_,λb o h=>?_,I.len⟩
 ·have q:=I.base.tups b xs h
  rw[Zbn (λz=>by rw[z,ha]at q; cases q; exact hu.nt.1 _ rfl)];exact q
 ·have q:=I.base.frzs b o w h
  rw[Zbn (λz=>hn o w (by rw[<-z]; exact h))];exact q
 ·obtain⟨m,q⟩:=I.base.tbls b ps h
  exact⟨m,by rw[Zbn (λz=>by rw[z,ha]at q; cases q; exact hu.nt.2.2.2.1 _ rfl)]; exact q⟩
 ·have q:=I.pin p hp
  exact⟨q.1,none' _ q.2.1,q.2.2⟩
 ·by_cases hb:b=a
  ·subst hb
   rw[Zgf,ha]at h;cases h;exact ok
  ·rw[Zbn hb]at h
   exact Znt ha hu (I.hok b o h)
theorem ZhM(i:Nat){st:Stmt}{g:HM.SF}(h:XS X st g):XS X st (HM.Ze2 i g):=by
 intro r o ho;unfold HM.Ze2 at ho;split at ho
 case h_2=>exact h r o ho
 rename_i es hr;split at ho
 case isFalse=>cases ho
 rename_i hall;have nh:=Zvm hall;intro pins s σ H E I ⟨F0,H0,F,at_,k⟩;obtain⟨v,h1,h2⟩:=at_.plain hr;cases h2 with
 | @dct a _ kvs vvs hd he hk hrr =>
  have rs:∀{F':Hp},Zs F F'->Zy X.K F' (kvs.map (·.2)) (vvs.map (·.2)):=λs=>by refine Zy.mono ⟨?_,hrr⟩ s;have:=congrArg ZAi hk;rw[Zzr,Zzr]at this ⊢;exact this
  rcases hd with hd | ⟨q,hd⟩
  ·have hHa:=at_.sub _ _ hd
   obtain⟨z,y,xs,rl,q,es1,ep,e1,c1⟩:=(show Zah X.prog X.w H s.heap a (.dT vvs) from I.hok a _ hHa);have hn:∀o w,X.H₀ a≠some (.frz o w):=λo w z=>by have:=I.base.frzs _ _ _ z;rw[hHa]at this; cases this
   have I1:=Zpw (ob:=.frz q (.dT vvs)) I hHa (.inl rfl) ⟨e1,Znt hHa (.inl rfl) ⟨z,y,xs,rl,q,es1,ep,e1,c1⟩⟩ hn;have at1:=at_.sw (ob:=.frz q (.dT vvs)) hd (.inl rfl) (.inr ⟨q,rfl⟩) nh;have Ra:HP.sw a (.frz q (.dT vvs)) F a=some (.frz q (.dT vvs)):=by rw[Zgf,hd]; rfl
   have hFd:∀u,F a=some u->Dk vvs u:=λu z=>by rw[hd]at z; cases z; exact .inl rfl
   have at2:=(at1.say (i:=i) h1 (.hd Ra he hk (Zy.sw hFd (.inr ⟨q,rfl⟩) (rs (Zs.refl F))))).rebase;have e0:HP.sw a (.dT vvs) (HP.sw a (.frz q (.dT vvs)) F0)=F0:=Zvj λu z=>by have:=at_.ext.ff _ _ z;rw[hd]at this; cases this; rfl
   have e1:HP.sw a (.dT vvs) (HP.sw a (.frz q (.dT vvs)) H0)=H0:=Zvj λu z=>by exact at_.ext.hh.back z hHa λ_ w=>by cases w
   split at ho
   ·rename_i r' hg
    split at ho
    case h_2=>cases ho
    rename_i es' hr';split at ho
    case isFalse=>cases ho
    rename_i hall';cases ho;refine thn (h _ _ hg pins s σ _ { nx:=λσ' H'=>∃F',At X.K (HP.sw a (.frz q (.dT vvs)) F) (HP.sw a (.frz q (.dT vvs)) H0) F' H' r' σ',rt:=λ_ _=>False,bk:=λ_ _=>False,ct:=λ_ _=>False } I1 ⟨_,_,_,at2,λσ' F' H' a'=>⟨F',a'⟩⟩) λfl s' z=>?_;cases fl with
    | next=>obtain⟨σ',H',I',F',a'⟩:=z;have Fa:=a'.ext.ff _ _ Ra;have Ha:=a'.sub _ _ Fa;have a3:=((At.unbase at1.ext (at1.nt0) a').loosen hr').sw (ob:=.dT vvs) Fa (.inr ⟨q,rfl⟩) (.inl rfl) (ZsO hall' λ_ z=>by cases z);rw[e0,e1]at a3;exact⟨σ',_,Zpw I' Ha (.inr ⟨q,rfl⟩) (Znt Ha (.inr ⟨q,rfl⟩) (Zlm I'.hok (.inr ⟨q,Ha⟩))) hn,k σ' _ _ a3⟩
    | brk=>obtain⟨_,_,_,z⟩:=z; exact z.elim
    | cont=>obtain⟨_,_,_,z⟩:=z; exact z.elim
    | ret u=>obtain⟨_,_,_,_,_,z⟩:=z; exact z.elim
   ·rename_i d hg
    cases ho;refine thn (h _ _ hg pins s σ _ { nx:=λ_ _=>False,bk:=λ_ _=>False,ct:=λ_ _=>False,rt:=λv' H'=>∃F',Ext (HP.sw a (.frz q (.dT vvs)) F) (HP.sw a (.frz q (.dT vvs)) H0) F' H'/\Rep X.K F' d v' } I1 ⟨_,_,_,at2,λv' F' H' x q=>⟨F',x,q⟩⟩) λfl s' z=>?_;cases fl with
    | ret u=>obtain⟨v',σ',H',I',rv,F',x',r'⟩:=z;have Fa:=x'.ff _ _ Ra;have Ha:=x'.sub _ _ Fa;have x3:=(Ext.unbase at1.ext x').sw (a:=a) (vvs:=vvs) (ob:=.dT vvs) (λu z=>by rw[Ha]at z; cases z; exact .inr ⟨q,rfl⟩) (.inl rfl);rw[e0,e1]at x3;exact⟨v',σ',_,Zpw I' Ha (.inr ⟨q,rfl⟩) (Znt Ha (.inr ⟨q,rfl⟩) (Zlm I'.hok (.inr ⟨q,Ha⟩))) hn,rv,k v' _ _ x3 (r'.sw (λu z=>by rw[Fa]at z; cases z; exact .inr ⟨q,rfl⟩) (.inl rfl))⟩
    | next=>obtain⟨_,_,_,z⟩:=z; exact z.elim
    | brk=>obtain⟨_,_,_,z⟩:=z; exact z.elim
    | cont=>obtain⟨_,_,_,z⟩:=z; exact z.elim
   ·cases ho
  ·have at2:=at_.say (i:=i) h1 (.hd hd he hk (rs (Zs.refl F)))
   split at ho
   ·rename_i r' hg
    split at ho
    case h_2=>cases ho
    rename_i es' hr';split at ho
    case isFalse=>cases ho
    cases ho;exact h _ _ hg pins s σ H E I ⟨F0,H0,F,at2,λσ' F' H' a'=>k σ' F' H' (a'.loosen hr')⟩
   ·rename_i d hg
    cases ho;exact h _ _ hg pins s σ H E I ⟨F0,H0,F,at2,k⟩
   ·cases ho
 | fn hv =>
  have at2:=at_.say (i:=i) h1 (.hf hv);split at ho
  ·rename_i r' hg
   split at ho
   case h_2=>cases ho
   rename_i es' hr';split at ho
   case isFalse=>cases ho
   cases ho;exact h _ _ hg pins s σ H E I ⟨F0,H0,F,at2,λσ' F' H' a'=>k σ' F' H' (a'.loosen hr')⟩
  ·rename_i d hg
   cases ho;exact h _ _ hg pins s σ H E I ⟨F0,H0,F,at2,k⟩
  ·cases ho
def Itd(a:Addr)(o:Obj):It :=
 ⟨λi H=>∃vvs q,H a=some (.frz o (.dT vvs))/\vvs[i]?=some q,λi H x H'=>H'=H/\∀vvs,H a=some (.frz o (.dT vvs))->∃q b,vvs[i]?=some q/\x=.ref b/\H b=some (.tup (q.1.map kV)),λi H=>∃vvs,H a=some (.frz o (.dT vvs))/\vvs.length<=i⟩
theorem Zrq{α β:Type}{R:α->β->Prop}{l:List α}{m:List β}(r:Paired R l m):∀{i:Nat} {x:α},l[i]?=some x->∃y,m[i]?=some y/\R x y:=by
 induction r with
 | nil=>intro i x e; simp at e
 | @cons p q _ _ hq _ ih =>
  intro i x e;cases i with
  | zero=>rw[ZBV]at e; cases e; exact⟨q,rfl,hq⟩
  | succ i=>rw[ZAa]at e ⊢; exact ih e
theorem Ztj{P:Program}{w:World}{K:Zzp}{tg:Expr}(a it:Addr)(o:Obj)(es:Array DictEntry)(ep:Nat)(hd:o.data=.dict es ep):Turn P w K tg (Itd a o) [it] it (λi h=>h.IsKeyIter it a i es.size ep) where
 mem:=by simp
 obj:=λi h st b hb=>by
  have e:b=it:=by simpa using hb
  subst e;obtain⟨o,e,c,d⟩:=st;exact⟨o,e,λv z=>by rw[d]at z; cases z⟩
 keep:=λi h h' st k=>st.at λo e=>k it (by simp) o e
 item:=by
  intro X hP hw hK hc i pins s σ H E I hf st hg;subst hP hw hK;obtain⟨vvs,q,hH,hq⟩:=hg;obtain⟨h1,z,lo,xs,rel,o2,es2,ep2,h2,h3,h4,h5,h6⟩:=(show Zah X.prog X.w H s.heap a (.frz o (.dT vvs)) from I.hok a _ hH);rw[h1]at h2;cases h2;rw[hd]at h4;cases h4;obtain⟨f0,f1,f2,f3,f4,f5⟩:=hf it (by simp);obtain⟨p,hp,hr1,hr2,_⟩:=Zrq rel hq;have he:es[i]?=some (entryOfKey (ZCi (Zay X.prog X.w)) p):=by rw[<-ZAp,h5,ZzR,hp]; rfl
  refine ZoN st ⟨o,h1,h3,hd⟩ he λh' st' sb=>?_;have I1:Inv X pins σ H { s with heap:=h' }:=I.turned (t':=s.toks) (λb o hb e=>(sb.2 b hb).trans e) f0 f1 f3 f4 f5;obtain⟨oi,e,c,d⟩:=id st';refine⟨_,rfl,Znl (s:={ s with heap:=h' }) e c d (by decide) ⟨.ref p.2.1,H,I1,rfl,⟨rfl,λvv hv=>?_⟩,st',λb hb=>(hf b hb).1⟩⟩;rw[hH]at hv;cases hv;exact⟨q,p.2.1,hq,rfl,hr2⟩
 done:=by
  intro X hP hw hK hc i pins s σ H E I hf st hg;subst hP hw hK;obtain⟨vvs,hH,hq⟩:=hg;obtain⟨h1,z,lo,xs,rel,o2,es2,ep2,h2,h3,h4,h5,h6⟩:=(show Zah X.prog X.w H s.heap a (.frz o (.dT vvs)) from I.hok a _ hH);rw[h1]at h2;cases h2;rw[hd]at h4;cases h4;obtain⟨f0,f1,f2,f3,f4,f5⟩:=hf it (by simp);have hl:vvs.length=xs.length:=ZBX rel;have hes:es.size=xs.length:=by rw[<-ZzV,h5,Zzr]
  exact ZqN (I.ok.hd hc) st ⟨o,h1,h3,hd⟩ (by omega) λh' eb=>⟨rfl,I.turned (t':=s.toks) (λb o hb e=>eb b o hb e) f0 f1 f3 f4 f5⟩
 self:=λ_ _ _ _ _ st h=>wpAny_pyIter_keyiter st h
theorem Zvz{tg l:Expr}{tl:TE}(hl:PE X l tl):PI X tg l (λσ H R=>tl σ H λx H1=>∃a o vvs,x=.ref a/\H1 a=some (.frz o (.dT vvs))/\R (Itd a o) H1):=by
 intro pins s σ H R I h;refine thn (hl pins s σ H _ I h) λv s1 ⟨x,H1,I1,r1,a,o,vvs,e,hH,q⟩=>?_;subst e;cases r1;obtain⟨h1,z,lo,xs,rel,o2,es,ep,h2,h3,h4,h5,h6⟩:=(show Zah X.prog X.w H1 s1.heap a (.frz o (.dT vvs)) from I1.hok a _ hH);rw[h1]at h2;cases h2;refine Zpi lo ⟨o,h1,h3,h4⟩ ⟨s1.heap.objs.size,[s1.heap.objs.size],_,_,H1,rfl,I1.kept (t':=s1.toks) λb o e=>Zzy _ e,Ztj a _ o es ep h4,⟨_,ZzM _ rfl,rfl,rfl⟩,λb hb=>?_,q⟩;obtain rfl:b=s1.heap.objs.size:=by simpa using hb
 exact I1.fpOk (ZzB _) (I1.hok.fresh (ZzB _))
theorem Zul{K:Zzp}{F:Hp}{a:Addr}{o:Obj}{kvs:List (List Key × PyData)}{vvs:List (List Key × V)}(h:F a=some (.frz o (.dT vvs)))(hk:kvs.map (·.1)=vvs.map (·.1)):ItD K (Itd a o) (kvs.map λp=>.tuple (p.1.map HM.ZaM)) F:=by
 intro F' H s1 s2;have hH:=s2 _ _ (s1 _ _ h);have hl:kvs.length=vvs.length:=by
  have:=congrArg ZAi hk
  rwa [Zzr,Zzr]at this
 refine⟨λi d hd=>?_,vvs,hH,by rw[Zzr,hl]; exact ZzB _⟩;rw[ZzR]at hd;obtain⟨q,hq,hd⟩:=Zzs.mp hd;subst hd;have hi:i<vvs.length:=by rw[<-hl]; exact(ZzF.mp hq).1
 have hw:vvs[i]?=some vvs[i]:=ZzD hi;have hw1:vvs[i].1=q.1:=by
  have:(kvs.map (·.1))[i]?=(vvs.map (·.1))[i]?:=by rw[hk]
  rw[ZzR,ZzR,hq,hw]at this;exact(ZAs this).symm
 refine⟨⟨vvs,_,hH,hw⟩,λx H' hy=>?_⟩;obtain⟨e,y⟩:=hy;refine⟨e,?_⟩;obtain⟨q',b,e1,e2,e3⟩:=y vvs hH;rw[hw]at e1;cases e1;subst e2;rw[hw1]at e3;have rk:=Zg7 (K:=K) (F:=Zcl F' H) q.1;exact .tup (ZkO e3) rk.1 rk.2
theorem ZhN(i:Nat){tg:Expr}{x:Str}{pos:Pos}(hN:X.N[i]?=some x:=by rfl)(hv:Vis X.env.scope x:=by first | exact ZAe rfl | exact ZzY (ZAe rfl) | exact ZzY (ZzY rfl))(hd:(x==("__debug__":Str))=false:=by decide)
  (hcd:(x==("__classdict__":Str))=false:=by decide):XI X tg (.Name x pos) (HM.ZaO i):=by
 intro r ds h;have row:∀{d:PyData},r[i]?=some (some (.pl d))->HM.Zbo (.pl d)=some ds->HM.Z4 (HM.bOf (HM.Za i)) r=some ds:=λ{d} h1 h2=>by
  have e:HM.Za i r=some d:=by unfold HM.Za; rw[h1]
  unfold HM.Z4 HM.bOf;rw[e];exact h2
 unfold HM.ZaO at h;split at h
 ·rename_i q; exact ZS (Zb i hN hv hd hcd) r ds (row q h)
 ·rename_i q; exact ZS (Zb i hN hv hd hcd) r ds (row q h)
 ·rename_i es q
  obtain⟨kvs,h1,h2⟩:=Zzs.mp h;subst h2;refine PI.imp (Zvz (ZbU hN hv hd hcd)) λσ H R ⟨F0,H0,F,at_,k⟩=>?_;obtain⟨v,fp,g1,g2⟩:=at_.any q;cases g2 with
  | @hd a o _ kvs' vvs k1 k2 k3 k4=>subst k2;rw[HM.dec_enc]at h1;cases h1;exact⟨.ref a,g1,a,o,vvs,rfl,at_.sub _ _ k1,k _ F H at_.refl (Zul k1 k3)⟩
  | hf _=>cases h1
 ·cases h
theorem ZxY(i:Nat){x:Str}{pos:Pos}(hN:X.N[i]?=some x:=by rfl)(hv:Vis X.env.scope x:=by first | exact ZAe rfl | exact ZzY (ZAe rfl) | exact ZzY (ZzY rfl))(hd:(x==("__debug__":Str))=false:=by decide)
  (hcd:(x==("__classdict__":Str))=false:=by decide):XE X (.Name x pos) (HM.eHd i):=by
 intro r d h;unfold HM.eHd at h;split at h
 ·rename_i q
  cases h;exact Zb i hN hv hd hcd r d (by unfold HM.Za; rw[q])
 ·rename_i es q
  cases h;refine PE.imp (ZbU hN hv hd hcd) λσ H Q ⟨F0,H0,F,at_,k⟩=>?_;obtain⟨v,fp,g1,g2⟩:=at_.any q;cases g2 with
  | hd k1 k2 k3 k4=>exact⟨_,g1,k _ F H at_.refl (.dct (.inr ⟨_,k1⟩) k2 k3 k4.2)⟩
  | hf k1=>exact⟨_,g1,k _ F H at_.refl (.fn k1)⟩
 ·cases h
end
end HP
namespace HP
open PySem PySem.Spec PyProof.Rows L2
variable[FX]
end HP
namespace HP
open PySem PySem.Spec PyProof.Rows L2
variable[FX]
section
variable{X:Cx}{a b c e:Expr}{fa fb fc:HM.EF}{f:HM.BF}{pos p:Pos}{es:List Expr}
theorem ZtT{x y:Str}(hm:∃a,X.mg x=some (.ref a)/\ZoK X.K a [.str y])(hg:Gl X x:=by rfl)(hd:(x==("__debug__":Str))=false:=by decide):XE X (.Name x pos) (HM.eC (.tuple [.str y])):=by obtain⟨a,hm,hk⟩:=hm;exact Zeg (Zl3 hg hm (v:=.ref a) rfl hd) λ_=>.tupk hk
theorem Zsz{K:Zzp}{F F2 H2:Hp}(s:Zs F2 H2):∀(n:Nat) {d:PyData} {v:V},HM.Zed n d=true->Rep K F2 d v->Rep K (Zcl F H2) d v:=by
 intro n
 induction n with
 | zero =>
  intro d v h r;cases r with
  | non=>exact .non
  | bl b=>exact .bl b
  | int i=>exact .int i
  | str x=>exact .str x
  | tupk h1=>exact .tupk h1
  | tup _ _ _=>cases h
  | lst _ _ _=>cases h
  | dct _ _ _ _=>cases h
  | fn _=>cases h
 | succ n ih =>
  intro d v h r;cases r with
  | non=>exact .non
  | bl b=>exact .bl b
  | int i=>exact .int i
  | str x=>exact .str x
  | tupk h1=>exact .tupk h1
  | tup h1 h2 h3=>exact .tup (ZkO (s _ _ h1)) h2 λi d v e1 e2=>ih (Zzz.mp h d (ZzU e1)) (h3 i d v e1 e2)
  | lst _ _ _=>cases h
  | dct _ _ _ _=>cases h
  | fn _=>cases h
def ZyL(K:Zzp)(neg:Bool):R2:=λv w H Q=>∃F x y,Zs F H/\Rep K F x v/\Rep K F y w/\x.canLay0=true/\HM.Zag y=true/\Q (.bl (if neg then !PyData.eqv x y else ZAr x y)) H
theorem Zyk{k:Nat}(hr:Zal k X.A):OpR X (ZAu .NotEq) (ZyL X.K true):=by intro pins s σ H v w u u' Q I r1 r2 ⟨F,x,y,sub,q1,q2,a1,p2,q⟩;obtain⟨b1,b2⟩:=Zc6 p2;obtain⟨as,h1⟩:=q1.reads I sub a1 u r1;obtain⟨bs,h2⟩:=q2.reads I sub b1 u' r2;refine ZD3 X.prog X.w X.A X.xe s u u' x y as bs _ h1 h2 a1 b1 ?_ ⟨.bl _,H,I,rfl,q⟩;have:=hr.un;have:min x.depth y.depth<=60:=ZAd (Nat.min_le_right _ _) b2;omega
theorem ZwE{k:Nat}(hr:Zal k X.A):Ze7 X .NotEq HM.ZeY:=by
 refine⟨⟨_,Zyk hr,λF H x y z v w Q s e r1 r2 k=>?_⟩,by decide,by decide⟩;unfold HM.ZeY at e;split at e
 ·rename_i hp
  cases e;rw[ZzK]at hp;exact⟨F,x,y,s,r1,r2,hp.1,hp.2,k _ (.bl _)⟩
 ·cases e
end
end HP
namespace HP
open PySem
abbrev mdA(I S:Addr)(dv:Value):Args:=⟨[.ref I,.none,.ref S],[(ZAk "default",dv)]⟩
theorem ZjQ:(toString "min" ++ toString ".loop":String) = "min.loop":=by decide
theorem ZvT(a dv:Value):argsOk "min" ⟨[a],[(ZAk "default",dv)]⟩:=by unfold argsOk; kernel_rfl
section
variable{prog:Program}{w:World}{A:Around}{R:Result->Shared->Prop}{I:Addr}{fp wr:List Addr}{n:Nat}{P:Nat->Value->Prop}{St:Nat->Heap->Prop}
theorem Zvt(W:Walks prog w A.in1 I fp wr n P St)(bt:Nat->Nat->Bool)(hc:CmpOf prog w A.in1 .Lt P bt){S:Addr}(hf:S ∉ fp)(dv:Value):∀(k j:Nat) (s:Shared) (b:Value) (ep:Nat),n=j+1+k->St (j+1) s.heap->P (argBest bt j) b ->
  s.heap.get? S=some { cls:=.type "list",dict:=none,data:=.seq #[b,b] ep,slots:=#[] } ->
  (∀v h' tk,P (argBest bt (n-1)) v->(∀x o,x ∉ wr->x≠S->s.heap.get? x=some o->h'.get? x=some o)->R (.ok (.ret v)) { s with heap:=h',toks:=tk }) ->
  codeAny (model prog w) A (.builtin "min.loop" (mdA I S dv)) R s:=by
 have hw:S ∉ wr:=λh=>hf (W.sub _ h);intro k
 induction k with
 | zero =>
  intro j s b ep hn st pb gS out;have hn:n=j+1:=by omega
  subst hn;refine ZAQ ZCI ?_;rw[ZAz ZAW _];show wpAny _ A.in1 (seqItems? (.ref S) >>= _) _ _ s;refine Zzq (wpAny_seqItems gS rfl ?_);show wpAny _ A.in1 (tryCatch (pyNext (.ref I)) _ >>= _) _ _ s;refine Zzq (ZCv (W.done s _ _ st λh1 tk keep=>?_));have gS1:=keep S _ hw gS;show wpAny _ A.in1 (updateSeq S (λ_=>#[]) >>= _) _ _ _;exact Zzq (ZDY gS1 rfl (Zzq (ZD6 (Zzv (out b _ tk pb λx o hx hS e=>(ZAV _ _ (ZAx hS)).trans (keep x o hx e))))))
 | succ k ih =>
  intro j s b ep hn st pb gS out;refine ZAQ ZCI ?_;rw[ZAz ZAW _];show wpAny _ A.in1 (seqItems? (.ref S) >>= _) _ _ s;refine Zzq (wpAny_seqItems gS rfl ?_);show wpAny _ A.in1 (tryCatch (pyNext (.ref I)) _ >>= _) _ _ s;refine Zzq (ZCv (W.item (j+1) s _ _ (by omega) st λv h1 tk pv st1 keep=>?_));have gS1:=keep S _ hw gS;show wpAny _ A.in1 (tryCatch (holding [v,v] (richCompare .Lt v b >>= _)) _ >>= _) _ _ _;refine Zzq (ZCv (ZAE (Zzq (hc (j+1) (argBest bt j) v b _ _ _ pv pb (Zzq (ZAE (ZAL (Zzq (ZD6 (Zzv ?_))))))))));have best:argBest bt (j+1)=if bt (j+1) (argBest bt j)then j+1 else argBest bt j:=rfl
  cases hb:bt (j+1) (argBest bt j)with
  | true =>
   rw[hb,if_pos rfl]at best;simp only[if_true];refine Zzq (ZDY gS1 rfl (Zzq (ZD6 ?_)));rw[ZjQ];refine Zzv ⟨ZBK ZAW _,ih (j+1) _ v _ (by omega) (W.frame _ _ _ st1 λx hx o e=>?_) (by rw[best]; exact pv) (ZAC _ gS1 rfl) λv' h2 tk2 p' keep2=>?_⟩
   ·exact(ZAV _ _ (λz:S=x=>hf (by rw[z]; exact hx))).trans e
   ·exact out v' h2 tk2 p' λx o hx hS e=>keep2 x o hx hS ((ZAV _ _ (ZAx hS)).trans (keep x o hx e))
  | false=>rw[hb,if_neg (by simp)]at best;simp only[ZBn,if_false];refine Zzq (ZD6 ?_);rw[ZjQ];exact Zzv ⟨ZBK ZAW _,ih (j+1) _ b ep (by omega) st1 (by rw[best]; exact pb) gS1 λv' h2 tk2 p' keep2=>out v' h2 tk2 p' λx o hx hS e=>keep2 x o hx hS (keep x o hx e)⟩
theorem Zvd(W:Walks prog w A.in1 I fp wr n P St)(bt:Nat->Nat->Bool)(hc:CmpOf prog w A.in1 .Lt P bt){S:Addr}(hf:S ∉ fp)(dv:Value){s:Shared}{ep:Nat}(st:St 0 s.heap)
  (gS:s.heap.get? S=some { cls:=.type "list",dict:=none,data:=.seq #[] ep,slots:=#[] })
  (o0:n=0->∀h' tk,(∀x o,x ∉ wr->x≠S->s.heap.get? x=some o->h'.get? x=some o)->R (.ok (.ret dv)) { s with heap:=h',toks:=tk })
  (o1:0<n->∀v h' tk,P (argBest bt (n-1)) v->(∀x o,x ∉ wr->x≠S->s.heap.get? x=some o->h'.get? x=some o)->R (.ok (.ret v)) { s with heap:=h',toks:=tk }) :
  codeAny (model prog w) A (.builtin "min.loop" (mdA I S dv)) R s:=by
 have hw:S ∉ wr:=λh=>hf (W.sub _ h);refine ZAQ ZCI ?_;rw[ZAz ZAW _];show wpAny _ A.in1 (seqItems? (.ref S) >>= _) _ _ s;refine Zzq (wpAny_seqItems gS rfl ?_);show wpAny _ A.in1 (tryCatch (pyNext (.ref I)) _ >>= _) _ _ s
 by_cases h0:n=0
 ·subst h0
  refine Zzq (ZCv (W.done s _ _ st λh1 tk keep=>?_));show wpAny _ A.in1 (rule _ >>= _) _ _ _;exact Zzq (wpAny_rule (Zzv (o0 rfl h1 tk λx o hx _ e=>keep x o hx e)))
 ·refine Zzq (ZCv (W.item 0 s _ _ (by omega) st λv h1 tk pv st1 keep=>?_))
  have gS1:=keep S _ hw gS;show wpAny _ A.in1 (updateSeq S (λ_=>#[v,v]) >>= _) _ _ _;refine Zzq (ZDY gS1 rfl ?_);rw[ZjQ];refine Zzv ⟨ZBK ZAW _,Zvt W bt hc hf dv (n-1) 0 _ v _ (by omega) (W.frame _ _ _ st1 λx hx o e=>?_) pv (ZAC _ gS1 rfl) λv' h2 tk2 p' keep2=>?_⟩
  ·exact(ZAV _ _ (λz:S=x=>hf (by rw[z]; exact hx))).trans e
  ·exact o1 (by omega) v' h2 tk2 p' λx o hx hS e=>keep2 x o hx hS ((ZAV _ _ (ZAx hS)).trans (keep x o hx e))
end
end HP
namespace HP
open PySem PySem.Spec PyProof.Rows L2
variable[FX]
theorem Rep.fn_inv{K:Zzp}{F:Hp}{t:Nat}{cs:List PyData}{v:V}(h:Rep K F (HM.fnD t cs) v):∃a,v=.ref a/\FX.fv t cs F a:=by
 cases h with
 | @dct a es kvs vvs h he hk hr =>
  cases kvs with
  | nil=>cases he
  | cons p r =>
   injection he with h1 _
   injection h1 with h2 _
   cases h2
 | fn h=>exact⟨_,rfl,h⟩
theorem Zo5{d:PyData}{t:Nat}{cs:List PyData}(h:HM.ZiI d=some (t,cs)):d=HM.fnD t cs:=by
 unfold HM.ZiI at h;split at h
 ·cases h; rfl
 ·cases h
structure GFn(mg:Str->Option Value)(x:Str)(t:Nat):Prop where
 ex:∃f,mg x=some (.ref f)/\∀F,FX.fv t [] F f
section
variable{X:Cx}{pos p:Pos}{e a b:Expr}{es:List Expr}{f:HM.AF}
theorem Znz{x:Str}{t:Nat}(h:GFn X.mg x t)(hg:Gl X x:=by rfl)(hd:(x==("__debug__":Str))=false:=by decide):XE X (.Name x pos) (HM.eC (HM.fnD t [])):=by obtain⟨f,hm,hv⟩:=h.ex;exact Zeg (Zl3 hg hm (v:=.ref f) rfl hd) λF=>.fn (hv F)
structure Zc3(P:Program)(w:World)(K:Zzp)(mg:Str->Option Value)(base:Heap)(k:Nat)(ap:HM.AP):Prop where
 fn:∀{t:Nat} {cs:List PyData} {F:Hp} {a:Addr},FX.fv t cs F a->∀{A:Around} {outer:List Env} {s:Shared} {H:Hp},Zfn P w K mg base A outer s H->Zs F H->ZEr a s.heap
 run:∀{t:Nat} {cs:List PyData} {F:Hp} {a:Addr},FX.fv t cs F a->∀{A:Around} {outer:List Env} {s:Shared} {H:Hp},Zfn P w K mg base A outer s H->Zs F H ->
  ∀{us:List Value} {vs:List V} {ds:List PyData} {d:PyData} {Q:VK},Zal k A->Tb H->NoT F->Vals vs us->Zy K F ds vs->ap t cs ds=some d->(∀v F' H',Ext F H F' H'->Rep K F' d v->Q v H') ->
   codeAny (model P w) A (.call (.ref a) ⟨us,[]⟩) (CR CX0 outer P w H s Q E0) s
theorem Zc3.mono{P:Program}{w:World}{K:Zzp}{mg:Str->Option Value}{base:Heap}{j k:Nat}{ap:HM.AP}(C:Zc3 P w K mg base j ap)(h:j<=k):Zc3 P w K mg base k ap :=
 ⟨C.fn,by intro t cs F a q A outer s H e z us vs ds d Q hr; exact C.run q e z (hr.mono h)⟩
theorem ZkE{k:Nat}{ap:HM.AP}(C:Zc3 X.prog X.w X.K X.mg X.base k ap)(hr:Zal k X.A)(i:Nat){x:Str}(ha:XA X (e::es) f)(hN:X.N[i]?=some x:=by rfl)
  (hv:Vis X.env.scope x:=by first | exact ZAe rfl | exact ZzY (ZAe rfl) | exact ZzY (ZzY rfl)) (hd:(x==("__debug__":Str))=false:=by decide) (hcd:(x==("__classdict__":Str))=false:=by decide)
  (he:ZzC (e::es) X.env=(false,eval e X.env)::ZzC es X.env:=by rfl) (hpl:(backTo pos (ZzC es X.env)).any (·.1)=false:=by rfl):XE X (.Call (.Name x p) (e::es) [] pos) (HM.Zdc ap i f):=by
 intro r d h;unfold HM.Zdc at h;split at h
 case h_2=>cases h
 rename_i d0 hs;split at h
 case h_2=>cases h
 rename_i t cs hu;split at h
 case h_2=>cases h
 rename_i ds hds;obtain rfl:=Zo5 hu;intro pins s σ H Q I ⟨F0,H0,F1,at_,kk⟩;obtain⟨v,h1,h2⟩:=at_.plain hs;obtain⟨q,rfl,fv⟩:=h2.fn_inv;refine ZBm (thn (ZbU hN hv hd hcd pins s σ H (λv' H'=>v'=.ref q/\H'=H) I ⟨_,h1,rfl,rfl⟩) λu s1 ⟨v',H1,I1,r1,e1,e2⟩=>?_);subst e1 e2;obtain rfl:u=ZAo q:=r1;refine ZEs (C.fn fv I1.env0 at_.sub) (thn (ha.pa r ds hds pos pins s1 σ H1 (λvs H2=>∃F2,Ext F1 H1 F2 H2/\Zy X.K F2 ds vs) I1 ⟨F0,H0,F1,at_,λvs F2 H2 x2 q2=>⟨F2,x2,q2⟩⟩) λus s2 ⟨vs,H2,I2,r2,F2,x2,q2⟩=>?_) he hpl;have fv2:=FX.mono fv x2.ff;refine⟨C.fn fv2 I2.env0 x2.sub,ZDz (ZBr (C.run fv2 I2.env0 x2.sub hr (at_.tbx x2) (at_.ntx x2) r2 q2 h λv F' H' x3 q3=>kk v F' H' (x2.trans x3) q3) λrs s' hq=>?_)⟩;cases rs with
 | error e=>exact ZAm hq
 | ok fl =>
  cases fl with
  | ret u=>exact I2.after hq
  | next=>exact ZAm hq
  | brk=>exact ZAm hq
  | cont=>exact ZAm hq
def spN(K:Zzp)(n:Nat)(M:List PyData->Option (List (List Key × PyData))):Sp:=λvs H Q _=>∃F ds kvs,vs.length=n/\Zs F H/\Tb H/\NoT F/\Zy K F ds vs/\M ds=some kvs /\
 ∀l vvs F' H',Ext F H F' H'->H' l=some (.dT vvs)->kvs.map (·.1)=vvs.map (·.1)->Zy K F' (kvs.map (·.2)) (vvs.map (·.2))->F' l=none->H l=none->Q (.ref l) H'
structure ZeB(P:Program)(w:World)(K:Zzp)(mg:Str->Option Value)(base:Heap)(k:Nat)(x:Str)(M:List PyData->Option (List (List Key × PyData))):Prop where
 ex:∃f fd ps,(∀ds d,M ds=some d->ds.length=ps.length)/\ZdK P w K mg base CX0 k f fd ps (spN K ps.length M)/\mg x=some (.ref f)/\ZAU K (.ref f)=true/\Binds K fd ps []
theorem ZeB.mono{P:Program}{w:World}{K:Zzp}{mg:Str->Option Value}{base:Heap}{j k:Nat}{x:Str}{M:List PyData->Option (List (List Key × PyData))}(C:ZeB P w K mg base j x M)(h:j<=k):ZeB P w K mg base k x M:=by obtain⟨f,fd,ps,l,F,r⟩:=C.ex;exact⟨f,fd,ps,l,F.mono h,r⟩
theorem Zy.flat{K:Zzp}{F F':Hp}{ds:List PyData}{vs:List V}(r:Zy K F ds vs)(h:∀d∈ds,HM.Zj1 d=true):Zy K F' ds vs :=
 ⟨r.1,λi d v h1 h2=>(r.2 i d v h1 h2).flat (h d (ZzU h1))⟩
theorem ZtU{k:Nat}{x:Str}{g:HM.AF}{M:List PyData->Option (List (List Key × PyData))}(C:ZeB X.prog X.w X.K X.mg X.base k x M)(hr:Zal k X.A)(ha:XAL X (e::es) g)(hg:Gl X x:=by rfl)(hdb:(x==("__debug__":Str))=false:=by decide)
  (he:ZzC (e::es) X.env=(false,eval e X.env)::ZzC es X.env:=by rfl) (hpl:(backTo pos (ZzC es X.env)).any (·.1)=false:=by rfl):XF X (.Call (.Name x p) (e::es) [] pos) (HM.ZjL M g):=by
 intro r d hd;unfold HM.ZjL at hd;split at hd
 case h_2=>cases hd
 rename_i ds hds;split at hd
 case h_2=>cases hd
 rename_i kvs hM;split at hd
 case isFalse=>cases hd
 rename_i hfl;cases hd;obtain⟨fa,fd,ps,hl,F,hm,hk,hb⟩:=C.ex;refine PE.imp (Zj7 (E:=E0) F hr hg hm hk hb .nil Znr (ha.pa r ds hds) hdb he hpl) λσ H Q ⟨F0,H0,F1,at_,kk⟩=>?_;refine⟨F0,H0,F1,at_,λvs F' H' x q=>?_⟩;show spN X.K ps.length M (vs++[]) H' Q E0;rw[Zz8];refine⟨Zcj H',ds,kvs,by rw[<-q.1]; exact hl ds _ hM,Zex,at_.tbx x,.drop,q.drop',hM,λl vvs F2 H2 x2 h1 h2 h3 h4 h5=>?_⟩;refine kk _ F' H2 (x.trans (Ext.forget x.sub (at_.ntx x) x2)) ⟨[l],.ot h1 h2 (h3.flat λd hd=>?_),by simp,λc hc=>?_⟩
 ·obtain⟨q,h6,rfl⟩:=Zzx.mp hd
  exact Zzz.mp hfl q h6
 ·obtain rfl:c=l:=by simpa using hc
  exact⟨x.sub.free h5,x.hh.free h5⟩
def tSn(K:Zzp)(r:HM.Env)(kvs:List (List Key × PyData)):TS:=λE σ H=>Now K r σ H λF0 H0 F=>∀l vvs F' H',Ext F0 H0 F' H'->H' l=some (.dT vvs)->kvs.map (·.1)=vvs.map (·.1)->Zy K F' (kvs.map (·.2)) (vvs.map (·.2))->F' l=none->H0 l=none->E.rt (.ref l) H'
def XSn(X:Cx)(sts:List Stmt)(m:HM.NF):Prop:=∀r kvs,m r=some kvs->PSs X sts (tSn X.K r kvs)
theorem ZoW{st:Stmt}{rest:List Stmt}{g:HM.SF}{m:HM.NF}(h1:XS X st g)(h2:XSn X rest m):XSn X (st::rest) (HM.ZkS g m):=by
 intro r kvs h;unfold HM.ZkS at h;split at h
 ·rename_i r' q
  refine PSs.imp (Zii (h1 r _ q) (h2 r' kvs h)) λE σ H ⟨F0,H0,F,at_,k⟩=>?_;exact⟨F0,H0,F,at_,λσ' F' H' at'=>⟨F0,H0,F',at',k⟩⟩
 ·cases h
theorem Zwe(j:Nat){x:Str}{p1:Pos}(hN:X.N[j]?=some x:=by rfl)(hv:Vis X.env.scope x:=by first | exact ZAe rfl | exact ZzY (ZAe rfl) | exact ZzY (ZzY rfl))(hd:(x==("__debug__":Str))=false:=by decide)
  (hcd:(x==("__classdict__":Str))=false:=by decide):XSn X [.Return (some (.Name x p)) p1] (HM.Zpn j):=by
 intro r kvs h;unfold HM.Zpn at h;split at h
 ·rename_i kvs' hs
  cases h;refine PSs.imp (Zii (ZoC (ZbU hN hv hd hcd)) Zg6) λE σ H ⟨F0,H0,F,⟨fp,at_⟩,k⟩=>?_;obtain⟨v,h1,h2⟩:=at_.at_ j _ hs;generalize hfp:fp j=fj at h2;cases h2 with
  | @ot l _ vvs hl hk q=>have ho:=at_.own j l (by rw[hfp]; simp);exact⟨_,h1,k l vvs F H at_.ext hl hk q ho.1 ho.2⟩
 ·cases h
theorem Zr1{P:Program}{w:World}{K:Zzp}{mg:Str->Option Value}{base:Heap}{k:Nat}{x qual:Str}{st:Stmt}{f:Addr}{fd:FuncData}{N ps:List Str}{m:HM.NF}(Fn:Fun K x qual st f fd)(S:Zx N ps (Zf st))(hm:mg x=some (.ref f))(hb:Binds K fd ps [])
  (body:∀(cdv:Value) (A:Around) (outer:List Env) (s:Shared) (H:Hp) (E:XK),Zal k (A.deeper (envOfC qual (Zf st) s.heap.objs.size f cdv))->XSn (ZgM CX0 P w K mg base N qual (Zf st) f cdv A outer s H E).nox (Za1 st) m) :
  ZeB P w K mg base (k+1) x (HM.newOf ps.length N.length m):=by
 have hpl:ps.length<=N.length:=by have:=congrArg ZAi S.pre; rw[ZA3]at this; omega
 refine⟨f,fd,ps,λds d h=>?_,Fn.ok S (λvs H Q E h=>?_) (λcdv A outer s H vs Q E hr h=>?_),hm,Fn.kp,hb⟩
 ·unfold HM.newOf at h
  split at h
  ·assumption
  ·cases h
 ·obtain⟨_,_,_,h,_⟩:=h
  exact h
 ·obtain⟨F,ds,kvs,hl,sub,tb,nt,q,hM,kk⟩:=h
  unfold HM.newOf at hM;split at hM
  ·rename_i hds
   exact⟨_,body cdv A outer s H E hr _ _ hM,F,H,F,ZgX (N:=N) sub tb nt q (by omega),λl vvs F' H' x h1 h2 h3 h4 h5=>kk l vvs F' H' x h1 h2 h3 h4 h5⟩
  ·cases hM
theorem Zsy(hc:X.calm=true){pins:List (Addr × Obj)}{s:Shared}{σ:L2.St}{H:Hp}{l:Addr}{ns:List Int}{Q:VK}(I:Inv X pins σ H s)(hq:SqL X.K H l (ns.map V.int))(q:Q (match ns.min? with | some i=>.int i | none=>.non) H) :
  wpAny (model X.prog X.w) X.A (call (.builtin "min") [.ref l] [(ZAk "default",.none)]) (EP X pins σ Q) X.xe s:=by
 obtain⟨its,rv,pl,hz⟩:=I.list hq;have hi:=Zeu rv;obtain⟨xs,e⟩:=hi.allInts.items;have hns:ns=xs.toList.map (·.1):=by rw[<-hi.numsOf,<-nums_intItems,<-e]
 have hl:=pl.isList;rw[e]at hl;refine PyProof.Rows.kmk_tree PySem.F.kind_min PySem.F.plain_min PySem.F.entry_min (ZvT _ _) ?_;refine Zzq (ZD5 (show Builtin.Builtins.bindParams "min" ["key","default"] 0 ⟨[],[(ZAk "default",.none)]⟩=pure [none,some .none] from rfl) ?_);refine Zzq (Zzv ?_);refine Zzq (iter_intList hl λs2 e2 st hfp hlI=>?_);subst e2;refine Zzq (ZAw ?_);rw[ZjQ];generalize hIT:s.heap.push { cls:=.type "list_iterator",data:=.fields #[.ref l,.int 0 0] }=h1 at st hfp;have z1:h1.objs.size=s.heap.objs.size+1:=by rw[<-hIT]; exact ZB5 ..
 have k1:∀b o,s.heap.get? b=some o->h1.get? b=some o:=λb o e=>by rw[<-hIT]; exact Zzy _ e
 have W:=Walks.list (prog:=X.prog) (w:=X.w) (A:=X.A.in1) (I.ok.hd hc) s.heap.objs.size l hlI (intItems xs);have hSf:h1.objs.size ∉ [s.heap.objs.size,l]:=λz=>ZBh _ (hfp _ z);have old:∀{h':Heap} {oS:Obj},(∀x o,x ∉ [s.heap.objs.size]->x≠h1.objs.size->(h1.push oS).get? x=some o->h'.get? x=some o)->∀b o,s.heap.get? b=some o->h'.get? b=some o:=λhk b o e=>by have hb:=ZzJ e;exact hk b o (λz=>by rw[ZzI.mp z]at hb; exact ZBh _ hb) (ZzQ (by rw[z1]; exact ZB3 hb)) (Zzy _ (k1 b o e))
 refine Zzv ⟨ZBK ZAW _,Zvd W (λi j=>decide (numAt xs i<numAt xs j)) (CmpOf.ints_lt (numAt xs) λ_ _=>intItems_at) hSf .none (W.frame _ _ _ st λb _ o e=>Zzy _ e) (ZzM _ rfl) (λh0 h' tk hk=>?_) λh0 v h' tk hP hk=>?_⟩
 ·have e0:ns=[]:=by
   rw[hns];have:xs.size=0:=by simpa [intItems]using h0
   rw[Array.eq_empty_of_size_eq_zero this]; rfl
  subst e0;exact⟨.non,H,I.kept (t':=tk) (old hk),rfl,q⟩
 ·have h0':0<xs.size:=by simpa [intItems]using h0
  have hP':(intItems xs)[argBest (λi j=>decide (numAt xs i<numAt xs j)) (xs.size-1)]?=some v:=by simpa [intItems]using hP
  obtain⟨t,rfl⟩:=intItems_at hP';obtain⟨g1,g2⟩:=argBest_lt (numAt xs) (xs.size-1);have hm:ns.min?=some (numAt xs (argBest (λi j=>decide (numAt xs i<numAt xs j)) (xs.size-1))):=by
   refine ZBH.mpr ⟨?_,λa ha=>?_⟩
   ·rw[hns,numAt_eq]; exact getD_mem (by rw[Zzr,ZzV]; omega)
   ·rw[hns]at ha
    obtain⟨j,hj,rfl⟩:=mem_getD ha;rw[Zzr,ZzV]at hj;rw[<-numAt_eq]; exact g2 j (by omega)
  rw[hm]at q;exact⟨.int _,H,I.kept (t':=tk) (old hk),⟨t,rfl⟩,q⟩
theorem Zqy{f:HM.BF}{kp p2:Pos}{j:Nat}(hm:X.mg "min" = none)(hc:X.calm=true)(ha:XB X a f)(hg:Gl X "min":=by rfl)(hs:ZzC [a] X.env=[(false,eval a X.env)]:=by rfl)
  (he:backTo pos (ZzC [a] X.env)=(false,eval a X.env)::backTo pos (ZzC [] X.env):=by rfl) (hpl:(backTo pos (ZzC [a] X.env)).any (·.1)=false:=by rfl) :
  XE X (.Call (.Name "min" p) [a] [⟨some "default",.Constant .none j p2,kp⟩] pos) (HM.Zgc f):=by
 intro r d h;unfold HM.Zgc at h;split at h
 case h_2=>cases h
 rename_i x hx;split at h
 case h_2=>cases h
 rename_i ds hds;split at h
 case h_2=>cases h
 rename_i ns hns;cases h;intro pins s σ H Q I ⟨F0,H0,F,at_,k⟩;refine ZBm (ZhV I hg hm ZtD ?_);refine callWith_kw (thn (ZfI ha hx hs pos pins s σ H (λvs H1=>∃v fp F1,vs=[v]/\Ext F H F1 H1/\Zai X.K F1 H1 x v fp) I ⟨F0,H0,F,at_,λv fp F' H' x1 r1=>⟨v,fp,F',rfl,x1,r1⟩⟩) λus s1 ⟨vs,H1,I1,rv,v,fp,F1,e1,x1,r1⟩=>?_) he hpl;subst e1;obtain⟨u,rfl,ru⟩:=vals1 rv;obtain⟨l,ws,rfl,hq,rs⟩:=ZgN x1.sub r1 hds;obtain rfl:u=ZAo l:=ru;rw[Zc4 hns rs]at hq;refine kws_cons (thn (Zta pins s1 σ H1 (λv' H'=>v'=.non/\H'=H1) I1 ⟨rfl,rfl⟩) λu2 s2 ⟨v',H2,I2,r2,e2,e3⟩=>?_);subst e2 e3;obtain rfl:u2=ZAy:=r2;refine kws_nil ?_;refine Zsy hc I2 hq ?_;refine k _ F1 H2 x1 ?_;cases ns.min? with
 | none=>exact .non
 | some i=>exact .int i
end
end HP
namespace HP
open PySem PySem.Spec PyProof.Rows L2
abbrev FX0:FX where
 tl:=[]
 fv:=λ_ _ _ _=>False
 sw:=λ_ _ h=>h
 drop:=λh=>h
 mono:=λh _=>h
structure Clo(K:Zzp)(F:Hp)(p:Addr)(params:Arguments)(body:Expr)(scope:Scope)(names:List Str)(cs:List PyData):Prop where
 ex:∃(qual:Str) (pm ctv:Value) (c:Addr) (oc:Obj) (clos:List (Str × Addr)),
  F p=some (Zbw p (ZC3 "<lambda>" qual params body scope clos pm c ctv))/\F c=some (Zbw c oc)/\ZlN oc qual /\
  (∀x y a,clos.lookup x=some a->clos.lookup y=some a->x=y)/\(∀y∈scope.names,y.2=.free->(clos.lookup y.1).isSome=true) /\
  (∀x a,clos.lookup x=some a->∃o v,F a=some (Zbw a o)/\o.data=.cell v) /\
  names.length=cs.length/\∀(i:Nat) (x:Str) (d:PyData),names[i]?=some x->cs[i]?=some d->∃a o u v,clos.lookup x=some a/\F a=some (Zbw a o)/\o.data=.cell (some u)/\RelV v u/\@Rep FX0 K F d v
section
variable{K:Zzp}{F F':Hp}{p:Addr}{params:Arguments}{body:Expr}{scope:Scope}{names:List Str}{cs:List PyData}
theorem Clo.mono(h:Clo K F p params body scope names cs)(s:Zs F F'):Clo K F' p params body scope names cs:=by
 obtain⟨qual,pm,ctv,c,oc,clos,h1,h2,h3,h4,h5,h6,h7,h8⟩:=h.ex;refine⟨qual,pm,ctv,c,oc,clos,s _ _ h1,s _ _ h2,h3,h4,h5,λx a e=>?_,h7,λi x d e1 e2=>?_⟩
 ·obtain⟨o,u,q1,q2⟩:=h6 x a e
  exact⟨o,u,s _ _ q1,q2⟩
 ·obtain⟨a,o,u,v,q1,q2,q3,q4,q5⟩:=h8 i x d e1 e2
  exact⟨a,o,u,v,q1,s _ _ q2,q3,q4,@Rep.mono FX0 _ _ _ _ _ q5 s⟩
theorem Clo.drop(h:Clo K F p params body scope names cs):Clo K (Zcj F) p params body scope names cs:=by
 obtain⟨qual,pm,ctv,c,oc,clos,h1,h2,h3,h4,h5,h6,h7,h8⟩:=h.ex;refine⟨qual,pm,ctv,c,oc,clos,ZcD h1 rfl,ZcD h2 rfl,h3,h4,h5,λx a e=>?_,h7,λi x d e1 e2=>?_⟩
 ·obtain⟨o,u,q1,q2⟩:=h6 x a e
  exact⟨o,u,ZcD q1 rfl,q2⟩
 ·obtain⟨a,o,u,v,q1,q2,q3,q4,q5⟩:=h8 i x d e1 e2
  exact⟨a,o,u,v,q1,ZcD q2 rfl,q3,q4,@Rep.drop FX0 _ _ _ _ q5⟩
theorem Clo.sw{a:Addr}{ob:HO}{vvs:List (List Key × V)}(hF:∀u,F a=some u->Dk vvs u)(hob:Dk vvs ob)(h:Clo K F p params body scope names cs):Clo K (HP.sw a ob F) p params body scope names cs:=by
 have key:∀{b:Addr} {o:Obj},F b=some (Zbw b o)->HP.sw a ob F b=some (Zbw b o):=λ{b o} e=>by
  have hb:b≠a:=λz=>by subst z;have:=@Dk.te FX0 _ _ (hF _ e);cases this
  unfold HP.sw; rw[if_neg hb]; exact e
 obtain⟨qual,pm,ctv,c,oc,clos,h1,h2,h3,h4,h5,h6,h7,h8⟩:=h.ex;refine⟨qual,pm,ctv,c,oc,clos,key h1,key h2,h3,h4,h5,λx a e=>?_,h7,λi x d e1 e2=>?_⟩
 ·obtain⟨o,u,q1,q2⟩:=h6 x a e
  exact⟨o,u,key q1,q2⟩
 ·obtain⟨a,o,u,v,q1,q2,q3,q4,q5⟩:=h8 i x d e1 e2
  exact⟨a,o,u,v,q1,key q2,q3,q4,@Rep.sw FX0 _ _ _ _ _ _ _ hF hob q5⟩
end
theorem Rep.up[FX]{K:Zzp}{F:Hp}{d:PyData}{v:V}(r:@Rep FX0 K F d v):Rep K F d v:=by
 induction r with
 | non=>exact .non
 | bl b=>exact .bl b
 | int i=>exact .int i
 | str x=>exact .str x
 | tup h hl _ ih=>exact .tup h hl ih
 | tupk h=>exact .tupk h
 | lst h hl _ ih=>exact .lst h hl ih
 | dct h he hk _ ih=>exact .dct h he hk ih
 | fn h=>exact h.elim
theorem Rep.cutF[FX]{K:Zzp}{F F':Hp}(hF:∀b o,F b=some o->te o=false->F' b=some o){d:PyData}{v:V}(r:Rep K F d v):∀n,HM.noF n d=true->@Rep FX0 K F' d v:=by
 induction r with
 | non=>intro _ _; exact @Rep.non FX0 _ _
 | bl b=>intro _ _; exact @Rep.bl FX0 _ _ b
 | int i=>intro _ _; exact @Rep.int FX0 _ _ i
 | str x=>intro _ _; exact @Rep.str FX0 _ _ x
 | tupk h=>intro _ _; exact @Rep.tupk FX0 _ _ _ _ h
 | tup h hl _ ih =>
  intro n hn;cases n with
  | zero=>cases hn
  | succ n=>exact @Rep.tup FX0 _ _ _ _ _ (hF _ _ h rfl) hl λi d v h1 h2=>ih i d v h1 h2 n (Zzz.mp hn d (ZzU h1))
 | lst h hl _ ih =>
  intro n hn;cases n with
  | zero=>cases hn
  | succ n =>
   refine @Rep.lst FX0 _ _ _ _ _ ?_ hl λi d v h1 h2=>ih i d v h1 h2 n (Zzz.mp hn d (ZzU h1));rcases h with(h | ⟨o,h⟩) | h
   ·exact .inl (.inl (hF _ _ h rfl))
   ·exact .inl (.inr ⟨o,hF _ _ h rfl⟩)
   ·exact .inr h
 | @dct a es kvs vvs h he hk _ ih =>
  intro n hn;cases n with
  | zero=>cases hn
  | succ n =>
   refine @Rep.dct FX0 _ _ _ _ kvs vvs ?_ he hk λi d v h1 h2=>ih i d v h1 h2 n ?_
   ·rcases h with h | ⟨o,h⟩
    ·exact .inl (hF _ _ h rfl)
    ·exact .inr ⟨o,hF _ _ h rfl⟩
   ·subst he
    rw[ZzR]at h1;obtain⟨q,h3,h4⟩:=Zzs.mp h1;subst h4;have hm:(Zz1 (q.1.map HM.ZaM),q.2)∈HM.Ze kvs:=Zzx.mpr ⟨q,ZzU h3,rfl⟩;have:=Zzz.mp hn _ hm;rw[ZzK]at this;exact this.2
 | fn h =>
  intro n hn;cases n with
  | zero=>cases hn
  | succ n=>have:=Zzz.mp hn _ (Zzt ..);cases this
end HP
namespace HP
open PySem PySem.Spec PyProof.Rows L2
theorem Rep0.cut{K:Zzp}{F F':Hp}(hF:∀b o,F b=some o->te o=false->F' b=some o){d:PyData}{v:V}(r:@Rep FX0 K F d v):@Rep FX0 K F' d v:=by
 induction r with
 | non=>exact @Rep.non FX0 _ _
 | bl b=>exact @Rep.bl FX0 _ _ b
 | int i=>exact @Rep.int FX0 _ _ i
 | str x=>exact @Rep.str FX0 _ _ x
 | tupk h=>exact @Rep.tupk FX0 _ _ _ _ h
 | tup h hl _ ih=>exact @Rep.tup FX0 _ _ _ _ _ (hF _ _ h rfl) hl ih
 | lst h hl _ ih =>
  refine @Rep.lst FX0 _ _ _ _ _ ?_ hl ih;rcases h with(h | ⟨o,h⟩) | h
  ·exact .inl (.inl (hF _ _ h rfl))
  ·exact .inl (.inr ⟨o,hF _ _ h rfl⟩)
  ·exact .inr h
 | @dct a es kvs vvs h he hk _ ih =>
  refine @Rep.dct FX0 _ _ _ _ kvs vvs ?_ he hk ih;rcases h with h | ⟨o,h⟩
  ·exact .inl (hF _ _ h rfl)
  ·exact .inr ⟨o,hF _ _ h rfl⟩
 | fn h=>exact h.elim
def Zbi(C:List Addr)(H:Hp):Hp:=λb=>if b∈C then none else H b
theorem Zh1{C:List Addr}{H:Hp}{b:Addr}(h:b∈C):Zbi C H b=none:=by unfold Zbi; rw[if_pos h]
theorem Zav{C:List Addr}{H:Hp}{b:Addr}(h:b ∉ C):Zbi C H b=H b:=by unfold Zbi; rw[if_neg h]
theorem Zio{C:List Addr}{H:Hp}{b:Addr}{o:HO}(h:Zbi C H b=some o):b ∉ C/\H b=some o:=by
 unfold Zbi at h;split at h
 ·cases h
 ·exact⟨by assumption,h⟩
def ZhA(C:List Addr)(G H:Hp):Hp:=λb=>if b∈C then G b else H b
theorem Zfp{C:List Addr}{G H:Hp}{b:Addr}(h:b∈C):ZhA C G H b=G b:=by unfold ZhA; rw[if_pos h]
theorem Zbt{C:List Addr}{G H:Hp}{b:Addr}(h:b ∉ C):ZhA C G H b=H b:=by unfold ZhA; rw[if_neg h]
section
variable{P:Program}{w:World}{C:List Addr}{G H H':Hp}{h h':Heap}
theorem ZcC{a:Addr}{o:Obj}(x:Zah P w H h a (Zbw a o)):h.get? a=some o:=x.1
theorem Zj3{a:Addr}{o:Obj}(e:h.get? a=some o):Zah P w H h a (Zbw a o):=⟨e,⟨o,e⟩,λh1 h2 q k=>k o q⟩
theorem HOk.cut(x:HOk P w H h)(hC:∀c∈C,∀o,H c=some o->te o=true):HOk P w (Zbi C H) h:=λa o e=>by
 obtain⟨_,e⟩:=Zio e;have out:∀{b:Addr} {u:HO},H b=some u->te u=false->Zbi C H b=some u:=λ{b u} q t=>by rw[Zav λz=>by rw[hC b z u q]at t; cases t]; exact q
 exact(x a o e).stay (λ_ _ _ q=>q) (λb q=>out q rfl) λb xs q=>out q rfl
theorem HOk.put(x:HOk P w H h)(hn:∀c∈C,H c=none)(hC:∀c∈C,∀u,G c=some u->∃o,u=Zbw c o/\h.get? c=some o):HOk P w (ZhA C G H) h:=λa o e=>by
 have out:∀{b:Addr} {u:HO},H b=some u->ZhA C G H b=some u:=λ{b u} q=>by rw[Zbt λz=>by rw[hn b z]at q; cases q]; exact q
 by_cases ha:a∈C
 ·rw[Zfp ha]at e
  obtain⟨ob,rfl,hb⟩:=hC a ha o e;exact Zj3 hb
 ·rw[Zbt ha]at e
  exact(x a o e).stay (λ_ _ _ q=>q) (λb q=>out q) λb xs q=>out q
end
structure ZkM(scope:Scope)(x:Str)(names:List Str):Prop where
 kind:scope.kind=.function
 co:scope.isCoroutine=false
 gen:scope.isGenerator=false
 nocell:∀y∈scope.names,y.2≠.cell
 par:scope.names.lookup x=some .local
 free:∀n∈names,scope.names.lookup n=some .free
 nd:(x::names).Nodup
def Zns(P:Program)(w:World)(K:Zzp)(mg:Str->Option Value)(base:Heap)(N:List Str)(qual:Str)(scope:Scope)(f:Addr)(cd:Value)(clos:List (Str × Addr))(A:Around)(outer:List Env)(s:Shared)(H:Hp):Cx where
 prog:=P
 w:=w
 K:=K
 mg:=mg
 base:=base
 A:=A.deeper (ZCn qual scope s.heap.objs.size f cd clos)
 N:=N
 s₀:=s
 H₀:=H
 env:=ZCn qual scope s.heap.objs.size f cd clos
 outer:=outer
 stack:=ZCn qual scope s.heap.objs.size f cd clos::outer
 ex:=[]
 calm:=true
 fn:=λ_=>false
 pn:=[]
 xe:=λ_ _=>False
section
variable{P:Program}{w:World}{K:Zzp}{mg:Str->Option Value}{base:Heap}{A:Around}{outer:List Env}{s:Shared}{H:Hp}{k:Nat}
theorem ZsQ{qual x:Str}{scope:Scope}{names:List Str}{f:Addr}{cd:Value}{clos:List (Str × Addr)}(S:ZkM scope x names)(hd:A.handled=none)(e0:Zfn P w K mg base A outer s H)
  (inj:∀y z a,clos.lookup y=some a->clos.lookup z=some a->y=z) (has:∀y∈scope.names,y.2=.free->(clos.lookup y.1).isSome=true)
  (hcell:∀y a,clos.lookup y=some a->H a=none/\∃o v,s.heap.get? a=some o/\o.data=.cell v)
  {v:V} {u:Value} (rv:RelV v u) {vs:List V} (hlen:names.length=vs.length) (hcap:∀(i:Nat) (y:Str) (v':V),names[i]?=some y->vs[i]?=some v'->∃a o u',clos.lookup y=some a/\s.heap.get? a=some o/\o.data=.cell (some u')/\RelV v' u')
  {h':Heap} {tk:Nat} (hns:h'.Ns s.heap.objs.size λy=>[(x,u)].reverse.lookup y) (hsb:ZBq s.heap.objs.size (s.heap.push { cls:=.type "frame",data:=.dict #[] }) h') :
  Inv (Zns P w K mg base (x::names) qual scope f cd clos A outer s H) [] (some v::vs.map some) H { s with heap:=h',toks:=tk }:=by
 have hk:∀b o,s.heap.get? b=some o->h'.get? b=some o:=λb o e=>hsb.extBut b o (ZzQ (ZzJ e)) (Zzy _ e);have noA:∀b:Addr,b ∉ (Zns P w K mg base (x::names) qual scope f cd clos A outer s H).ex:=λb z=>absurd (show b∈([]:List Addr) from z) (by simp);refine⟨⟨e0.mod,S.kind,rfl,rfl,ZzB _,inj,λy hy=>?_,λy c z=>absurd (show false=true from z) (by simp),λ_=>hd,ZEg e0.frames,.inr ⟨rfl,rfl⟩,λb z=>absurd z (noA b),e0.bs,e0.bsz,λb _ _=>noA b,λb z=>absurd z (noA b),e0.funs,e0.frf⟩,
  rfl,e0.bare,Un.kept hk,⟨_,hns,λi y v' h1 h2 h3=>?_⟩,λy c e=>?_,e0.hok.fresh (ZzB _),λy c e=>(hcell y c e).1,λp hp=>absurd (show p∈([]:List (Addr × Obj)) from hp) (by simp),e0.hok.kept hk,?_⟩
 ·have hy:scope.names.lookup y=some .cell\/scope.names.lookup y=some .free:=hy
  rcases hy with hy | hy
  ·exact absurd rfl (S.nocell _ (ZA0 hy))
  ·exact ZzZ.mp (has _ (ZA0 hy) rfl)
 ·cases i with
  | zero=>have e1:x=y:=ZAs h1;have e2:v=v':=ZAs (ZAs h2);subst e1 e2;exact⟨u,rv,.inl ⟨S.par,by simp⟩⟩
  | succ i=>have h1:names[i]?=some y:=h1;have h2:(vs.map some)[i]?=some (some v'):=h2;rw[ZzR]at h2;obtain⟨v2,h4,h5⟩:=Zzs.mp h2;cases h5;obtain⟨a,o,u',q1,q2,q3,q4⟩:=hcap i y v' h1 h4;exact⟨u',q4,.inr ⟨.inr (S.free y (ZzU h1)),a,q1,o,hk _ _ q2,q3⟩⟩
 ·obtain⟨_,o,v',q1,q2⟩:=hcell y c e
  exact⟨v',o,hk _ _ q1,q2⟩
 ·show(some v::vs.map some).length=(x::names).length
  rw[ZzG,ZzG,Zzr,hlen]
end
end HP
namespace HP
open PySem PySem.Spec PyProof.Rows L2
variable[FX]
def cellsOf(clos:List (Str × Addr)):List Addr:=clos.filterMap λq=>clos.lookup q.1
theorem Zms{clos:List (Str × Addr)}{a:Addr}:a∈cellsOf clos↔∃y,clos.lookup y=some a:=by unfold cellsOf;rw[ZAA];exact⟨λ⟨q,_,h⟩=>⟨q.1,h⟩,λ⟨y,h⟩=>⟨(y,a),ZA0 h,h⟩⟩
theorem Tb.cut{P:Program}{w:World}{C:List Addr}{H:Hp}{h:Heap}(t:Tb H)(x:HOk P w H h)(hC:∀c∈C,∃o v,H c=some (Zbw c o)/\o.data=.cell v):Tb (Zbi C H):=λT q hT=>by
 obtain⟨ps,h1,h2,h3⟩:=t T q hT;refine⟨ps,?_,h2,λpos c hc=>?_⟩
 ·rw[Zav λz=>by
   obtain⟨o,v,e,_⟩:=hC T z;rw[h1]at e; cases e]
  exact h1
 ·obtain⟨a,o,e1,e2,e3⟩:=h3 pos c hc
  refine⟨a,o,e1,?_,e3⟩;rw[Zav λz=>by obtain⟨o',v,f1,f2⟩:=hC a z;have g1:=ZcC (x a _ e2);have g2:=ZcC (x a _ f1);rw[g1]at g2;cases g2;obtain⟨vs,tt,d1,_⟩:=e3;rw[d1]at f2; cases f2];exact e2
section
variable{P:Program}{w:World}{K:Zzp}{mg:Str->Option Value}{base:Heap}{k:Nat}
theorem Zwk{params:Arguments}{body:Expr}{scope:Scope}{x:Str}{names:List Str}{g:HM.EF}(S:ZkM scope x names)
  (hbind:∀(qual:Str) (clos:List (Str × Addr)) (pm cd ctv u:Value),bindArgs (PySem.W.kla_fn "<lambda>" qual params body scope clos pm cd ctv) ⟨[u],[]⟩=pure [(x,u)])
  (hbody:∀(qual:Str) (f:Addr) (cd:Value) (clos:List (Str × Addr)) (A:Around) (outer:List Env) (s:Shared) (H:Hp),Zal k (A.deeper (ZCn qual scope s.heap.objs.size f cd clos))->XE (Zns P w K mg base (x::names) qual scope f cd clos A outer s H) body g)
  {A:Around} {outer:List Env} {s:Shared} {F H:Hp} {p:Addr} {cs:List PyData} (C:Clo K F p params body scope names cs) (e0:Zfn P w K mg base A outer s H) (sub:Zs F H) (hr:Zal (k+1) A) (tb:Tb H) (nt:NoT F)
  {us:List Value} {vs:List V} {ds:List PyData} {d:PyData} {Q:VK} (rv:Vals vs us) (rs:Zy K F ds vs) (hap:HM.Zli 1 names.length g cs ds=some d) (kk:∀v F' H',Ext F H F' H'->Rep K F' d v->Q v H') :
  codeAny (model P w) A (.call (.ref p) ⟨us,[]⟩) (CR CX0 outer P w H s Q E0) s:=by
 unfold HM.Zli at hap;split at hap
 case isFalse=>cases hap
 rename_i hc;obtain⟨hl1,hl2,hnf⟩:=hc;obtain⟨d0,rfl⟩:=List.length_eq_one_iff.mp hl1;obtain⟨v0,vs',rfl,r0,rs'⟩:=rs.cons_inv;obtain rfl:=rs'.nil_inv;obtain⟨u0,rfl,ru0⟩:=vals1 rv;have hnf0:HM.noF 20 d0=true:=by rw[ZAF,ZzK]at hnf; exact hnf.1
 obtain⟨qual,pm,ctv,c,oc,clos,h1,h2,h3,h4,h5,h6,h7,h8⟩:=C.ex;generalize hCs:cellsOf clos=Cs;have hCm:∀a,a∈Cs↔∃y,clos.lookup y=some a:=λa=>by rw[<-hCs]; exact Zms
 have hCo:∀a∈Cs,∃o v,F a=some (Zbw a o)/\o.data=.cell v/\s.heap.get? a=some o:=λa ha=>by obtain⟨y,e⟩:=(hCm a).mp ha;obtain⟨o,v,q1,q2⟩:=h6 y a e;exact⟨o,v,q1,q2,ZcC (e0.hok a _ (sub _ _ q1))⟩
 have hCt:∀a∈Cs,∀o,H a=some o->te o=true:=λa ha o e=>by obtain⟨ob,v,q1,_,_⟩:=hCo a ha;rw[sub _ _ q1]at e; cases e; rfl
 have hCn:∀a∈Cs,H a≠none:=λa ha z=>by obtain⟨ob,v,q1,_,_⟩:=hCo a ha;rw[sub _ _ q1]at z; cases z
 have none1:∀b,H b=none->Zbi Cs H b=none:=λb e=>by
  by_cases hb:b∈Cs
  ·exact Zh1 hb
  ·rw[Zav hb]; exact e
 have e1:Zfn P w K mg base A outer s (Zbi Cs H):=⟨e0.frames,e0.mod,λb o e=>⟨(e0.bs b o e).1,none1 b (e0.bs b o e).2⟩,e0.bsz,e0.funs,λb hb=>none1 b (e0.frf b hb),HOk.cut e0.hok hCt,e0.bare⟩;have KX:K.In s.heap:=e0.mod.kin.keeps λb o e=>(e0.bs b o e).1;have lim:s.heap.NoLimit:=e0.mod.nolimit.keeps λb o e=>(e0.bs b o e).1;have hcd:s.heap.CodeRec (.ref c) qual:=by obtain⟨vs,t,d1,d2⟩:=h3;exact⟨c,oc,vs,t,rfl,ZcC (e0.hok c _ (sub _ _ h2)),d1,d2⟩
 refine PySem.W.kla_callFunE hr.depth (ZcC (e0.hok p _ (sub _ _ h1))) rfl S.co S.gen rfl hcd ?_;rw[hbind];refine Zzv (ZC1 S.nocell (λy hy=>by rw[ZzI.mp hy]; exact S.par) (λh' hns hsb=>⟨lim.fresh _ hsb,?_⟩) S.kind);show codeAny _ _ (.expr body (ZCn qual scope s.heap.objs.size p (.ref c) clos)) _ _;have hvs:∃wv:List V,names.length=wv.length/\(∀(i:Nat) (y:Str) (v':V),names[i]?=some y->wv[i]?=some v'->∃a o u',clos.lookup y=some a/\s.heap.get? a=some o/\o.data=.cell (some u')/\RelV v' u')/\Zy K (Zbi Cs F) cs wv:=by
  have step:∀n,n<=cs.length->∃wv:List V,wv.length=n/\∀(i:Nat) (y:Str) (d:PyData) (v':V),names[i]?=some y->cs[i]?=some d->wv[i]?=some v'->(∃a o u',clos.lookup y=some a/\s.heap.get? a=some o/\o.data=.cell (some u')/\RelV v' u')/\Rep K (Zbi Cs F) d v':=by
   intro n
   induction n with
   | zero=>exact λ_=>⟨[],rfl,λi y d v' _ _ h=>by simp at h⟩
   | succ n ih =>
    intro hn;obtain⟨wv,l1,l2⟩:=ih (by omega);have hy:n<names.length:=by omega
    have hd:n<cs.length:=by omega
    obtain⟨a,o,u',v',q1,q2,q3,q4,q5⟩:=h8 n names[n] cs[n] (ZzD hy) (ZzD hd);refine⟨wv++[v'],by rw[ZzL,l1]; rfl,λi y d v2 g1 g2 g3=>?_⟩
    by_cases hi:i<n
    ·rw[Zz4 (by omega)]at g3
     exact l2 i y d v2 g1 g2 g3
    ·have hin:i=n:=by
      have:=(ZzF.mp g3).1;rw[ZzL,l1]at this;have:i<n+1:=this;omega
     subst hin;rw[ZAf (by omega),l1,Nat.sub_self]at g3;rw[ZzD hy]at g1;rw[ZzD hd]at g2;cases g1; cases g2; cases g3;refine⟨⟨a,o,u',q1,ZcC (e0.hok a _ (sub _ _ q2)),q3,q4⟩,?_⟩;refine(Rep0.cut (λb ob z t=>?_) q5).up;rw[Zav λhb=>by obtain⟨ob',v,w1,_,_⟩:=hCo b hb;rw[w1]at z; cases z; cases t];exact z
  obtain⟨wv,l1,l2⟩:=step cs.length (ZzB _);refine⟨wv,by omega,λi y v' g1 g3=>?_,by omega,λi d v' g2 g3=>?_⟩
  ·have hi:=(ZzF.mp g3).1
   exact(l2 i y cs[i] v' g1 (ZzD (by omega)) g3).1
  ·have hi:=(ZzF.mp g3).1
   exact(l2 i names[i] d v' (ZzD (by omega)) g2 g3).2
 obtain⟨wv,wl,wc,wr⟩:=hvs;have cutF:∀b o,F b=some o->te o=false->Zbi Cs F b=some o:=λb ob z t=>by rw[Zav λhb=>by obtain⟨ob',v,w1,_,_⟩:=hCo b hb;rw[w1]at z; cases z; cases t];exact z
 have r0':Rep K (Zbi Cs F) d0 v0:=(Rep.cutF cutF r0 20 hnf0).up;have sub1:Zs (Zbi Cs F) (Zbi Cs H):=λb o e=>by obtain⟨hb,e⟩:=Zio e;rw[Zav hb]; exact sub _ _ e
 have nt1:NoT (Zbi Cs F):=λb o e=>nt b o (Zio e).2;have tb1:Tb (Zbi Cs H):=tb.cut e0.hok λa ha=>by obtain⟨o,v,q1,q2,_⟩:=hCo a ha;exact⟨o,v,sub _ _ q1,q2⟩
 have I:=ZsQ (qual:=qual) (f:=p) (cd:=.ref c) (tk:=s.toks+1) S hr.hd e1 h4 h5 (λy a e=>by obtain⟨o,v,q1,q2,q3⟩:=hCo a ((hCm a).mpr ⟨y,e⟩);exact⟨Zh1 ((hCm a).mpr ⟨y,e⟩),o,v,q3,q2⟩) ru0 wl wc hns hsb;have a0:At K (Zbi Cs F) (Zbi Cs H) (Zbi Cs F) (Zbi Cs H) ((d0::cs).map λd=>some (HM.B.pl d)) (some v0::wv.map some):=by
  have:=ZgX (N:=x::names) sub1 tb1 nt1 (Zy.cons r0' wr) (by rw[ZzG,ZzG]; omega);have e3:HM.Ze8 (x::names).length (d0::cs)=(d0::cs).map λd=>some (HM.B.pl d):=by unfold HM.Ze8;rw[ZzG,ZzG,show names.length+1-(cs.length+1)=0 by omega];exact Zz8 _
  have e4:L2.start (x::names) (v0::wv)=some v0::wv.map some:=by unfold L2.start;rw[ZzG,ZzG,show names.length+1-(wv.length+1)=0 by omega];exact Zz8 _
  rw[e3,e4]at this;exact this
 refine PySem.W.kla_codeExpr (ZAK (hbody qual p (.ref c) clos A outer s (Zbi Cs H) (hr.deeper _) _ _ hap [] _ _ _ (λv' H'=>∃F',Ext (Zbi Cs F) (Zbi Cs H) F' H'/\Rep K F' d v') I ⟨_,_,_,a0,λv' F' H' x' q'=>⟨F',x',q'⟩⟩) (λu' s' hq=>?_) λe s' hq=>ZAm hq);obtain⟨v',H',I',ru',F',x',q'⟩:=hq;have un:Un (frs outer) [] (Zbi Cs H) H' s.heap s'.heap:=I'.base;have nfs:∀a∈Cs,a ∉ frs outer:=λa ha hb=>hCn a ha (e0.frf a hb);have kc:∀a∈Cs,∃o,H a=some (Zbw a o)/\F a=some (Zbw a o)/\s'.heap.get? a=some o/\H' a=none:=λa ha=>by obtain⟨o,v,q1,q2,q3⟩:=hCo a ha;exact⟨o,sub _ _ q1,q1,un.keep a o q3 (Zh1 ha) (nfs a ha) (by simp),un.free a o q3 (Zh1 ha) (by simp)⟩
 have out:∀{b:Addr} {o:HO},H b=some o->te o=false->b ∉ Cs:=λ{b o} e t hb=>by rw[hCt b hb o e]at t; cases t
 have outN:∀{b:Addr},H b=none->b ∉ Cs:=λ{b} e hb=>hCn b hb e;have outT:∀{b:Addr} {ps:Array Value},H b=some (.tbl ps)->b ∉ Cs:=λ{b ps} e hb=>by obtain⟨o,q,_⟩:=kc b hb;rw[e]at q; cases q
 refine⟨v',ZhA Cs H H',I'.os,I'.bare,⟨λb o e n hb hx=>?_,λb o e n hb hx=>?_,λb o e n hx=>?_,un.there,λb xs e=>?_,λb o u e=>?_,λb ps e=>?_⟩,HOk.put I'.hok (λa ha=>by obtain⟨_,_,_,_,q⟩:=kc a ha; exact q) (λa ha u e=>?_),ru',kk v' (ZhA Cs F F') (ZhA Cs H H') ⟨λb o e=>?_,λb o e=>?_,λb o e=>?_,λb o e=>?_,λt=>?_,λn b o e=>?_⟩ (q'.mono λb o e=>?_)⟩
 ·exact un.keep b o e (none1 b n) hb hx
 ·exact un.slot b o e (none1 b n) hb hx
 ·rw[Zbt (outN n)]; exact un.free b o e (none1 b n) hx
 ·have hb:=out e rfl
  rw[Zbt hb]; exact un.tups b xs (by rw[Zav hb]; exact e)
 ·have hb:=out e rfl
  rw[Zbt hb]; exact un.frzs b o u (by rw[Zav hb]; exact e)
 ·have hb:=outT e
  rw[Zbt hb]; exact un.tbls b ps (by rw[Zav hb]; exact e)
 ·obtain⟨o,q1,_,q3,_⟩:=kc a ha
  rw[q1]at e; cases e;exact⟨o,rfl,q3⟩
 ·by_cases hb:b∈Cs
  ·rw[Zfp hb]; exact e
  ·rw[Zbt hb]; exact x'.ff b o (by rw[Zav hb]; exact e)
 ·by_cases hb:b∈Cs
  ·exact .of (by rw[Zfp hb]; exact e)
  ·exact(x'.hh b o (by rw[Zav hb]; exact e)).cong (Zbt hb)
 ·by_cases hb:b∈Cs
  ·rw[Zfp hb]at e ⊢; exact sub _ _ e
  ·rw[Zbt hb]at e ⊢; exact x'.sub _ _ e
 ·by_cases hb:b∈Cs
  ·rw[Zfp hb]at e; exact .inl e
  ·rw[Zbt hb]at e
   rcases x'.new b o e with q | q
   ·exact .inl (Zio q).2
   ·refine .inr ?_
    unfold Fre at q ⊢;rw[Zav hb]at q;exact q
 ·exact(x'.tab tb1).keep λa o e _=>by rw[Zbt λhb=>by obtain⟨_,_,_,_,q⟩:=kc a hb;rw[e]at q; cases q];exact e
 ·by_cases hb:b∈Cs
  ·rw[Zfp hb]at e; exact n b o e
  ·rw[Zbt hb]at e; exact x'.nts nt1 b o e
 ·rw[Zbt λhb=>by
   obtain⟨_,_,_,_,q⟩:=kc b hb;rw[x'.sub _ _ e]at q; cases q]
  exact e
end
end HP
namespace HP
open PySem PySem.Spec PyProof.Rows L2
variable[FX]
theorem ZrO{a b:Int}{cv:Value}(l:List Value)(h:TriplesOk l):∀(pos:Pos) (c:Value),ZDh pos (l++[rawInt a,rawInt b,cv])=some c->ZDh pos l=some c\/c=cv:=by
 fun_induction TriplesOk l with
 | case1 =>
  intro pos c e;simp only[ZBs,ZDh,rawInt]at e;split at e
  ·cases e; exact .inr rfl
  ·cases e
 | case2 x t y u z rest ih =>
  intro pos c e;simp only[ZDL,ZDh]at e ⊢;split at e
  ·rename_i hq
   rw[if_pos hq];exact .inl e
  ·rename_i hq
   rw[if_neg hq];exact ih h pos c e
 | case3=>exact h.elim
def BMod(base:Heap)(mg:Str->Option Value):Prop:=∃bm o,mg "__builtins__" = some (.ref bm)/\bm≠ZDy/\bm≠Zz7/\base.get? bm=some o/\o.cls=.type "module"/\o.dict=some ZDy/\o.data=.plain
structure Zrv(X:Cx)(t:Nat)(params:Arguments)(body:Expr)(scope:Scope)(names:List Str)(is:List Nat):Prop where
 code:∃c P,X.env.code=.ref c/\ZA7 X.K c P=true/\(P,X.env.qual ++ "<lambda>")∈FX.tl/\∀q,(P,q)∈FX.tl->q=X.env.qual ++ "<lambda>"
 bm:BMod X.base X.mg
 dflt:defaultsOf params X.env=([],[])
 len:is.length=names.length
 at_:∀(j i:Nat) (x:Str),is[j]?=some i->names[j]?=some x->X.N[i]?=some x/\X.env.scope.names.lookup x=some .cell
 cells:∀y∈scope.names,y.2=.free->X.env.scope.names.lookup y.1=some .cell
 free:∀x∈names,(x,ZBJ)∈scope.names
 own:∀x,X.fn x=true
 good:∀F p cs,Clo X.K F p params body scope names cs->FX.fv t cs F p
section
variable{X:Cx}{t:Nat}{params:Arguments}{body:Expr}{scope:Scope}{names:List Str}{is:List Nat}{pos lpos p:Pos}
structure Made(X:Cx)(params:Arguments)(body:Expr)(scope:Scope)(H H':Hp)(q:Addr)(clos:List (Str × Addr)):Prop where
 ex:∃(pm ctv:Value) (c:Addr) (oc:Obj),H' q=some (Zbw q (ZC3 "<lambda>" (X.env.qual ++ "<lambda>") params body scope clos pm c ctv))/\H' c=some (Zbw c oc)/\ZlN oc (X.env.qual ++ "<lambda>")
 hh:ZaG H H'
 tb:Tb H'
theorem Zuj(L:Zrv X t params body scope names is){pins:List (Addr × Obj)}{s:Shared}{σ:L2.St}{H:Hp}(I:Inv X pins σ H s)(tb:Tb H){clos:List (Str × Addr)}(hcl:closureFor scope X.env=pure clos) :
  wpAny (model X.prog X.w) X.A (eval (.Lambda params body scope lpos) X.env) (λu s'=>∃q H',u=.ref q/\Inv X pins σ H' s'/\Made X params body scope H H' q clos) X.xe s:=by
 obtain⟨c,P,hc,hh,hm,hu⟩:=L.code;obtain⟨ps,hP,ht,hg⟩:=tb P _ hm;have gP:s.heap.get? P=some (ZB6 ps):=I.hok P _ hP;have Ns:=I.mod.glob.keeps I.bk;have CH:PySem.W.CodeHd s.heap c P:=ZEm I.kIn hh;obtain⟨bm,ob,b1,b2,b3,b4,b5,b6,b7⟩:=L.bm;have gb:=I.bk _ _ b4;have hbP:bm≠P:=λz=>by rw[z,gP]at gb; cases gb; cases b5
 have hgP:Zz7≠P:=λz=>by obtain⟨o,es,ep,e,hd,_⟩:=Ns;rw[z,gP]at e; cases e; cases hd
 have BA:s.heap.BuiltinsAt X.mg P:=⟨bm,ob,b1,b2,b3,hbP,gb,b5,b6,b7⟩;refine PySem.W.kla_eval L.dflt ?_;cases hq:ZDh lpos ps.toList with
 | some cv =>
  obtain⟨a,oc,rfl,h1,h2⟩:=hg lpos cv hq;refine PySem.W.kla_makeFunctionHit hcl I.ok.glob Ns hc CH gP ht hq BA λctv h' tk hk hz=>?_;generalize hob:ZC3 "<lambda>" (X.env.qual ++ "<lambda>") params body scope clos ((X.mg "__name__").getD .none) a ctv=fo;have hn:H h'.objs.size=none:=I.hok.fresh hz;have hk2:∀b o,s.heap.get? b=some o->(h'.push fo).get? b=some o:=λb o e=>Zzy _ (hk b o e);have gq:(h'.push fo).get? h'.objs.size=some fo:=by rw[<-hob]; exact ZzM _ rfl
  refine⟨h'.objs.size,upd H h'.objs.size (Zbw h'.objs.size fo),rfl,?_,⟨_,ctv,a,oc,by rw[ZH,<-hob],?_,h2⟩,.of (Zk1 hn),tb.same (Zk1 hn)⟩
  ·subst hob
   exact I.laid (t':=tk) hk2 hz (Zj3 gq)
  ·rw[ZD (ZaB h1 hn)]; exact h1
 | none =>
  refine PySem.W.kla_makeFunction hcl I.ok.glob Ns hc CH gP ht hq hgP BA λc' ctv h' tk hx hge hlt hrec htab=>?_;generalize hob:ZC3 "<lambda>" (X.env.qual ++ "<lambda>") params body scope clos ((X.mg "__name__").getD .none) c' ctv=fo;generalize hps:ps++#[rawInt lpos.line,rawInt lpos.col,ZAo c']=ps2 at htab;obtain⟨c2,oc,vs,tq,e2,goc,d1,d2⟩:=hrec;cases e2;have hcn:H c'=none:=I.hok.fresh hge;have hqn:H h'.objs.size=none:=I.hok.fresh (ZAd hge (ZBp hlt));have hcq:c'≠h'.objs.size:=ZzQ hlt;have hcP:c'≠P:=λz=>by rw[z,hP]at hcn; cases hcn
  have hqP:h'.objs.size≠P:=λz=>by rw[z,hP]at hqn; cases hqn
  have gq:(h'.push fo).get? h'.objs.size=some fo:=by rw[<-hob]; exact ZzM _ rfl
  have gc:(h'.push fo).get? c'=some oc:=Zzy _ goc;have gP2:(h'.push fo).get? P=some (ZB6 ps2):=Zzy _ htab;have hk2:∀b o,b≠P->s.heap.get? b=some o->(h'.push fo).get? b=some o:=λb o hb e=>Zzy _ (hx b o hb e);generalize hH':upd (upd (upd H P (.tbl ps2)) c' (Zbw c' oc)) h'.objs.size (Zbw h'.objs.size fo)=H';have aq:H' h'.objs.size=some (Zbw h'.objs.size fo):=by rw[<-hH',ZH]
  have ac:H' c'=some (Zbw c' oc):=by rw[<-hH',ZD hcq,ZH]
  have aP:H' P=some (.tbl ps2):=by rw[<-hH',ZD (ZAx hqP),ZD (ZAx hcP),ZH]
  have ao:∀b,b≠h'.objs.size->b≠c'->b≠P->H' b=H b:=λb n1 n2 n3=>by rw[<-hH',ZD n1,ZD n2,ZD n3]
  have at1:∀b o,H b=some o->b≠P->H' b=some o:=λb o e n=>by rw[ao b (ZaB e hqn) (ZaB e hcn) n]; exact e
  have nP:∀b o,H b=some o->(∀ps,o≠.tbl ps)->b≠P:=λb o e n z=>by rw[z,hP]at e; cases e; exact n _ rfl
  have old:∀b o,s.heap.get? b=some o->b≠h'.objs.size/\b≠c':=λb o e=>by have hb:=ZzJ e;exact⟨ZzQ (ZzW hb (ZAd hge (ZBp hlt))),ZzQ (ZzW hb hge)⟩
  have hokN:HOk X.prog X.w H' (h'.push fo):=λb o e=>by
   by_cases n1:b=h'.objs.size
   ·subst n1; rw[aq]at e; cases e; exact Zj3 gq
   ·by_cases n2:b=c'
    ·subst n2; rw[ac]at e; cases e; exact Zj3 gc
    ·by_cases n3:b=P
     ·subst n3; rw[aP]at e; cases e; exact gP2
     ·rw[ao b n1 n2 n3]at e
      refine(I.hok b o e).stay (λd u hd z=>hk2 d u (λy=>?_) z) (λd z=>at1 d _ z (nP d _ z λ_ y=>by cases y)) λd xs z=>at1 d _ z (nP d _ z λ_ y=>by cases y);rcases hd with y2 | y2
      ·exact n3 (y2▸y)
      ·exact nP d _ y2 (λ_ q=>by cases q) y
  have un:Un X.fs [] H H' s.heap (h'.push fo):=by
   refine⟨λb o e n hb hx=>?_,λb o e n hb hx=>?_,λb o e n hx=>?_,λb o e hx=>?_,λb xs e=>at1 b _ e (nP b _ e λ_ y=>by cases y),λb o u e=>at1 b _ e (nP b _ e λ_ y=>by cases y),λb pp e=>?_⟩
   ·exact hk2 b o (λz=>by rw[z,hP]at n; cases n) e
   ·exact⟨o.slots,hk2 b o (λz=>by rw[z,hP]at n; cases n) e⟩
   ·obtain⟨n1,n2⟩:=old b o e
    rw[ao b n1 n2 (λz=>by rw[z,hP]at n; cases n)]; exact n
   ·by_cases n3:b=P
    ·exact⟨_,by rw[n3]; exact gP2⟩
    ·exact⟨o,hk2 b o n3 e⟩
   ·by_cases n3:b=P
    ·subst n3
     rw[hP]at e; cases e;exact⟨_,by rw[aP,<-hps]⟩
    ·exact⟨#[],by rw[at1 b _ e n3]; simp⟩
  refine⟨h'.objs.size,H',rfl,?_,⟨_,ctv,c',oc,by rw[aq,<-hob],ac,vs,tq,d1,d2⟩,λb o e=>?_,λT q hT=>?_⟩
  ·exact I.un (t':=tk) un hokN
  ·by_cases n3:b=P
   ·subst n3
    rw[hP]at e; cases e;exact⟨_,aP⟩
   ·exact .of (at1 b o e n3)
  ·by_cases n3:T=P
   ·subst n3
    obtain rfl:=hu q hT;refine⟨ps2,aP,?_,λpos' cc hcc=>?_⟩
    ·rw[<-hps,Array.toList_append]
     exact TriplesOk_snoc _ _ _ _ ht
    ·rw[<-hps,Array.toList_append]at hcc
     rcases ZrO _ ht _ _ hcc with e | e
     ·obtain⟨a,o,q1,q2,q3⟩:=hg pos' cc e
      exact⟨a,o,q1,at1 a _ q2 (nP a _ q2 λ_ y=>by cases y),q3⟩
     ·exact⟨c',oc,e,ac,vs,tq,d1,d2⟩
   ·obtain⟨ps',w1,w2,w3⟩:=tb T q hT
    refine⟨ps',at1 T _ w1 n3,w2,λpos' cc hcc=>?_⟩;obtain⟨a,o,q1,q2,q3⟩:=w3 pos' cc hcc;exact⟨a,o,q1,at1 a _ q2 (nP a _ q2 λ_ y=>by cases y),q3⟩
theorem Zoy{r:HM.Env}:∀{is:List Nat} {cs:List PyData},HM.Zlk is r=some cs->cs.length=is.length/\∀(j i:Nat),is[j]?=some i->∃d,cs[j]?=some d/\r[i]?=some (some (.pl d))
 | [],cs,h=>by cases h; exact⟨rfl,λj i e=>by simp at e⟩
 | i::is,cs,h=>by
  unfold HM.Zlk at h;split at h
  ·rename_i d hd
   obtain⟨cs',h1,h2⟩:=Zzs.mp h;subst h2;obtain⟨l,k⟩:=Zoy h1;refine⟨by rw[ZzG,ZzG,l],λj i' e=>?_⟩;cases j with
   | zero=>cases e; exact⟨d,rfl,hd⟩
   | succ j=>exact k j i' e
  ·cases h
def Zfj(F H:Hp):Hp:=λb=>match H b with
 | some (.ext φ)=>some (.ext φ)
 | _=>F b
theorem ZiH{F H:Hp}{a:Addr}{o:Obj}(h:H a=some (Zbw a o)):Zfj F H a=some (Zbw a o):=by unfold Zfj Zbw at *;rw[h]
theorem ZkL{F H:Hp}{b:Addr}{o:HO}(h:Zfj F H b=some o):(H b=some o/\te o=true)\/F b=some o:=by
 unfold Zfj at h;split at h
 ·rename_i φ e
  cases h;exact .inl ⟨e,rfl⟩
 ·exact .inr h
theorem ZvK{F H:Hp}(s:Zs F H){b:Addr}{o:HO}(h:F b=some o):Zfj F H b=some o:=by have h2:=s b o h;unfold Zfj;rw[h2];cases o<;>first | rfl | exact h
theorem Zq2{k:Nat}{x:Str}{M:List PyData->Option PyData}{e:Expr}{fa:HM.EF}(C:Callee X.prog X.w X.K X.mg X.base k x M)(hr:Zal k X.A)(L:Zrv X t params body scope names is)(ha:XE X e fa)(hg:Gl X x:=by rfl)(hdb:(x==("__debug__":Str))=false:=by decide)
  (he:ZzC [e,.Lambda params body scope lpos] X.env=(false,eval e X.env)::ZzC [.Lambda params body scope lpos] X.env:=by rfl) (he2:ZzC [.Lambda params body scope lpos] X.env=[(false,eval (.Lambda params body scope lpos) X.env)]:=by rfl)
  (hpl:(backTo pos (ZzC [.Lambda params body scope lpos] X.env)).any (·.1)=false:=by rfl):XE X (.Call (.Name x p) [e,.Lambda params body scope lpos] [] pos) (HM.Zim M t is fa):=by
 intro r d hd;unfold HM.Zim at hd;split at hd
 case h_2=>cases hd
 rename_i d1 hd1;split at hd
 case h_2=>cases hd
 rename_i cs hcs;split at hd
 case isFalse=>cases hd
 rename_i hnc;split at hd
 case h_2=>cases hd
 rename_i d' hM;split at hd
 case isFalse=>cases hd
 rename_i hnd;cases hd;obtain⟨fa',fd,ps,hl,FN,hm,hk,hb⟩:=C.ex;intro pins s σ H Q I ⟨F0,H0,F,at_,kk⟩;obtain⟨clos,hcl,hc1,hc2⟩:=ZfV (scope:=scope) (env:=X.env) λy hy hf=>I.ok.has _ (.inl (L.cells y hy hf));refine ZBm (Zmh I hg hm ?_ hdb);have lamPE:PE X (.Lambda params body scope lpos) λσ' H' Q'=>Tb H'/\∀q H2,Made X params body scope H' H2 q clos->Q' (.ref q) H2:=λpins' s' σ' H' Q' I' ⟨tb',k'⟩=>thn (Zuj L I' tb' hcl) λu s2 ⟨q,H2,e1,I2,m⟩=>by subst e1; exact⟨.ref q,H2,I2,rfl,k' q H2 m⟩
 refine ZEp (h₀:=X.base) I.ok.mod.kin hk (thn (Zas (ha r d1 hd1) (Zas lamPE ZbV he2) he pos pins s σ H (λvs H2=>∃v1 F1 H1 q,vs=[v1,.ref q]/\Ext F H F1 H1/\Rep X.K F1 d1 v1/\Made X params body scope H1 H2 q clos) I
  ⟨F0,H0,F,at_,λv F1 H1 x1 r1=>⟨at_.tbx x1,λq H2 m=>⟨v,F1,H1,q,rfl,x1,r1,m⟩⟩⟩) λus s2 ⟨vs,H2,I2,rv,v1,F1,H1,q,ev,x1,r1,m⟩=>⟨I2.kIn,?_⟩) he hpl
 subst ev;have at1:=at_.grow x1;have tb1:=at_.tbx x1;have nt1:=at_.ntx x1;generalize hCs:cellsOf clos=Cs;have hCm:∀a,a∈Cs↔∃y,clos.lookup y=some a:=λa=>by rw[<-hCs]; exact Zms
 have hCc:∀a∈Cs,∃y o v,X.env.cells.lookup y=some a/\s2.heap.get? a=some o/\o.data=.cell v/\H2 a=none:=λa ha=>by obtain⟨y,e⟩:=(hCm a).mp ha;have e1:=hc1 y a e;obtain⟨v,o,h1,h2⟩:=I2.cell y a e1;exact⟨y,o,v,e1,h1,h2,I2.freeC y a e1⟩
 generalize hG:(λa:Addr=>(s2.heap.get? a).map (Zbw a))=G;have hGo:∀{a:Addr} {o:Obj},s2.heap.get? a=some o->G a=some (Zbw a o):=λ{a o} e=>by rw[<-hG]; show ZBi _ _=_; rw[e]; rfl
 generalize hH3:ZhA Cs G H2=H3;have h3in:∀{a:Addr},a∈Cs->∃o v,H3 a=some (Zbw a o)/\s2.heap.get? a=some o/\o.data=.cell v:=λ{a} ha=>by obtain⟨y,o,v,_,g1,g2,_⟩:=hCc a ha;exact⟨o,v,by rw[<-hH3,Zfp ha]; exact hGo g1,g1,g2⟩
 have h3out:∀{a:Addr},a ∉ Cs->H3 a=H2 a:=λ{a} ha=>by rw[<-hH3,Zbt ha]
 have s23:Zs H2 H3:=λb o z=>by rw[h3out λhb=>by obtain⟨_,_,_,_,_,_,g⟩:=hCc b hb;rw[g]at z; cases z];exact z
 have cge:∀a∈Cs,X.s₀.heap.objs.size<=a:=λa ha=>by obtain⟨y,_,_,e1,_⟩:=hCc a ha;exact I.ok.cab y a (L.own y) e1
 have hok3:HOk X.prog X.w H3 s2.heap:=by rw[<-hH3];refine HOk.put I2.hok (λa ha=>by obtain⟨_,_,_,_,_,_,g⟩:=hCc a ha; exact g) λa ha u e=>?_;obtain⟨y,o,v,_,g1,g2,_⟩:=hCc a ha;rw[hGo g1]at e; cases e;exact⟨o,rfl,g1⟩
 have E2:=I2.env0;have cfr:∀b∈frs X.stack,b ∉ Cs:=λb hb hc=>by
  obtain⟨y,o,v,e1,g1,g2,_⟩:=hCc b hc;rcases ZzH.mp (I2.stkSub b hb)with z | z
  ·exact I2.cne y b e1 z
  ·obtain⟨_,o',ho',_⟩:=I.ok.funs.mem z
   exact absurd (ZzW (ZzJ ho') (cge b hc)) (ZBh _)
 have E3:Zfn X.prog X.w X.K X.mg X.base X.A X.stack s2 H3:=⟨E2.frames,E2.mod,λb o z=>⟨(E2.bs b o z).1,by rw[h3out λhb=>absurd (ZzW (ZzJ z) (ZAd I.ok.bsz (cge b hb))) (ZBh _)];exact(E2.bs b o z).2⟩,E2.bsz,E2.funs,λb hb=>by rw[h3out (cfr b hb)]; exact E2.frf b hb,hok3,E2.bare⟩;have s12:Zs F1 H2:=λb o z=>m.hh.ntb (x1.sub b o z) (nt1 b o z);have s13:Zs F1 H3:=s12.trans s23;have ff:Zs F1 (Zfj F1 H3):=λb o z=>ZvK s13 z;have s33:Zs (Zfj F1 H3) H3:=λb o z=>by
  rcases ZkL z with⟨w,_⟩ | w
  ·exact w
  ·exact s13 b o w
 have nt3:NoT (Zfj F1 H3):=λb o z=>by
  rcases ZkL z with⟨w1,w2⟩ | w
  ·unfold Zfj at z
   split at z
   ·cases z; rfl
   ·exact nt1 b o z
  ·exact nt1 b o w
 have tb3:Tb H3:=m.tb.same s23;obtain⟨pm,ctv,c,oc,m1,m2,m3⟩:=m.ex;obtain⟨cl1,cl2⟩:=Zoy hcs;have clo:Clo X.K (Zfj F1 H3) q params body scope names cs:=by
  refine⟨_,pm,ctv,c,oc,clos,ZiH (s23 _ _ m1),ZiH (s23 _ _ m2),m3,λy z a g1 g2=>I.ok.inj y z a (hc1 y a g1) (hc1 z a g2),hc2,λy a g=>?_,by rw[cl1,L.len],λj y dj g1 g2=>?_⟩
  ·obtain⟨o,v,w1,w2,w3⟩:=h3in ((hCm a).mpr ⟨y,g⟩)
   exact⟨o,v,ZiH w1,w3⟩
  ·have hj:j<is.length:=by rw[L.len]; exact(ZzF.mp g1).1
   obtain⟨dj',g3,g4⟩:=cl2 j is[j] (ZzD hj);rw[g2]at g3;cases g3;obtain⟨hN,hkind⟩:=L.at_ j is[j] y (ZzD hj) g1;obtain⟨v,w1,w2⟩:=at1.plain g4;obtain⟨mm,_,hloc⟩:=I2.loc;obtain⟨u,ru,lk⟩:=hloc is[j] y v hN w1 (.inr (.inl hkind));have hfr:=hc2 _ (L.free y (ZzU g1)) rfl;obtain⟨a,hal⟩:=ZzZ.mp hfr;rcases lk with⟨k1,_⟩ | ⟨_,a',k1,o,k2,k3⟩
   ·rw[show X.env.kindOf y=some .cell from hkind]at k1; cases k1
   ·rw[hc1 y a hal]at k1
    cases k1;obtain⟨o',v',z1,z2,z3⟩:=h3in ((hCm a).mpr ⟨y,hal⟩);rw[k2]at z2;cases z2;refine⟨a,o,u,v,hal,ZiH z1,k3,ru,Rep.cutF (λb ob z _=>ff b ob z) w2 20 ?_⟩;exact Zzz.mp hnc dj (ZzU g2)
 have fv:=L.good _ _ _ clo;have hlen:=hl _ _ hM;refine ZDz (ZBr (FN.run X.A X.stack s2 H3 ⟨us,[]⟩ us [v1,.ref q] (λv H4=>∃F4,Ext (Zfj F1 H3) H3 F4 H4/\Rep X.K F4 d v) E0 hr E3 (by
  have:=hb s2 us I2.kIn (by rw[Zz8,<-rv.length]; exact hlen)
  rwa [Zz8]at this) rv ⟨Zfj F1 H3,_,d,hlen,s33,tb3,nt3,.cons (r1.mono ff) (.one (.fn fv)),hM,λv F4 H4 x4 q4=>⟨F4,x4,q4⟩⟩) λrs s4 hq=>?_)
 cases rs with
 | error e=>exact ZAm hq
 | ok fl =>
  cases fl with
  | next=>exact ZAm hq
  | brk=>exact ZAm hq
  | cont=>exact ZAm hq
  | ret u =>
   obtain⟨v,H4,os,bare,un,hok4,ru,F4,x4,q4⟩:=hq;have c4:∀{a:Addr},a∈Cs->∃o v,H4 a=some (Zbw a o)/\s2.heap.get? a=some o/\s4.heap.get? a=some o/\o.data=.cell v:=λ{a} ha=>by obtain⟨o,v,w1,w2,w3⟩:=h3in ha;have w4:H4 a=some (Zbw a o):=x4.hh.ntb w1 rfl;exact⟨o,v,w4,w2,ZcC (hok4 a _ w4),w3⟩
   have out4:∀{b:Addr} {o:HO},H2 b=some o->b ∉ Cs:=λ{b o} z hb=>by obtain⟨_,_,_,_,_,_,g⟩:=hCc b hb;rw[g]at z; cases z
   generalize hF5:(λb:Addr=>match F4 b with | some o=>if te o=true then F1 b else some o | none=>none)=F5;have f5:∀{b:Addr} {o:HO},F5 b=some o->(F4 b=some o/\te o=false)\/F1 b=some o:=λ{b o} z=>by
    rw[<-hF5]at z;dsimp only at z;split at z
    ·rename_i o' w
     split at z
     ·exact .inr z
     ·rename_i n
      cases z;exact .inl ⟨w,by simpa using n⟩
    ·cases z
   have f5a:∀{b:Addr} {o:HO},F4 b=some o->te o=false->F5 b=some o:=λ{b o} z n=>by rw[<-hF5]; dsimp only; rw[z]; dsimp only; rw[if_neg (by rw[n]; simp)]
   have f5b:∀{b:Addr} {o:HO},F1 b=some o->F5 b=some o:=λ{b o} z=>by
    have w:=x4.ff b o (ff b o z)
    by_cases n:te o=true
    ·rw[<-hF5]; dsimp only; rw[w]; dsimp only; rw[if_pos n]; exact z
    ·exact f5a w (by simpa using n)
   have sub5:Zs F5 (Zbi Cs H4):=λb o z=>by
    rcases f5 z with⟨w,n⟩ | w
    ·rw[Zav λhb=>by
      obtain⟨_,_,g,_⟩:=c4 hb;rw[x4.sub b o w]at g; cases g; cases n]
     exact x4.sub b o w
    ·rw[Zav (out4 (s12 b o w))]
     exact x4.sub b o (x4.ff b o (ff b o w))
   refine I2.after ⟨v,Zbi Cs H4,os,bare,⟨λb o e n hb hx=>?_,λb o e n hb hx=>?_,λb o e n hx=>?_,un.there,λb xs e=>?_,λb o w e=>?_,λb pp e=>?_⟩,HOk.cut hok4 (λa ha o e=>?_),ru,kk v F5 (Zbi Cs H4) (x1.trans ⟨λb o z=>f5b z,λb o z=>?_,sub5,λb o z=>?_,λtb=>?_,λ_ b o z=>?_⟩) ((Rep.cutF (λb o z n=>f5a z n) q4 20 hnd).up)⟩
   ·by_cases hc:b∈Cs
    ·obtain⟨o',_,_,w2,w3,_⟩:=c4 hc
     rw[e]at w2; cases w2; exact w3
    ·exact un.keep b o e (by rw[h3out hc]; exact n) hb hx
   ·exact un.slot b o e (by rw[h3out (cfr b hb)]; exact n) hb hx
   ·by_cases hc:b∈Cs
    ·exact Zh1 hc
    ·rw[Zav hc]; exact un.free b o e (by rw[h3out hc]; exact n) hx
   ·rw[Zav (out4 e)]; exact un.tups b xs (s23 _ _ e)
   ·rw[Zav (out4 e)]; exact un.frzs b o w (s23 _ _ e)
   ·rw[Zav (out4 e)]; exact un.tbls b pp (s23 _ _ e)
   ·obtain⟨o',_,g,_⟩:=c4 ha
    rw[g]at e; cases e; rfl
   ·-- tracked things stay
    have z2:=m.hh b o z;have key:∀{u:HO},H2 b=some u->Zds (Zbi Cs H4) b u:=λ{u} w=>(x4.hh b u (s23 b u w)).cong (Zav (out4 w));cases o<;>first | exact key z2 | (obtain⟨pp,w⟩:=z2; exact(show ∃ps',_ from key w))
   ·rcases f5 z with⟨w,n⟩ | w
    ·rcases x4.new b o w with y | y
     ·rcases ZkL y with⟨_,y2⟩ | y2
      ·rw[n]at y2; cases y2
      ·exact .inl y2
     ·refine .inr ?_
      have hcb:b ∉ Cs:=λhb=>by
       obtain⟨o',_,g,_⟩:=h3in hb;rcases y with y | ⟨xs,_,y⟩
       ·rw[g]at y; cases y
       ·rw[g]at y; cases y
      rcases y with y | ⟨xs,y1,y2⟩
      ·rw[h3out hcb]at y
       exact .inl (m.hh.free y)
      ·rw[h3out hcb]at y2
       cases w1:H1 b with
       | none=>exact .inl w1
       | some u =>
        have:=m.hh.back w1 y2 λ_ q=>by cases q
        subst this;exact .inr ⟨xs,y1,w1⟩
    ·exact .inl w
   ·refine(x4.tab tb3).cut hok4 λa ha=>?_
    obtain⟨o,v',g1,_,_,g4⟩:=c4 ha;exact⟨o,v',g1,g4⟩
   ·rcases f5 z with⟨w,_⟩ | w
    ·exact x4.nts nt3 b o w
    ·exact nt1 b o w
end
end HP
namespace HP
open PySem PySem.Spec PyProof.Rows L2
structure Zrn(K:Zzp)(x qual:Str)(st:Stmt)(f:Addr)(fd:FuncData)(c:Addr):Prop where
 ex:∃(oc:Value) (od:Option Addr) (kV doc pm:Value) (an:Option Addr) (ct:Value) (osl:Array (Option Value)),
  fd=ZAN x qual (Zcs st) (Za1 st) (Zf st) .none kV doc pm an (.ref c) ct/\K.lookup f=some ⟨oc,od,.func fd,osl⟩/\ZBA K (.ref c) qual=true
 kp:ZAU K (.ref f)=true
theorem Zwj{K:Zzp}{x qual:Str}{st:Stmt}{f c:Addr}{oc:Value}{od an:Option Addr}{osl:Array (Option Value)}{kV doc pm ct:Value}(l:K.lookup f=some ⟨oc,od,.func (ZAN x qual (Zcs st) (Za1 st) (Zf st) .none kV doc pm an (.ref c) ct),osl⟩)
  (h:ZBA K (.ref c) qual=true) (k:ZAU K (.ref f)=true):Zrn K x qual st f (ZAN x qual (Zcs st) (Za1 st) (Zf st) .none kV doc pm an (.ref c) ct) c:=⟨⟨oc,od,kV,doc,pm,an,ct,osl,rfl,l,h⟩,k⟩
section
variable[FX]
theorem Zrj{P:Program}{w:World}{K:Zzp}{mg:Str->Option Value}{base:Heap}{k:Nat}{x qual:Str}{st:Stmt}{f c:Addr}{fd:FuncData}{N ps:List Str}{g:HM.SF}(Fn:Zrn K x qual st f fd c)(S:Zx N ps (Zf st))(hm:mg x=some (.ref f))(hb:Binds K fd ps [])
  (body:∀(A:Around) (outer:List Env) (s:Shared) (H:Hp) (E:XK),Zal k (A.deeper (envOfC qual (Zf st) s.heap.objs.size f (.ref c)))->XSs (ZgM CX0 P w K mg base N qual (Zf st) f (.ref c) A outer s H E).nox (Za1 st) g) :
  Callee P w K mg base (k+1) x (HM.fnOf ps.length N.length g):=by
 have hpl:ps.length<=N.length:=by have:=congrArg ZAi S.pre; rw[ZA3]at this; omega
 refine⟨f,fd,ps,λds d h=>?_,?_,hm,Fn.kp,hb⟩
 ·unfold HM.fnOf at h
  split at h
  ·assumption
  ·cases h
 ·obtain⟨oc,od,kV,doc,pm,an,ct,osl,rfl,lk,hcd⟩:=Fn.ex
  refine Zvg lk hcd S (λvs H Q E h=>by obtain⟨_,_,_,h,_⟩:=h; exact h) λA outer s H vs Q E hr h=>?_;obtain⟨F,ds,d,hl,sub,tb,nt,q,hM,kk⟩:=h;unfold HM.fnOf at hM;split at hM
  ·rename_i hds
   have a0:=ZgX (N:=N) sub tb nt q (by omega);split at hM
   ·rename_i r hr'
    cases hM;exact⟨_,(body A outer s H E hr _ _ hr').nox,F,H,F,a0,λσ F' H' a'=>kk .non F' H' a'.ext .non⟩
   ·rename_i d' hr'
    cases hM;exact⟨_,(body A outer s H E hr _ _ hr').nox,F,H,F,a0,λv F' H' x q=>kk v F' H' x q⟩
   ·cases hM
  ·cases hM
def Zr3(N:List Str)(sc scope:Scope)(names:List Str)(is:List Nat):Bool :=
 decide (is.length=names.length)&&(is.zip names).all (λq=>decide (N[q.1]?=some q.2)&&decide (sc.names.lookup q.2=some .cell))&&scope.names.all (λy=>decide (y.2≠.free)||decide (sc.names.lookup y.1=some .cell))&&names.all λx=>decide ((x,ZBJ)∈scope.names)
theorem Zt6{X:Cx}{t:Nat}{params:Arguments}{body:Expr}{scope sc:Scope}{names N:List Str}{is:List Nat}{c T:Addr}{q:Str}(ck:Zr3 N sc scope names is=true)(h1:ZA7 X.K c T=true)(h2:(T,q)∈FX.tl)(h3:∀q',(T,q')∈FX.tl->q'=q)(bm:BMod X.base X.mg)
  (good:∀F p cs,Clo X.K F p params body scope names cs->FX.fv t cs F p) (hN:X.N=N:=by rfl) (hs:X.env.scope=sc:=by rfl) (hc:X.env.code=.ref c:=by rfl) (hq:X.env.qual ++ "<lambda>" = q:=by rfl) (hd:defaultsOf params X.env=([],[]):=by rfl) (ho:∀x,X.fn x=true:=by exact λ_=>rfl) :
  Zrv X t params body scope names is:=by
 unfold Zr3 at ck;rw[ZzK,ZzK,ZzK]at ck;obtain⟨⟨⟨k1,k2⟩,k3⟩,k4⟩:=ck;refine⟨⟨c,T,hc,h1,by rw[hq]; exact h2,λq' z=>by rw[hq]; exact h3 q' z⟩,bm,hd,of_decide_eq_true k1,λj i x e1 e2=>?_,λy hy hf=>?_,λx hx=>?_,ho,good⟩
 ·have:(i,x)∈is.zip names:=ZzU (i:=j) (by rw[List.getElem?_zip_eq_some]; exact⟨e1,e2⟩)
  have:=Zzz.mp k2 _ this;rw[ZzK]at this;rw[hN,hs];exact⟨of_decide_eq_true this.1,of_decide_eq_true this.2⟩
 ·have:=Zzz.mp k3 y hy
  rw[ZA2]at this;rw[hs];rcases this with z | z
  ·exact absurd hf (of_decide_eq_true z)
  ·exact of_decide_eq_true z
 ·exact of_decide_eq_true (Zzz.mp k4 x hx)
theorem ZqP{P:Program}{w:World}{K:Zzp}{mg:Str->Option Value}{base:Heap}{x qual:Str}{st:Stmt}{f a:Addr}{fd:FuncData}(Fn:Fun K x qual st f fd)(hm:mg x=some (.ref f))(ha:mg x=some (.ref a)){A:Around}{outer:List Env}{s:Shared}{H:Hp}(e0:Zfn P w K mg base A outer s H):ZEr a s.heap:=by rw[hm]at ha;cases ha;obtain⟨oc,od,kV,doc,pm,an,cdv,ct,osl,rfl,lk,hcd⟩:=Fn.ex;have KX:K.In s.heap:=e0.mod.kin.keeps λb o e=>(e0.bs b o e).1;exact⟨_,_,_,_,KX _ _ lk⟩
theorem Zov{P:Program}{w:World}{K:Zzp}{mg:Str->Option Value}{base:Heap}{k:Nat}{x:Str}{M:List PyData->Option PyData}{a:Addr}(C:Callee P w K mg base k x M)(ha:mg x=some (.ref a)){A:Around}{outer:List Env}{s:Shared}{F H:Hp}(e0:Zfn P w K mg base A outer s H)(sub:Zs F H)
  {us:List Value} {vs:List V} {ds:List PyData} {d:PyData} {Q:VK} (hr:Zal k A) (tb:Tb H) (nt:NoT F) (rv:Vals vs us) (rs:Zy K F ds vs) (hM:M ds=some d) (kk:∀v F' H',Ext F H F' H'->Rep K F' d v->Q v H') :
  codeAny (model P w) A (.call (.ref a) ⟨us,[]⟩) (CR CX0 outer P w H s Q E0) s:=by
 obtain⟨f,fd,ps,hl,FN,hm,hk,hb⟩:=C.ex;rw[hm]at ha;cases ha;have KX:K.In s.heap:=e0.mod.kin.keeps λb o e=>(e0.bs b o e).1;have hlen:vs.length=ps.length:=by rw[<-rs.1]; exact hl _ _ hM
 refine FN.run A outer s H ⟨us,[]⟩ us vs Q E0 hr e0 ?_ rv ⟨F,ds,d,hlen,sub,tb,nt,rs,hM,kk⟩;have:=hb s us KX (by rw[Zz8,<-rv.length]; exact hlen)
 rwa [Zz8]at this
end
def Znp(tabs:List Addr)(H:Hp):Prop:=(∀b,H b=none\/(∃o xs,H b=some (.frz o (.lst xs)))\/H b=some (.tbl #[]))/\∀T∈tabs,H T=some (.tbl #[])
theorem ZtG{P:Program}{w:World}{K:Zzp}{mg mb:Str->Option Value}{k:Nat}{fa a:Addr}{fd:FuncData}{x:Str}{sp:Sp}{s₁:Shared}{vs:List Value}{ns:List Int}{tabs:List (Addr × Addr)}
  (hT:∀q∈tabs,ZA7 K q.1 q.2=true/\K.lookup q.2=none/\s₁.heap.get? q.2=some (ZB6 #[]))
  (KX:K.In s₁.heap) (hns:s₁.heap.Ns Zz7 mg) (hb:s₁.heap.Ns ZDy mb) (hbb:∀x:Str,x ≠ "__name__"->mb x=ZAt x) (hlim:s₁.heap.NoLimit) (hg:s₁.gens=#[])
  (ha:s₁.heap.get? a=some { cls:=.type "list",data:=.seq vs.toArray }) (hi:IntsAre vs ns) (hl:ns.length<=sizeLine) (hr:Zal k callerA)
  (hbm:PyProof.Rows.BMain s₁.heap mg) (F:∀base:Heap,K.In base->base.Ns Zz7 mg->BMod base mg->ZdK P w K mg base CX0 k fa fd [x] sp) (hbind:∀(s:Shared) (u:Value),BindsTo s fd ⟨[u],[]⟩ [(x,u)])
  (hsp:∀H:Hp,Znp (tabs.map (·.2)) H->SqL K H a (ns.map V.int)->sp [.ref a] H (λv _=>v=.bl true) λ_ _ _=>False) :
  codeAny (model P w) callerA (.call (.ref fa) ⟨[.ref a],[]⟩) (λr s'=>r=.ok (.ret (.bool true))/\OldK s₁.heap s'.heap/\s'.os=s₁.os/\AllBare s'.gens) s₁:=by
 have rv:=Zmw hi;have lenV:=hi.length;have tne:∀q∈tabs,q.2≠a:=λq hq z=>by have:=(hT q hq).2.2;rw[z,ha]at this; cases this
 have core:∀oS:Option HO,(oS=none\/∃o xs,oS=some (.frz o (.lst xs)))->(∀H:Hp,H a=oS->SqL K H a (ns.map V.int))->(∀H:Hp,∀u,oS=some u->Zah P w H s₁.heap a u)->(oS≠none->K.lookup a=none) ->
   codeAny (model P w) callerA (.call (.ref fa) ⟨[.ref a],[]⟩) (λr s'=>r=.ok (.ret (.bool true))/\OldK s₁.heap s'.heap/\s'.os=s₁.os/\AllBare s'.gens) s₁:=by
  intro oS hO hS hok0 hK;generalize hH:(λb:Addr=>if b=a then oS else if b∈tabs.map (·.2)then some (HO.tbl #[])else none)=H;have Ha:H a=oS:=by rw[<-hH]; exact if_pos rfl
  have Ht:∀T∈tabs.map (·.2),H T=some (.tbl #[]):=λT hT'=>by obtain⟨q,hq,e⟩:=Zzx.mp hT';rw[<-hH];show(if T=a then oS else if T∈tabs.map (·.2)then some (HO.tbl #[])else none)=_;rw[if_neg (by rw[<-e]; exact tne q hq),if_pos hT']
  have Hc:∀b u,H b=some u->(b=a/\oS=some u)\/(b∈tabs.map (·.2)/\u=.tbl #[]):=λb u e=>by
   rw[<-hH]at e;dsimp only at e;split at e
   ·rename_i h; exact .inl ⟨h,e⟩
   ·split at e
    ·rename_i h; cases e; exact .inr ⟨h,rfl⟩
    ·cases e
  have tget:∀T∈tabs.map (·.2),s₁.heap.get? T=some (ZB6 #[])/\K.lookup T=none/\∃c,ZA7 K c T=true:=λT hT'=>by obtain⟨q,hq,e⟩:=Zzx.mp hT';subst e;exact⟨(hT q hq).2.2,(hT q hq).2.1,q.1,(hT q hq).1⟩
  have hok:HOk P w H s₁.heap:=λb u e=>by
   rcases Hc b u e with⟨rfl,e'⟩ | ⟨h,rfl⟩
   ·exact hok0 H u e'
   ·exact(tget b h).1
  have base_of:∀{b:Addr} {o:Obj},s₁.heap.get? b=some o->H b=none->(ZhG s₁.heap H).get? b=some o:=λe n=>Zud e n;have noA:∀{b:Addr} {o:Obj} {es:Array DictEntry} {ep:Nat},s₁.heap.get? b=some o->o.data=.dict es ep->H b=none:=λ{b o es ep} e d=>by
   cases q:H b with
   | none=>rfl
   | some u =>
    rcases Hc b u q with⟨rfl,_⟩ | ⟨h,_⟩
    ·rw[ha]at e; cases e
     have d':Data.seq vs.toArray _=Data.dict es ep:=d;cases d'
    ·rw[(tget b h).1]at e; cases e; cases d
  have nsK:∀{b:Addr} {m:Str->Option Value},s₁.heap.Ns b m->(ZhG s₁.heap H).Ns b m:=λ{b m} ⟨o,es,ep,e,d,r⟩=>⟨o,es,ep,base_of e (noA e d),d,r⟩;have hKb:K.In (ZhG s₁.heap H):=λb o e=>base_of (KX b o e) (by
   cases q:H b with
   | none=>rfl
   | some u =>
    rcases Hc b u q with⟨rfl,e'⟩ | ⟨h,_⟩
    ·rw[hK (by rw[e']; simp)]at e; cases e
    ·rw[(tget b h).2.1]at e; cases e)
  have hM:Mod K mg (ZhG s₁.heap H):=⟨hKb,nsK hns,⟨mb,nsK hb,hbb⟩,let ⟨mc,h1,h2⟩:=hlim; ⟨mc,nsK h1,h2⟩⟩;have e0:Zfn P w K mg (ZhG s₁.heap H) callerA [] s₁ H:=⟨rfl,hM,λb o e=>ZvH e,ZC0 (ZsA _ _),trivial,λb hb=>absurd (show b∈([]:List Addr) from hb) (by simp),hok,.of_eq hg⟩;have hOT:Znp (tabs.map (·.2)) H:=⟨λb=>by
   cases q:H b with
   | none=>exact .inl rfl
   | some u =>
    rcases Hc b u q with⟨_,e'⟩ | ⟨_,rfl⟩
    ·rcases hO with z | ⟨o,xs,z⟩
     ·rw[z]at e'; cases e'
     ·rw[z]at e'; cases e'; exact .inr (.inl ⟨o,xs,rfl⟩)
    ·exact .inr (.inr rfl),Ht⟩
  have hBM:BMod (ZhG s₁.heap H) mg:=by
   obtain⟨bm,ob,b1,b2,b3,b4,b5,b6⟩:=hbm;refine⟨bm,ob,b1,b2,λz=>?_,base_of b3 ?_,b4,b5,b6⟩
   ·obtain⟨o,es,ep,e,d,_⟩:=hns
    rw[z,e]at b3; cases b3; rw[b6]at d; cases d
   ·cases q:H bm with
    | none=>rfl
    | some u =>
     rcases Hc bm u q with⟨z,_⟩ | ⟨h,_⟩
     ·rw[z,ha]at b3; cases b3; exact absurd (show(ZCo "list":Value)=.type "module" from b4) (by decide)
     ·rw[(tget bm h).1]at b3; cases b3; cases b4
  refine ZBr ((F _ hKb (nsK hns) hBM).run callerA [] s₁ H ⟨[.ref a],[]⟩ [.ref a] [.ref a] _ _ hr e0 (hbind s₁ (.ref a)) (.cons rfl .nil) (hsp H hOT (hS H Ha))) λr s' h=>?_;cases r with
  | error e=>exact ZAm h
  | ok fl =>
   cases fl with
   | next=>exact ZAm h
   | brk=>exact ZAm h
   | cont=>exact ZAm h
   | ret u =>
    obtain⟨v,H',os,bare,un,hok',r',q⟩:=h;have q':v=.bl true:=q;subst q';obtain rfl:u=Value.bool true:=r';refine⟨rfl,⟨λb o e=>?_,λb o e=>un.there b o e (by simp)⟩,os,bare⟩;cases q:H b with
    | none=>exact .inl (un.keep b o e q (by intro z; exact absurd (show b∈([]:List Addr) from z) (by simp)) (by simp))
    | some u =>
     rcases Hc b u q with⟨rfl,e'⟩ | ⟨h,rfl⟩
     ·rcases hO with z | ⟨ob,xs,z⟩
      ·rw[z]at e'; cases e'
      ·rw[z]at e'; cases e'
       have z2:=un.frzs _ ob _ q;obtain⟨e1,_⟩:=hok _ _ q;obtain⟨e2,_⟩:=hok' _ _ z2;rw[e]at e1; cases e1;exact .inl e2
     ·obtain⟨g1,_,c,g3⟩:=tget b h
      rw[g1]at e; cases e;obtain⟨more,z2⟩:=un.tbls b _ q;have z3:s'.heap.get? b=some { cls:=.none,data:=.fields (#[]++more) }:=hok' b _ z2;refine .inr (.inl ⟨((ZEm KX g3).tab g1).isCodeTable,rfl,#[],more,rfl,z3⟩)
 cases hk:K.lookup a with
 | some o=>have e:=KX a o hk;rw[ha]at e;cases e;exact core none (.inl rfl) (λH _=>.inr ⟨_,vs.toArray,_,hk,rfl,rfl,rfl,by rw[ZzN,lenV]; exact hl,by simpa using rv⟩) (λH u z=>by cases z) λz=>absurd rfl z
 | none=>refine core (some (.frz { cls:=.type "list",data:=.seq vs.toArray } (.lst (ns.map V.int)))) (.inr ⟨_,_,rfl⟩) (λH e=>.inl (.inr ⟨_,e⟩)) (λH u z=>?_) λ_=>hk;cases z;exact⟨ha,by rw[Zzr]; exact hl,vs,_,rv,ha⟩
theorem Zu5{l:ZDZ}{n k:Nat}{q:Program}{loose:List Str}{XP:(Str->Option Value)->Heap->Prop}{YP:World->Heap->Prop}{d:DefRec}{K:Params->Zzp}{sp:World->Sp}{x:Str}{tabs:List (Addr × Addr)}
  (hn:l.most=some n) (hn2:n<=sizeLine) (hdf:d.params.defaults=[]) (hr:Zal k callerA)
  (hY:∀(w:World) (h:Heap),YP w h->(K w.params).In h) (hYT:∀(w:World) (h:Heap),YP w h->∀q∈tabs,h.get? q.2=some (ZB6 #[]))
  (hT:∀(w:World),∀q∈tabs,ZA7 (K w.params) q.1 q.2=true/\(K w.params).lookup q.2=none)
  (F:∀(w:World) (mg:Str->Option Value) (fa:Addr) (h:Heap),(K w.params).In h->h.Ns Zz7 mg->mg d.name=some (.ref fa) ->
   ∃fd:FuncData,(∀(s:Shared) (u:Value),BindsTo s fd ⟨[u],[]⟩ [(x,u)]) /\
    ∀base:Heap,(K w.params).In base->base.Ns Zz7 mg->BMod base mg->ZdK l.prog w (K w.params) mg base CX0 k fa fd [x] (sp w))
  (hsp:∀(w:World) (H:Hp) (a:Addr) (ns:List Int),ns.length<=n->Znp (tabs.map (·.2)) H->SqL (K w.params) H a (ns.map V.int)->sp w [.ref a] H (λv _=>v=.bl true) λ_ _ _=>False) :
  PySem.W.WalkO q loose XP YP l.row.toRowW d [] (λf vs=>PySem.call f vs):=by
 refine Att.Zqg hn hdf λw s₀ s₁ mg mb fa o pm cd doc a vs ns G Y ho hd hcd hmg hobj hints hlen hg=>?_;have KX:=hY w _ Y;obtain⟨fd,hb,hF⟩:=F w mg fa _ KX G.T.g hmg;exact ZtG (λq hq=>⟨(hT w q hq).1,(hT w q hq).2,hYT w _ Y q hq⟩) KX G.T.g G.T.b G.T.builtins G.T.nolimit hg hobj hints (ZAd hlen hn2) hr G.T.bmain hF hb λH hO hS=>hsp w H a ns hlen hO hS
end HP
namespace HP
open PySem PySem.Spec PyProof.Rows L2
def Zyc:Stmt->Option (Arguments × Expr × Scope)
 | .Return (some (.Call _ [_,.Lambda a b s _] _ _)) _=>some (a,b,s)
 | .Assign _ (.Call _ [_,.Lambda a b s _] _ _) _=>some (a,b,s)
 | _=>none
def Zl0(st:Stmt):Arguments × Expr × Scope:=((Za1 st).findSome? Zyc).getD default
abbrev Zw2(st:Stmt):Arguments:=(Zl0 st).1
abbrev ZtZ(st:Stmt):Expr:=(Zl0 st).2.1
abbrev Zmc(st:Stmt):Scope:=(Zl0 st).2.2
theorem Zxk{P:Program}{w:World}{K:Zzp}{mg:Str->Option Value}{base:Heap}{A:Around}{outer:List Env}{s:Shared}{F H:Hp}{p:Addr}{params:Arguments}{body:Expr}{scope:Scope}{names:List Str}{cs:List PyData}
  (C:Clo K F p params body scope names cs) (e0:Zfn P w K mg base A outer s H) (sub:Zs F H):ZEr p s.heap:=by
 obtain⟨qual,pm,ctv,c,oc,clos,h1,_⟩:=C.ex;exact⟨_,_,_,_,ZcC (e0.hok p _ (sub _ _ h1))⟩
section
variable[FX]
theorem ZwC{K:Zzp}{M:List PyData->Option PyData}{H:Hp}{a:Addr}{ns:List Int}{tabs:List Addr}(hO:Znp tabs H)(ht:∀T q,(T,q)∈FX.tl->T∈tabs)(hS:SqL K H a (ns.map V.int))(hM:M [.list (HM.ofInts ns)]=some (.bool true)) :
  spD K 1 M [.ref a] H (λv _=>v=.bl true) λ_ _ _=>False:=by
 refine⟨Zcj H,[.list (HM.ofInts ns)],.bool true,rfl,Zex,λT q hT=>⟨#[],hO.2 T (ht T q hT),trivial,λpos c hc=>by cases hc⟩,.drop,.one (Rep.drop (.lst hS (ZfK (K:=K) (F:=H) ns).1 (ZfK ns).2)),hM,λv F1 H1 _ r=>r.bool_inv⟩
end
end HP
namespace HP
open PySem PySem.Spec PyProof.Rows L2
variable[FX]
end HP
namespace HP
open PySem PySem.Spec PyProof.Rows L2
variable[FX]
section
variable{X:Cx}{a b c e:Expr}{fa fb fc:HM.EF}{f:HM.AF}{pos p:Pos}{es:List Expr}
theorem Zry{F H:Hp}(s:Zs F H):Zs (Zcj F) (Zcj H):=NoT.drop.sub (λb o e=>s b o (Zex b o e))
theorem Zsl{k:Nat}{ap:HM.AP}(C:Zc3 X.prog X.w X.K X.mg X.base k ap)(hr:Zal k X.A)(i:Nat){x:Str}(ha:XAL X (e::es) f)(hN:X.N[i]?=some x:=by rfl)
  (hv:Vis X.env.scope x:=by first | exact ZAe rfl | exact ZzY (ZAe rfl) | exact ZzY (ZzY rfl)) (hd:(x==("__debug__":Str))=false:=by decide) (hcd:(x==("__classdict__":Str))=false:=by decide)
  (he:ZzC (e::es) X.env=(false,eval e X.env)::ZzC es X.env:=by rfl) (hpl:(backTo pos (ZzC es X.env)).any (·.1)=false:=by rfl):XE X (.Call (.Name x p) (e::es) [] pos) (HM.Zgh ap i f):=by
 intro r d h;unfold HM.Zgh at h;split at h
 case h_2=>cases h
 rename_i d0 hs;split at h
 case h_2=>cases h
 rename_i t cs hu;split at h
 case h_2=>cases h
 rename_i ds hds;split at h
 case h_2=>cases h
 rename_i z hz;split at h
 case isFalse=>cases h
 rename_i ht;cases h;obtain rfl:=Zo5 hu;intro pins s σ H Q I ⟨F0,H0,F1,at_,kk⟩;obtain⟨v,h1,h2⟩:=at_.plain hs;obtain⟨q,rfl,fv⟩:=h2.fn_inv;refine ZBm (thn (ZbU hN hv hd hcd pins s σ H (λv' H'=>v'=.ref q/\H'=H) I ⟨_,h1,rfl,rfl⟩) λu s1 ⟨v',H1,I1,r1,e1,e2⟩=>?_);subst e1 e2;obtain rfl:u=ZAo q:=r1;refine ZEs (C.fn fv I1.env0 at_.sub) (thn (ha.pa r ds hds pos pins s1 σ H1 (λvs H2=>∃F2,Ext F1 H1 F2 H2/\Zy X.K H2 ds vs) I1 ⟨F0,H0,F1,at_,λvs F2 H2 x2 q2=>⟨F2,x2,q2⟩⟩) λus s2 ⟨vs,H2,I2,r2,F2,x2,q2⟩=>?_) he hpl;have fv2:=FX.mono (FX.drop (FX.mono fv x2.ff)) (Zry x2.sub);refine⟨C.fn fv2 I2.env0 Zex,ZDz (ZBr (C.run fv2 I2.env0 Zex hr (at_.tbx x2) .drop r2 q2.drop' hz λv F' H' x3 q3=>kk v (Zcl F2 H') H' (x2.trans (Ext.forget x2.sub (at_.ntx x2) x3).tups) (Zsz x3.sub 400 ht q3)) λrs s' hq=>?_)⟩;cases rs with
 | error e=>exact ZAm hq
 | ok fl =>
  cases fl with
  | ret u=>exact I2.after hq
  | next=>exact ZAm hq
  | brk=>exact ZAm hq
  | cont=>exact ZAm hq
end
end HP
namespace HM
open PySem
theorem ZbY{α:Type}{c:TF}{e:EF}{r:Env}(g:α->D)(p:α->Bool)(f:α->D):∀(xs:List α),(∀x∈xs,c (some (.pl (g x))::r)=some (p x))->(∀x∈xs,p x=true->e (some (.pl (g x))::r)=some (f x))->ZaJ c e r (xs.map g)=some ((xs.filter p).map f)
 | [],_,_=>rfl
 | x::xs,h1,h2=>by
  have ih:=ZbY g p f xs (λy hy=>h1 y (Zzu _ hy)) (λy hy=>h2 y (Zzu _ hy));have hc:=h1 x (Zzt ..);rw[Zzw];unfold ZaJ;rw[hc];cases hp:p x with
  | true=>have he:=h2 x (Zzt ..) hp;dsimp only;rw[he];dsimp only;rw[ih,ZDQ hp];rfl
  | false=>dsimp only;rw[ih,ZDR (by simp[hp])]
theorem Zbj{α:Type}{e:EF}{r:Env}(g:α->D)(f:α->D)(xs:List α)(h:∀x∈xs,e (some (.pl (g x))::r)=some (f x)):ZaJ ZZ e r (xs.map g)=some (xs.map f):=by rw[ZbY g (λ_=>true) f xs (λ_ _=>rfl) λx hx _=>h x hx,ZBe.mpr λ_ _=>rfl]
theorem Zj2{α:Type}{i:Nat}{body:SF}(g:α->D)(P:List α->Env->Prop)(xs:List α)(r:Env)(h0:P [] r)
  (hs:∀pre x post r,xs=pre++x::post->P pre r->∃r',body (r.set i (some (.pl (g x))))=some (.nx r')/\P (pre++[x]) r'):∃r',Z7 i body (xs.map g) r=some (.nx r')/\P xs r':=by
 have key:∀(post pre:List α) (r:Env),xs=pre++post->P pre r->∃r',Z7 i body (post.map g) r=some (.nx r')/\P xs r':=by
  intro post
  induction post with
  | nil=>intro pre r e h; rw[Zz8]at e; subst e; exact⟨r,rfl,h⟩
  | cons x post ih=>intro pre r e h;obtain⟨r1,h1,h2⟩:=hs pre x post r e h;obtain⟨r2,h3,h4⟩:=ih (pre++[x]) r1 (by rw[e,ZAM]; rfl) h2;refine⟨r2,?_,h4⟩;rw[Zzw];unfold Z7;rw[h1];exact h3
 exact key xs [] r rfl h0
def ZxN{α S:Type}(q:S->α->Bool)(step:S->α->S):S->List α->Bool
 | _,[]=>true
 | s,x::xs=>q s x&&ZxN q step (step s x) xs
abbrev dI(i:Int):D:=Zz6 i
abbrev dN(k:Nat):D:=Zz6 (k:Int)
theorem Zgg(ns:List Int):ofInts ns=ns.map dI:=rfl
theorem Zaa(n:Nat):Zb4 0 n=(ZzA n).map dN:=by unfold Zb4;refine ZAJ λk _=>?_;show Zz6 (0+(k:Int))=Zz6 (k:Int);rw[Int.zero_add]
theorem ZbX(ns:List Int):ZaP (ns.map dI)=some ns:=by
 induction ns with
 | nil=>rfl
 | cons n ns ih=>show(ZaP (ns.map dI)).map (n::·)=_; rw[ih]; rfl
theorem Zf8(bs:List Bool):ZfJ (bs.map λb=>ZAX b)=some bs:=by
 induction bs with
 | nil=>rfl
 | cons b bs ih=>show(ZfJ (bs.map λb=>ZAX b)).map (b::·)=_; rw[ih]; rfl
abbrev tupI(ns:List Int):D:=Zz1 (ns.map dI)
theorem ZcX{ds:List D}{j:Nat}{d:D}(h:ds[j]?=some d):atD ds (j:Int)=some d:=by have hj:j<ds.length:=(ZzF.mp h).1;unfold atD ixN;rw[if_pos (by omega),if_pos (by omega)];simpa using h
theorem Zj5{ds:List D}{i:Int}{d:D}(h0:0<=i)(h:ds[i.toNat]?=some d):atD ds i=some d:=by
 have e:i=((i.toNat:Nat):Int):=by omega
 rw[e]; exact ZcX (by simpa using h)
@[simp] theorem Zzl(d:D)(r:List D):atD (d::r) 0=some d:=ZcX (j:=0) rfl
@[simp] theorem Zzm(a d:D)(r:List D):atD (a::d::r) 1=some d:=ZcX (j:=1) rfl
@[simp] theorem Zzn(a b d:D)(r:List D):atD (a::b::d::r) 2=some d:=ZcX (j:=2) rfl
@[simp] theorem Zzj(a b c d:D)(r:List D):atD (a::b::c::d::r) 3=some d:=ZcX (j:=3) rfl
@[simp] theorem Zzk(a b c e d:D)(r:List D):atD (a::b::c::e::d::r) 4=some d:=ZcX (j:=4) rfl
theorem ZyZ(i j:Int)(h:(Z6 i||Z6 j)=true):Zdp (.int i) (.int j)=some (.int (i*j)):=by show(if Z6 i||Z6 j then some (Zz6 (i*j))else none)=_;rw[if_pos h]
@[simp] theorem Zy8:Z6 7=true:=rfl
@[simp] theorem ZyH:Z6 11=true:=rfl
@[simp] theorem ZyB:Z6 13=true:=rfl
@[simp] theorem ZyA:Z6 17=true:=rfl
@[simp] theorem ZyD:Z6 19=true:=rfl
@[simp] theorem Zys:Z6 23=true:=rfl
@[simp] theorem Zyx:Z6 29=true:=rfl
@[simp] theorem Zyy:Z6 31=true:=rfl
@[simp] theorem Zyv:Z6 37=true:=rfl
@[simp] theorem ZyC:Z6 41=true:=rfl
@[simp] theorem ZyG:Z6 43=true:=rfl
@[simp] theorem Zyw:Z6 47=true:=rfl
@[simp] theorem Zyr:Z6 53=true:=rfl
@[simp] theorem ZyE:Z6 59=true:=rfl
@[simp] theorem Zyu:Z6 61=true:=rfl
@[simp] theorem Zyz:Z6 67=true:=rfl
@[simp] theorem Zyt:Z6 71=true:=rfl
@[simp] theorem ZyF:Z6 73=true:=rfl
@[simp] theorem Zxv:Z6 48271=true:=rfl
@[simp] theorem Zy6:Z6 2=true:=rfl
@[simp] theorem ZyJ:Z6 3=true:=rfl
@[simp] theorem Zze:Z6 5=true:=rfl
theorem ZjJ{i:Int}(h1:-1000000000<i)(h2:i<1000000000):Z6 i=true:=by
 unfold Z6;have:i.natAbs<18446744073709551616:=by omega
 exact ZCs.mpr this
theorem ZcZ{n:Nat}(h:n<1000000):okR (n:Int)=true:=ZCs.mpr (by omega)
@[simp] theorem Zyf(i:Int):Zag (.int i)=true:=rfl
@[simp] theorem ZxW(i:Bool):Zag (.bool i)=true:=rfl
@[simp] theorem ZxV:Zag .none=true:=rfl
@[simp] theorem Zzg(i j:Int):ZAr (.int i) (.int j)=(i==j):=rfl
structure Wk where
 many:Nat
 deeds:List (List (List Int))
 looks:List (List Int)
 beg:List Int
 goal:List Int
def ZR(dd:List (List Int)):D:=.tuple (dd.map tupI)
def Wk.d(w:Wk):D:=.tuple [.int w.many,.tuple (w.deeds.map ZR),.tuple (w.looks.map tupI),tupI w.beg,tupI w.goal]
def Cr(n:Nat)(c:List Int):Prop:=c.Pairwise (· < ·)/\∀x∈c,0<=x/\x<(n:Int)
structure Wk.Ok(w:Wk):Prop where
 m1:2<=w.many
 m2:w.many<=5
 d1:1<=w.deeds.length
 d2:w.deeds.length<=3
 dl:∀dd∈w.deeds,dd.length=w.many
 dc:∀dd∈w.deeds,∀c∈dd,Cr w.many c
 l2:w.looks.length<=3
 ll:∀l∈w.looks,l.length=w.many
 lc:∀l∈w.looks,∀x∈l,0<=x/\x<=9
 b1:w.beg≠[]
 bc:Cr w.many w.beg
 g1:w.goal≠[]
 gc:Cr w.many w.goal
theorem Cr.len{n:Nat}:∀{c:List Int},Cr n c->c.length<=n:=by
 have key:∀(c:List Int) (l:Int),c.Pairwise (· < ·)->(∀x∈c,l<=x/\x<(n:Int))->(c.length:Int)<=max 0 ((n:Int)-l):=by
  intro c
  induction c with
  | nil=>intro l _ _; simp; omega
  | cons x c ih=>intro l hp hb;have h1:=hb x (Zzt ..);have h2:=ih (x+1) (ZAc.mp hp).2 λy hy=>⟨by have:=(ZAc.mp hp).1 y hy; omega,(hb y (Zzu _ hy)).2⟩;rw[ZzG];omega
 intro c h;have:=key c 0 h.1 h.2;omega
theorem sortI_perm(ns:List Int):(sortI ns).Perm ns:=ZCg ns _
theorem Zus(ns:List Int):(sortI ns).Pairwise (·<=·):=by have h:=ZCx (le:=λa b:Int=>decide (a<=b)) (λa b c h1 h2=>by simp at *; omega) (λa b=>by simp; omega) ns;exact h.imp λh=>by simpa using h
theorem Zks:∀{ns:List Int},ns.Pairwise (·<=·)->ns.Nodup->ns.Pairwise (· < ·)
 | [],_,_=>.nil
 | n::ns,h,hn=>by obtain⟨h1,h2⟩:=ZAc.mp h;obtain⟨n1,n2⟩:=ZAh.mp hn;refine ZAc.mpr ⟨λx hx=>?_,Zks h2 n2⟩;have:=h1 x hx;have:n≠x:=λe=>n1 (e▸hx);omega
theorem Ziu{n:Nat}{ns:List Int}(hn:ns.Nodup)(hb:∀x∈ns,0<=x/\x<(n:Int)):Cr n (sortI ns) :=
 ⟨Zks (Zus ns) ((sortI_perm ns).nodup_iff.mpr hn),λx hx=>hb x ((sortI_perm ns).mem_iff.mp hx)⟩
theorem ZiL(ns:List Int)(h:ns.length<64):ZfC (ns.map dI)=some ((sortI ns).map dI):=by unfold ZfC;rw[if_pos (by rw[Zzr]; exact h),ZbX];rfl
theorem ZfF:∀(ns acc:List Int) (x:Int),x∈dedup acc ns↔x∈acc\/x∈ns
 | [],acc,x=>by simp[dedup]
 | n::ns,acc,x=>by
  unfold dedup;split
  ·rename_i h
   have h':n∈acc:=by simpa using h
   rw[ZfF ns acc x]
   constructor
   ·rintro (h | h)
    ·exact .inl h
    ·exact .inr (Zzu _ h)
   ·rintro (h | h)
    ·exact .inl h
    ·rcases ZzH.mp h with e | e
     ·exact .inl (e▸h')
     ·exact .inr e
  ·rw[ZfF ns _ x,ZzX,ZzI,ZzH]
   constructor
   ·rintro ((h | h) | h)
    ·exact .inl h
    ·exact .inr (.inl h)
    ·exact .inr (.inr h)
   ·rintro (h | h | h)
    ·exact .inl (.inl h)
    ·exact .inl (.inr h)
    ·exact .inr h
theorem ZfD:∀(ns acc:List Int),acc.Nodup->(dedup acc ns).Nodup
 | [],acc,h=>h
 | n::ns,acc,h=>by
  unfold dedup;split
  ·exact ZfD ns acc h
  ·rename_i hc
   have hc':n ∉ acc:=by simpa using hc
   refine ZfD ns _ ?_;rw[ZBc];exact⟨h,by simp,λa ha b hb=>by simp at hb; subst hb; exact λe=>hc' (e▸ha)⟩
end HM
namespace HG
open PySem HM
def Zi1:SF :=
 (Zt (sIf (tOr (tV (ZdM (Za 0) .bool)) (Zb7 (tV (ZdM (Za 0) .int)))) (ZF (eC (.bool false))) Zan)
  (ZF (ZfH gLe gLe (Za 1) (Za 0) (Za 2))))
def Za6:List D->Option D:=fnOf 3 3 Zi1
def Zmj:SF :=
 (ZF (ZgI (ZdM (Za 0) .tuple) (ZfH gLe gLe (Za 1) (Zaz (Zl 0)) (Za 2))))
def Za3:List D->Option D:=fnOf 3 3 Zmj
def ZaC:SF :=
 (Zt (sIf (Zb7 (tV (Zo Za6 (Zc (Za 3) (Zc (Za 2) (Zc (op2 Zl4 (Za 1) (eC (.int 1))) Zm)))))) (ZF (eC (.bool false))) Zan)
  (ZW 2 (op2 Zbk (Za 3) (eC (.int 1)))))
def ZeH:SF :=
 (Zt (sIf (Zb7 (tV (ZdM (Za 0) .tuple))) (ZF (eC (.bool false))) Zan)
  (Zt (ZW 2 (eC (.int 0)))
  (Zt (ZaN 3 (Z4 (bOf (Za 0))) ZaC)
  (ZF (eC (.bool true))))))
def Zad:List D->Option D:=fnOf 2 4 ZeH
def Zh2:SF :=
 (ZF (ZgI (Zo Za3 (Zc (Za 0) (Zc (Za 1) (Zc (Za 1) Zm)))) (ZjC (ZM (Z4 (bOf (Za 0))) ZZ (Zo Zad (Zc (Za 0) (Zc (Za 2) Zm)))))))
def Zcv:List D->Option D:=fnOf 2 2 Zh2
def Zh3:SF :=
 (ZF (ZgI (Zo Za3 (Zc (Za 0) (Zc (Za 1) (Zc (Za 1) Zm)))) (ZjC (ZM (Z4 (bOf (Za 0))) ZZ (Zo Za6 (Zc (Za 0) (Zc (eC (.int 0)) (Zc (eC (.int 9)) Zm))))))))
def Zcw:List D->Option D:=fnOf 2 2 Zh3
def Zi2:SF :=
 (ZF (ZgI (Zo Za3 (Zc (Za 0) (Zc (eC (.int 1)) (Zc (eC (.int 5)) Zm)))) (ZjC (ZM (Z4 (bOf (Za 0))) ZZ (Zo Zcv (Zc (Za 0) (Zc (Za 2) Zm)))))))
def ZcN:List D->Option D:=fnOf 2 2 Zi2
def Zi3:SF :=
 (ZF (ZgI (Zo Za3 (Zc (Za 0) (Zc (eC (.int 0)) (Zc (eC (.int 4)) Zm)))) (ZjC (ZM (Z4 (bOf (Za 0))) ZZ (Zo Zcw (Zc (Za 0) (Zc (Za 2) Zm)))))))
def ZcO:List D->Option D:=fnOf 2 2 Zi3
def Zkk:SF :=
 (ZF (ZgI (Zo Zad (Zc (Za 0) (Zc (Za 1) Zm))) (op2 gGt (Zaz (Zl 0)) (eC (.int 0)))))
def Zdd:List D->Option D:=fnOf 2 2 Zkk
def Zi4:SF :=
 (Zt (sIf (tOr (Zb7 (tV (Zo Za3 (Zc (Za 0) (Zc (eC (.int 5)) (Zc (eC (.int 5)) Zm)))))) (Zb7 (tV (Zo Za6 (Zc (eIx (Zl 0) (eC (.int 0))) (Zc (eC (.int 1)) (Zc (eC (.int 8)) Zm))))))) (ZF (eC (.bool false))) Zan)
  (Zt (ZW 1 (eIx (Zl 0) (eC (.int 0))))
  (Zt (sIf (tOr (Zb7 (tV (Zo ZcN (Zc (eIx (Zl 0) (eC (.int 1))) (Zc (Za 1) Zm))))) (Zb7 (tV (Zo ZcO (Zc (eIx (Zl 0) (eC (.int 2))) (Zc (Za 1) Zm)))))) (ZF (eC (.bool false))) Zan)
  (ZF (ZgI (Zo Zdd (Zc (eIx (Zl 0) (eC (.int 3))) (Zc (Za 1) Zm))) (Zo Zad (Zc (eIx (Zl 0) (eC (.int 4))) (Zc (Za 1) Zm))))))))
def ZcP:List D->Option D:=fnOf 1 2 Zi4
def Zkl:SF :=
 (ZF (eIx (Zl 0) (eC (.int 1))))
def Zbp:List D->Option D:=fnOf 1 1 Zkl
def Zkm:SF :=
 (ZF (eIx (Zl 0) (eC (.int 2))))
def Zb9:List D->Option D:=fnOf 1 1 Zkm
def Zk8:SF :=
 (Zt (sIf (Zb7 (tV (Zo ZcP (Zc (Za 0) Zm)))) Zjz Zan)
  (ZF (Za 0)))
def ZdP:List D->Option D:=fnOf 1 1 Zk8
def Zgj:SF :=
 (Zt (sIf (Zb7 (tV (Zo Zad (Zc (Za 1) (Zc (Zaz (bOf (Zo Zb9 (Zc (Za 0) Zm)))) Zm))))) Zjz Zan)
  (ZF (Za 1)))
def ZbE:List D->Option D:=fnOf 2 2 Zgj
def Zk9:SF :=
 (ZF (Zaq (ZM (Z4 (bOf (Za 1))) ZZ (eIx (bOf (eIx (bOf (Zo Zb9 (Zc (Za 1) Zm))) (Za 0))) (Za 3)))))
def ZdQ:List D->Option D:=fnOf 3 3 Zk9
def ZhO:SF :=
 (Zt (ZW 3 (eIx (bOf (Zo Zbp (Zc (Za 0) Zm))) (Za 2)))
  (ZF (ZjC (ZM (Z4 (bOf (Za 1))) ZZ (op2 gGt (Zaz (bOf (eIx (Zl 4) (Za 0)))) (eC (.int 0)))))))
def Zcc:List D->Option D:=fnOf 3 4 ZhO
def ZiQ:SF :=
 (ZF (eOf (ZM (Zb8 (Zaz (bOf (Zo Zbp (Zc (Za 0) Zm))))) (tV (Zo Zcc (Zc (Za 1) (Zc (Za 2) (Zc (Za 0) Zm))))) (Za 0))))
def Zcn:List D->Option D:=fnOf 2 2 ZiQ
def ZeI:SF :=
 (ZfT 4 (Za 6) (eC (.bool true)))
def ZeJ:SF :=
 (ZaN 6 (Z4 (bOf (eIx (Zl 3) (Za 5)))) ZeI)
def Zmk:SF :=
 (Zt (ZW 3 (eIx (bOf (Zo Zbp (Zc (Za 0) Zm))) (Za 2)))
  (Zt (Z1 4 fDk)
  (Zt (ZaN 5 (Z4 (bOf (Za 1))) ZeJ)
  (ZF (Zaq (Zgi (Zl 4)))))))
def Zdv:List D->Option D:=fnOf 3 7 Zmk
def ZeK:SF :=
 (ZoV 3 (Zo ZdQ (Zc (Za 0) (Zc (Za 1) (Zc (Za 4) Zm)))) (Za 4))
def Zml:SF :=
 (Zt (Z1 3 ZuT)
  (Zt (ZaN 4 (Z4 (bOf (Za 2))) ZeK)
  (ZF (eOf (ZM (Z4 (bOf (eOf (Zgi (Zl 3))))) ZZ (ZcF (Zc (Za 0) (Zc (Zaq (Zod 4 (Za 0))) Zm))))))))
def Zbm:List D->Option D:=fnOf 3 5 Zml
def Zkn:SF :=
 (Zt (sIf (tV (op2 gLt (Za 1) (Zaz (Zl 0)))) (ZF (eIx (Zl 0) (Za 1))) Zan)
  (ZF (eC (.int 0))))
def Zao:List D->Option D:=fnOf 2 2 Zkn
def Zla:SF :=
 (ZF (op2 Zu7 (op2 Zu7 (op2 Zdp (Za 0) (eC (.int 48271))) (Za 1)) (Za 2)))
def ZO:List D->Option D:=fnOf 3 3 Zla
def Zgk:SF :=
 (Zt (Z1 3 (ZM (Zb8 (Za 1)) (tV (op2 gLt (Zo ZO (Zc (op2 Zbk (op2 Zbk (Za 1) (op2 Zdp (op2 Zdp (eC (.int 31)) (Za 0)) (Za 0))) (op2 Zdp (eC (.int 7)) (Za 0))) (Zc (eC (.int 9973)) (Zc (eC (.int 5)) Zm)))) (eC (.int 2)))) (Za 0)))
  (Zt (sIf (tV (op2 gLt (Zaz (Zl 3)) (Za 2))) (Z1 3 (Zfo (Zc (Zo ZO (Zc (Za 0) (Zc (eC (.int 9967)) (Zc (Za 1) Zm)))) Zm))) Zan)
  (ZF (Zaq (Zl 3)))))
def ZbL:List D->Option D:=fnOf 3 4 Zgk
def Zcd:SF :=
 (Zt (ZW 4 (op2 Zbk (op2 Zbk (Za 0) (op2 Zdp (op2 Zdp (eC (.int 43)) (Za 3)) (Za 3))) (op2 Zdp (eC (.int 11)) (Za 3))))
  (Zt (ZW 5 (Zo ZO (Zc (Za 4) (Zc (eC (.int 9949)) (Zc (eC (.int 10)) Zm)))))
  (Zt (Z1 6 (Zo4 (Zo ZO (Zc (Za 4) (Zc (eC (.int 9941)) (Zc (Za 1) Zm)))) (eC (.bool true))))
  (Zt (sIf (tV (op2 gLt (Za 5) (eC (.int 3)))) (ZfT 6 (Zo ZO (Zc (Za 4) (Zc (eC (.int 9931)) (Zc (Za 1) Zm)))) (eC (.bool true))) Zan)
  (Zt (Zev 2 (Zaq (Zgi (Zl 6))))
  (sIf (tV (op2 gEq (Za 5) (eC (.int 9)))) (Zrw 2 (eC (.int (-1))) (ZcF Zm)) Zan))))))
def Zko:SF :=
 (Zt (Z1 2 (Zfo Zm))
  (Zt (ZaN 3 (Zb8 (Za 1)) Zcd)
  (ZF (Zaq (Zl 2)))))
def Zde:List D->Option D:=fnOf 2 7 Zko
def Zdw:SF :=
 (Zt (ZW 5 (op2 Zr8 (op2 Zl4 (Za 4) (eC (.int 1))) (eC (.int 0))))
  (Zt (ZW 6 (op2 Zxy (op2 Zbk (Za 4) (eC (.int 1))) (op2 Zl4 (Za 1) (eC (.int 1)))))
  (Zt (ZW 7 (op2 gEq (Zo ZO (Zc (op2 Zbk (Za 0) (op2 Zdp (eC (.int 17)) (Za 4))) (Zc (eC (.int 9929)) (Zc (eC (.int 6)) Zm)))) (eC (.int 1))))
  (Zt (Zev 2 (Zaq (Zf7 (Zmd (Zfo (Zc (Za 5) Zm)) (ZuM (Zfo (Zc (Za 4) Zm)) (Zpu (Za 7)))))))
  (Zev 3 (ZcF (Zc (Za 6) Zm)))))))
def Zkp:SF :=
 (Zt (Z1 2 (Zfo Zm))
  (Zt (Z1 3 (Zfo Zm))
  (Zt (ZaN 4 (Zb8 (Za 1)) Zdw)
  (ZF (ZcF (Zc (Zaq (Zl 2)) (Zc (Zaq (Zl 3)) Zm)))))))
def Zdf:List D->Option D:=fnOf 2 8 Zkp
def Zc8:SF :=
 (Zt (ZW 7 (op2 Zbk (Zo Zao (Zc (Za 0) (Zc (op2 Zbk (op2 Zbk (Za 1) (eC (.int 4))) (Za 5)) Zm))) (op2 Zdp (eC (.int 71)) (Za 5))))
  (Zt (ZW 8 (op2 Zbk (eC (.int 2)) (Zo ZO (Zc (Za 7) (Zc (eC (.int 9883)) (Zc (eC (.int 2)) Zm))))))
  (Zev 6 (Zaq (ZM (Zb8 (Za 3)) ZZ (Zo ZO (Zc (op2 Zbk (Za 8) (op2 Zdp (op2 Zdp (eC (.int 13)) (Za 0)) (Za 0))) (Zc (eC (.int 9871)) (Zc (Za 9) Zm)))))))))
def Zd8:SF :=
 (Zev 4 (Zo Zde (Zc (op2 Zbk (Zo Zao (Zc (Za 0) (Zc (op2 Zbk (op2 Zbk (Za 1) (eC (.int 1))) (Za 5)) Zm))) (op2 Zdp (eC (.int 61)) (Za 5))) (Zc (Za 3) Zm))))
def Zdx:SF :=
 (Zt (ZW 2 (Zo Zao (Zc (Za 0) (Zc (Za 1) Zm))))
  (Zt (ZW 3 (op2 Zbk (eC (.int 2)) (Zo ZO (Zc (Za 2) (Zc (eC (.int 9923)) (Zc (eC (.int 4)) Zm))))))
  (Zt (sIf (tV (op2 gGt (Zaz (Zl 0)) (eC (.int 63)))) (ZW 3 (op2 Zbk (eC (.int 2)) (Zo ZO (Zc (Za 2) (Zc (eC (.int 9923)) (Zc (eC (.int 6)) Zm)))))) Zan)
  (Zt (Z1 4 (Zfo Zm))
  (Zt (ZaN 5 (Zb8 (op2 Zbk (eC (.int 1)) (Zo ZO (Zc (Za 2) (Zc (eC (.int 9907)) (Zc (eC (.int 3)) Zm)))))) Zd8)
  (Zt (sIf (tV (op2 gEq (Zo ZO (Zc (Za 2) (Zc (eC (.int 9901)) (Zc (eC (.int 3)) Zm)))) (eC (.int 1)))) (Z1 4 (Zmd (Zh0 (bOf (Zo Zdf (Zc (Zo Zao (Zc (Za 0) (Zc (op2 Zbk (Za 1) (eC (.int 1))) Zm))) (Zc (Za 3) Zm))))) (ZuR (Zl 4) none (some (eC (.int 1)))))) Zan)
  (Zt (Z1 6 (Zfo Zm))
  (Zt (ZaN 5 (Zb8 (Zo ZO (Zc (Za 2) (Zc (eC (.int 9887)) (Zc (eC (.int 4)) Zm))))) Zc8)
  (Zt (ZW 9 (Zo ZbL (Zc (Zo Zao (Zc (Za 0) (Zc (op2 Zbk (Za 1) (eC (.int 7))) Zm))) (Zc (Za 3) (Zc (eC (.int 1)) Zm)))))
  (Zt (sIf (tV (op2 gEq (Zo ZO (Zc (Za 2) (Zc (eC (.int 9859)) (Zc (eC (.int 3)) Zm)))) (eC (.int 1)))) (ZW 9 (ZkJ (Zb8 (Za 3)))) Zan)
  (Zt (ZW 10 (Zo ZbL (Zc (Zo Zao (Zc (Za 0) (Zc (op2 Zbk (Za 1) (eC (.int 8))) Zm))) (Zc (Za 3) (Zc (eC (.int 1)) Zm)))))
  (ZF (ZcF (Zc (Za 3) (Zc (Zaq (Zl 4)) (Zc (Zaq (Zl 6)) (Zc (Za 9) (Zc (Za 10) Zm))))))))))))))))))
def Za7:List D->Option D:=fnOf 2 11 Zdx
def Zi5:SF :=
 (ZF (Zaq (ZM (Zb8 (Zaz (bOf (eIx (Zl 0) (eC (.int 2)))))) (tV (op2 gGt (Zo ZO (Zc (op2 Zbk (Za 2) (op2 Zdp (eC (.int 19)) (Za 0))) (Zc (eC (.int 9857)) (Zc (eC (.int 4)) Zm)))) (eC (.int 0)))) (Za 0))))
def ZcQ:List D->Option D:=fnOf 2 2 Zi5
def Za8:SF :=
 (Zt (sIf (tV (op2 gEq (eIx (bOf (eIx (bOf (eIx (Zl 0) (eC (.int 1)))) (Za 2))) (Za 4)) (ZcF Zm))) (ZF (eC .none)) Zan)
  (Z1 3 (Zmd (Zl 3) (Zh0 (bOf (eIx (bOf (eIx (bOf (eIx (Zl 0) (eC (.int 1)))) (Za 2))) (Za 4)))))))
def Zh4:SF :=
 (Zt (Z1 3 (Zfo Zm))
  (Zt (ZaN 4 (Z4 (bOf (Za 1))) Za8)
  (ZF (Zaq (Zf7 (Zl 3))))))
def ZaY:List D->Option D:=fnOf 3 5 Zh4
def Zco:SF :=
 (Zt (ZW 5 (Zaq (ZM (Z4 (bOf (Za 1))) ZZ (eIx (bOf (eIx (bOf (eIx (Zl 1) (eC (.int 2)))) (Za 0))) (Za 5)))))
  (Zt (sIf (tV (ZlD (Za 5) (Zl 3))) (Zmb 3 (Za 5)) Zan)
  (Zpk 3 (Za 5) (Za 4))))
def Zi6:SF :=
 (Zt (Z1 3 ZuT)
  (Zt (ZaN 4 (Z4 (bOf (Za 2))) Zco)
  (ZF (eOf (ZM (Z4 (bOf (eOf (Zgi (Zl 3))))) ZZ (ZcF (Zc (Za 0) (Zc (Zaq (Zod 4 (Za 0))) Zm))))))))
def Zak:List D->Option D:=fnOf 3 6 Zi6
end HG
namespace HG
open PySem HM
def ZB(ns:List Int)(k:Nat):Int:=if k<ns.length then ns.getD k 0 else 0
theorem ZeC(ns:List Int)(k:Nat):Zao [.list (ns.map dI),.int k]=some (.int (ZB ns k)):=by
 simp[Zao,Zkn,ZB]
 by_cases h:k<ns.length
 ·have h':(k:Int)<(ns.length:Int):=by omega
  have e:atD (ns.map dI) (k:Int)=some (.int ns[k]):=ZcX (by simp[h]);simp[h,h',e]
 ·have h':¬(k:Int)<(ns.length:Int):=by omega
  simp[h,h']
def Z3(c p m:Int):Int:=c*48271 % p % m
theorem Zcz(c p m:Int)(hp:0<p)(hm:0<m):ZO [.int c,.int p,.int m]=some (.int (Z3 c p m)):=by simp[ZO,Zla,hp,hm,Z3]
theorem ZaW(c p m:Int)(hm:0<m):0<=Z3 c p m/\Z3 c p m<m:=⟨Int.emod_nonneg _ (by omega),Int.emod_lt_of_pos _ hm⟩
def crP(c:Int)(k:Nat):Bool:=decide (Z3 (c+31*(k:Int)*(k:Int)+7*(k:Int)) 9973 5<2)
def crF(c:Int)(n:Nat):List Int:=((ZzA n).filter (crP c)).map λ(k:Nat)=>(k:Int)
def crV(c:Int)(n:Nat):List Int:=if(crF c n).length<1 then[Z3 c 9967 n]else crF c n
theorem ZiB(n:Nat)(p:Nat->Bool):Cr n (((ZzA n).filter p).map λ(k:Nat)=>(k:Int)):=by
 refine⟨?_,λx hx=>?_⟩
 ·rw[ZCE]
  refine List.Pairwise.imp (λ{a b} h=>?_) (List.Pairwise.filter p ZD7);omega
 ·obtain⟨k,hk,rfl⟩:=Zzx.mp hx
  have:=ZzP.mp (Zz5.mp hk).1;omega
theorem ZsK(c:Int)(n:Nat)(hn:0<n):Cr n (crV c n)/\crV c n≠[]:=by
 unfold crV;split
 ·refine⟨⟨by simp,λx hx=>?_⟩,by simp⟩
  have e:x=Z3 c 9967 n:=by simpa using hx
  rw[e];have:=ZaW c 9967 n (by omega);omega
 ·rename_i h
  exact⟨ZiB n _,λe=>h (by rw[e]; simp)⟩
theorem ZpA(c:Int)(n:Nat)(hn:0<n)(hb:n<1000):ZbL [.int c,.int n,.int 1]=some (tupI (crV c n)):=by
 have hn':(0:Int)<(n:Int):=by omega
 have key:ZaJ (tV (op2 gLt (Zo ZO (Zc (op2 Zbk (op2 Zbk (Za 1) (op2 Zdp (op2 Zdp (eC (.int 31)) (Za 0)) (Za 0))) (op2 Zdp (eC (.int 7)) (Za 0))) (Zc (eC (.int 9973)) (Zc (eC (.int 5)) Zm)))) (eC (.int 2)))) (Za 0)
   [some (.pl (.int c)),some (.pl (.int n)),some (.pl (.int 1)),none] (Zb4 0 n)=some ((crF c n).map dI):=by
  rw[Zaa];rw[ZbY dN (crP c) dN]
  ·unfold crF
   rw[ZzO];rfl
  ·intro k hk
   have hk':=ZzP.mp hk;have s2:Z6 (31*(k:Int))=true:=ZjJ (by omega) (by omega);simp[Zcz,crP,s2]
  ·intro k hk _
   simp
 have h1:okR (n:Int)=true:=ZcZ (by omega);have h2:(Zb4 0 n).length<1000000:=by rw[Zaa]; simp; omega
 by_cases hl:(crF c n).length<1
 ·have hl':((crF c n).length:Int)<1:=by omega
  have hm:=Zcz c 9967 n (by decide) hn';simp[ZbL,Zgk,h1,h2,key];simp[hl',crV,hl,hm]
 ·have hl':¬((crF c n).length:Int)<1:=by omega
  simp[ZbL,Zgk,h1,h2,key];simp[hl',crV,hl]
def ZuA(c:Int)(n k:Nat):List Int :=
 let s:=c+43*(k:Int)*(k:Int)+11*(k:Int)
 if Z3 s 9949 10<3/\Z3 s 9941 n≠Z3 s 9931 n then[Z3 s 9941 n,Z3 s 9931 n]else[Z3 s 9941 n]
def ZfY(c:Int)(n k:Nat):List Int:=if Z3 (c+43*(k:Int)*(k:Int)+11*(k:Int)) 9949 10=9 then[]else sortI (ZuA c n k)
theorem ZvE(c:Int)(n k:Nat)(hn:0<n):Cr n (ZfY c n k):=by
 unfold ZfY;split
 ·exact⟨.nil,λx hx=>by simp at hx⟩
 ·unfold ZuA
  dsimp only;have b1:=ZaW (c+43*(k:Int)*(k:Int)+11*(k:Int)) 9941 n (by omega);have b2:=ZaW (c+43*(k:Int)*(k:Int)+11*(k:Int)) 9931 n (by omega);split
  ·rename_i h
   refine Ziu (by simp[h.2]) λx hx=>?_;simp at hx;rcases hx with e | e<;>(subst e; assumption)
  ·refine Ziu (by simp) λx hx=>?_
   simp at hx;subst hx; assumption
theorem Zue(n:Nat):ixN (n+1) (-1)=some n:=by unfold ixN;rw[if_neg (by decide),if_pos (by omega)];congr 1;omega
theorem ZsV(c:Int)(n k:Nat)(rows:List D)(o4 o5 o6:Option B)(hn:0<n)(hk:k<1000)(hl:rows.length<1000) :
  ∃r5 r6 r7,Zcd [some (.pl (.int c)),some (.pl (.int n)),some (.ol rows),some (.pl (dN k)),o4,o5,o6]=some (.nx [some (.pl (.int c)),some (.pl (.int n)),some (.ol (rows++[tupI (ZfY c n k)])),some (.pl (dN k)),r5,r6,r7]):=by
 have hn':(0:Int)<(n:Int):=by omega
 have s2:Z6 (43*(k:Int))=true:=ZjJ (by omega) (by omega);have hl':rows.length<1000000:=by omega
 have m1:=Zcz (c+43*(k:Int)*(k:Int)+11*(k:Int)) 9949 10 (by decide) (by decide);have m2:=Zcz (c+43*(k:Int)*(k:Int)+11*(k:Int)) 9941 n (by decide) hn';have m3:=Zcz (c+43*(k:Int)*(k:Int)+11*(k:Int)) 9931 n (by decide) hn';unfold ZfY ZuA;dsimp only;generalize Z3 (c+43*(k:Int)*(k:Int)+11*(k:Int)) 9949 10=wy at *;generalize Z3 (c+43*(k:Int)*(k:Int)+11*(k:Int)) 9941 n=a at *;generalize Z3 (c+43*(k:Int)*(k:Int)+11*(k:Int)) 9931 n=b at *;have t1:ZfC [Zz6 a]=some ((sortI [a]).map dI):=ZiL [a] (by simp);have t2:ZfC [Zz6 a,Zz6 b]=some ((sortI [a,b]).map dI):=ZiL [a,b] (by simp)
 by_cases w3:wy<3
 ·have w9:(wy==9)=false:=by simp; omega
  have w9':¬wy=9:=by omega
  by_cases ab:a=b
  ·subst ab
   simp[Zcd,s2,m1,m2,m3,w3,w9,w9',putD,ZaM,hl',t1]
  ·simp[Zcd,s2,m1,m2,m3,w3,w9,w9',putD,ab,ZaM,hl',t2]
 ·by_cases w9:wy=9
  ·subst w9
   simp[Zcd,s2,m1,m2,putD,ZaM,hl',t1,Zue]
  ·have w9':(wy==9)=false:=by simp[w9]
   simp[Zcd,s2,m1,m2,w3,w9',w9,putD,ZaM,hl',t1]
theorem Zv7(c:Int)(n:Nat)(hn:0<n)(hb:n<1000):Zde [.int c,.int n]=some (ZR ((ZzA n).map λk=>ZfY c n k)):=by
 have h1:okR (n:Int)=true:=ZcZ (by omega);have h2:(Zb4 0 n).length<1000000:=by rw[Zaa]; simp; omega
 obtain⟨r',e1,o3,o4,o5,o6,p1⟩:=Zj2 (i:=3) (body:=Zcd) dN (λ(s:List Nat) r=>∃o3 o4 o5 o6,r=[some (.pl (.int c)),some (.pl (.int n)),some (.ol (s.map λk=>tupI (ZfY c n k))),o3,o4,o5,o6]) (ZzA n)
  [some (.pl (.int c)),some (.pl (.int n)),some (.ol []),none,none,none,none] ⟨none,none,none,none,rfl⟩ (by
   rintro s k post r hxs ⟨o3,o4,o5,o6,rfl⟩
   have hk':k<n:=ZzP.mp (by rw[hxs]; simp);have hs:s.length<n:=by have:=congrArg ZAi hxs; simp at this; omega
   obtain⟨r5,r6,r7,e⟩:=ZsV c n k (s.map λk=>tupI (ZfY c n k)) o4 o5 o6 hn (by omega) (by simp; omega);exact⟨_,e,some (.pl (dN k)),r5,r6,r7,by simp⟩)
 subst p1;have hl:n<1000000:=by omega
 simp[Zde,Zko,h1,Zaa,hl,e1,ZR]
end HG
namespace HG
open PySem HM
def ahV(k:Nat):Int:=if(0:Int) > (k:Int)-1 then 0 else(k:Int)-1
def beV(n k:Nat):Int:=if(n:Int)-1<(k:Int)+1 then(n:Int)-1 else(k:Int)+1
def wlV(c:Int)(k:Nat):List Int:=sortI (dedup [] (ahV k::(if Z3 (c+17*(k:Int)) 9929 6=1 then[(k:Int)]else[])))
theorem Zxt(c:Int)(n k:Nat)(hk:k<n):Cr n (wlV c k):=by
 unfold wlV;have ha:0<=ahV k/\ahV k<n:=by unfold ahV; split<;>omega
 refine Ziu (ZfD _ _ (by simp)) λx hx=>?_;rw[ZfF]at hx;rcases hx with h | h
 ·simp at h
 ·rcases ZzH.mp h with e | e
  ·subst e; exact ha
  ·split at e
   ·simp at e; subst e; omega
   ·simp at e
theorem Zxe(n k:Nat)(hk:k<n):Cr n [beV n k]:=by
 have ha:0<=beV n k/\beV n k<n:=by unfold beV; split<;>omega
 exact⟨by simp,λx hx=>by simp at hx; subst hx; exact ha⟩
theorem Zsu(c:Int)(n k:Nat)(ls rs:List D)(o4 o5 o6 o7:Option B)(hk:k<8)(h1:ls.length<1000)(h2:rs.length<1000) :
  ∃r4 r5 r6,Zdw [some (.pl (.int c)),some (.pl (.int n)),some (.ol ls),some (.ol rs),some (.pl (dN k)),o5,o6,o7]=some (.nx [some (.pl (.int c)),some (.pl (.int n)),some (.ol (ls++[tupI (wlV c k)])),some (.ol (rs++[tupI [beV n k]])),some (.pl (dN k)),r4,r5,r6]):=by
 have h1':ls.length<1000000:=by omega
 have h2':rs.length<1000000:=by omega
 have m1:=Zcz (c+17*(k:Int)) 9929 6 (by decide) (by decide);have hk8:k=0\/k=1\/k=2\/k=3\/k=4\/k=5\/k=6\/k=7:=by omega
 have l1:Zrm [if(k:Int)-1<0 then 0 else(k:Int)-1,(k:Int)]=true:=by rcases hk8 with rfl | rfl | rfl | rfl | rfl | rfl | rfl | rfl<;>rfl
 have l2:Zrm [if(k:Int)-1<0 then 0 else(k:Int)-1]=true:=by rcases hk8 with rfl | rfl | rfl | rfl | rfl | rfl | rfl | rfl<;>rfl
 unfold wlV;generalize Z3 (c+17*(k:Int)) 9929 6=a at *
 by_cases e:a=1
 ·subst e
  simp[Zdw,m1,h1',h2',ahV,beV,ZaP,Zgg,l1]
 ·have e':(a==1)=false:=by simp[e]
  simp[Zdw,m1,h1',h2',ahV,beV,e,e',ZaP,Zgg,l2]
theorem Zwm(c:Int)(n:Nat)(hb:n<=8):Zdf [.int c,.int n]=some (.tuple [ZR ((ZzA n).map λk=>wlV c k),ZR ((ZzA n).map λk=>[beV n k])]):=by
 have h1:okR (n:Int)=true:=ZcZ (by omega);obtain⟨r',e1,o4,o5,o6,o7,p1⟩:=Zj2 (i:=4) (body:=Zdw) dN (λ(s:List Nat) r=>∃o4 o5 o6 o7,r=[some (.pl (.int c)),some (.pl (.int n)),some (.ol (s.map λk=>tupI (wlV c k))),some (.ol (s.map λk=>tupI [beV n k])),o4,o5,o6,o7]) (ZzA n)
  [some (.pl (.int c)),some (.pl (.int n)),some (.ol []),some (.ol []),none,none,none,none] ⟨none,none,none,none,rfl⟩ (by
   rintro s k post r hxs ⟨o4,o5,o6,o7,rfl⟩
   have hk':k<n:=ZzP.mp (by rw[hxs]; simp);have hs:s.length<n:=by have:=congrArg ZAi hxs; simp at this; omega
   obtain⟨r5,r6,r7,e⟩:=Zsu c n k (s.map λk=>tupI (wlV c k)) (s.map λk=>tupI [beV n k]) o4 o5 o6 o7 (by omega) (by simp; omega) (by simp; omega);exact⟨_,e,some (.pl (dN k)),r5,r6,r7,by simp⟩)
 subst p1;have hl:n<1000000:=by omega
 simp[Zdf,Zkp,h1,Zaa,hl,e1,ZR]
section
variable(ns:List Int)(at_:Nat)
def ZU:Nat:=(2+Z3 (ZB ns at_) 9923 4).toNat
def Zb5:List (List (List Int)):=(ZzA (1+Z3 (ZB ns at_) 9907 3).toNat).map λk=>(ZzA (ZU ns at_)).map λs=>ZfY (ZB ns (at_+1+k)+61*(k:Int)) (ZU ns at_) s
def ZgF:List (List (List Int)) :=
 if Z3 (ZB ns at_) 9901 3=1 then[(ZzA (ZU ns at_)).map λk=>wlV (ZB ns (at_+1)) k,(ZzA (ZU ns at_)).map λk=>[beV (ZU ns at_) k]]++(Zb5 ns at_).take 1 else Zb5 ns at_
def Zha(k:Nat):List Int:=(ZzA (ZU ns at_)).map λ(s:Nat)=>Z3 (ZB ns (at_+4+k)+71*(k:Int)+13*(s:Int)*(s:Int)) 9871 (2+Z3 (ZB ns (at_+4+k)+71*(k:Int)) 9883 2)
def ZgH:List (List Int):=(ZzA (Z3 (ZB ns at_) 9887 4).toNat).map (Zha ns at_)
def Zpe:List Int:=if Z3 (ZB ns at_) 9859 3=1 then(ZzA (ZU ns at_)).map λ(k:Nat)=>(k:Int)else crV (ZB ns (at_+7)) (ZU ns at_)
def Zvo:List Int:=crV (ZB ns (at_+8)) (ZU ns at_)
def wkV:Wk:=⟨ZU ns at_,ZgF ns at_,ZgH ns at_,Zpe ns at_,Zvo ns at_⟩
theorem ZjX:2<=ZU ns at_/\ZU ns at_<=5:=by have:=ZaW (ZB ns at_) 9923 4 (by decide);unfold ZU; omega
theorem Zwd:((ZU ns at_:Nat):Int)=2+Z3 (ZB ns at_) 9923 4:=by have:=ZaW (ZB ns at_) 9923 4 (by decide);unfold ZU; omega
theorem ZwB:(wkV ns at_).Ok:=by
 have hm:=ZjX ns at_;have hd3:=ZaW (ZB ns at_) 9907 3 (by decide);have dk:∀dd∈Zb5 ns at_,dd.length=ZU ns at_/\∀c∈dd,Cr (ZU ns at_) c:=by intro dd h;unfold Zb5 at h;obtain⟨k,_,rfl⟩:=Zzx.mp h;refine⟨by simp,λc hc=>?_⟩;obtain⟨s,_,rfl⟩:=Zzx.mp hc;exact ZvE _ _ _ (by omega)
 have dv:∀dd∈ZgF ns at_,dd.length=ZU ns at_/\∀c∈dd,Cr (ZU ns at_) c:=by
  intro dd h;unfold ZgF at h;split at h
  ·rcases ZzX.mp h with h | h
   ·simp at h
    rcases h with rfl | rfl
    ·refine⟨by simp,λc hc=>?_⟩
     obtain⟨s,hs,rfl⟩:=Zzx.mp hc;exact Zxt _ _ _ (ZzP.mp hs)
    ·refine⟨by simp,λc hc=>?_⟩
     obtain⟨s,hs,rfl⟩:=Zzx.mp hc;exact Zxe _ _ (ZzP.mp hs)
   ·exact dk dd (List.mem_of_mem_take h)
  ·exact dk dd h
 have lk:(Zb5 ns at_).length=(1+Z3 (ZB ns at_) 9907 3).toNat:=by unfold Zb5; simp
 have lv:1<=(ZgF ns at_).length/\(ZgF ns at_).length<=3:=by
  unfold ZgF;split
  ·simp; omega
  ·omega
 have hl4:=ZaW (ZB ns at_) 9887 4 (by decide);have lo:∀l∈ZgH ns at_,l.length=ZU ns at_/\∀x∈l,0<=x/\x<=9:=by intro l h;unfold ZgH at h;obtain⟨k,_,rfl⟩:=Zzx.mp h;unfold Zha;refine⟨by simp,λx hx=>?_⟩;obtain⟨s,_,rfl⟩:=Zzx.mp hx;have h2:=ZaW (ZB ns (at_+4+k)+71*(k:Int)) 9883 2 (by decide);have h3:=ZaW (ZB ns (at_+4+k)+71*(k:Int)+13*(s:Int)*(s:Int)) 9871 (2+Z3 (ZB ns (at_+4+k)+71*(k:Int)) 9883 2) (by omega);omega
 have ll:(ZgH ns at_).length<=3:=by unfold ZgH; simp; omega
 have cb:=ZsK (ZB ns (at_+7)) (ZU ns at_) (by omega);have cg:=ZsK (ZB ns (at_+8)) (ZU ns at_) (by omega);have hb:Zpe ns at_≠[]/\Cr (ZU ns at_) (Zpe ns at_):=by
  unfold Zpe;split
  ·refine⟨λe=>?_,?_⟩
   ·have:=congrArg ZAi e
    simp at this;omega
   ·have:=ZiB (ZU ns at_) λ_=>true
    rwa [ZBe.mpr λ_ _=>rfl]at this
  ·exact⟨cb.2,cb.1⟩
 exact⟨hm.1,hm.2,lv.1,lv.2,λdd h=>(dv dd h).1,λdd h=>(dv dd h).2,ll,λl h=>(lo l h).1,λl h=>(lo l h).2,hb.1,hb.2,cg.2,cg.1⟩
theorem ZyR(k:Int)(h:0<=k):Zao [.list (ns.map dI),.int k]=some (.int (ZB ns k.toNat)):=by
 have:=ZeC ns k.toNat
 rwa [ZCh h]at this
theorem Zru(k n:Nat)(c:Option B)(ds:List D)(o6 o7 o8 o9 o10:Option B)(hk:k<1000)(h1:ds.length<1000)(hn:0<n)(hb:n<1000) :
  Zd8 [some (.pl (.list (ns.map dI))),some (.pl (.int at_)),c,some (.pl (.int n)),some (.ol ds),some (.pl (dN k)),o6,o7,o8,o9,o10] =
   some (.nx [some (.pl (.list (ns.map dI))),some (.pl (.int at_)),c,some (.pl (.int n)),some (.ol (ds++[ZR ((ZzA n).map λs=>ZfY (ZB ns (at_+1+k)+61*(k:Int)) n s)])),some (.pl (dN k)),o6,o7,o8,o9,o10]):=by
 have h1':ds.length<1000000:=by omega
 have hc:=ZeC ns (at_+1+k);have e:((at_+1+k:Nat):Int)=(at_:Int)+1+(k:Int):=by omega
 rw[e]at hc;have hd:=Zv7 (ZB ns (at_+1+k)+61*(k:Int)) n hn hb;simp[Zd8,hc,hd,h1']
theorem ZrS(k n:Nat)(c o4:Option B)(ls:List D)(o7 o8 o9 o10:Option B)(hk:k<1000)(h1:ls.length<1000)(hn:n=ZU ns at_) :
  ∃r7 r8,Zc8 [some (.pl (.list (ns.map dI))),some (.pl (.int at_)),c,some (.pl (.int n)),o4,some (.pl (dN k)),some (.ol ls),o7,o8,o9,o10] =
   some (.nx [some (.pl (.list (ns.map dI))),some (.pl (.int at_)),c,some (.pl (.int n)),o4,some (.pl (dN k)),some (.ol (ls++[tupI (Zha ns at_ k)])),r7,r8,o9,o10]):=by
 have hb:=ZjX ns at_;have h1':ls.length<1000000:=by omega
 have hc:=ZeC ns (at_+4+k);have e:((at_+4+k:Nat):Int)=(at_:Int)+4+(k:Int):=by omega
 rw[e]at hc;have m1:=Zcz (ZB ns (at_+4+k)+71*(k:Int)) 9883 2 (by decide) (by decide);have b1:=ZaW (ZB ns (at_+4+k)+71*(k:Int)) 9883 2 (by decide);have hok:okR (n:Int)=true:=ZcZ (by omega);have hl:n<1000000:=by omega
 unfold Zha;rw[<-hn];generalize Z3 (ZB ns (at_+4+k)+71*(k:Int)) 9883 2=mo at *;generalize ZB ns (at_+4+k)=cc at *;simp[Zc8,hc,m1,hok,h1',Zaa,hl];rw[Zbj dN λ(s:Nat)=>dI (Z3 (cc+71*(k:Int)+13*(s:Int)*(s:Int)) 9871 (2+mo))]
 ·refine⟨some (.pl (.int (cc+71*(k:Int)))),some (.pl (.int (2+mo))),?_⟩
  simp
 ·intro s hs
  have hs':=ZzP.mp hs;have s2:Z6 (13*(s:Int))=true:=ZjJ (by omega) (by omega);have m2:=Zcz (cc+71*(k:Int)+13*(s:Int)*(s:Int)) 9871 (2+mo) (by decide) (by omega);simp[s2,m2]
theorem ZuE(h:ns.length<=63):Za7 [.list (ns.map dI),.int at_]=some (wkV ns at_).d:=by
 have hb:=ZjX ns at_;have hmc:=Zwd ns at_;have c0:=ZeC ns at_;have c1:=ZeC ns (at_+1);have c7:=ZeC ns (at_+7);have c8:=ZeC ns (at_+8);have e1:((at_+1:Nat):Int)=(at_:Int)+1:=by omega
 have e7:((at_+7:Nat):Int)=(at_:Int)+7:=by omega
 have e8:((at_+8:Nat):Int)=(at_:Int)+8:=by omega
 rw[e1]at c1;rw[e7]at c7;rw[e8]at c8;have m4:=Zcz (ZB ns at_) 9923 4 (by decide) (by decide);have m3:=Zcz (ZB ns at_) 9907 3 (by decide) (by decide);have b3:=ZaW (ZB ns at_) 9907 3 (by decide);have mw:=Zcz (ZB ns at_) 9901 3 (by decide) (by decide);have ml:=Zcz (ZB ns at_) 9887 4 (by decide) (by decide);have bl:=ZaW (ZB ns at_) 9887 4 (by decide);have mb:=Zcz (ZB ns at_) 9859 3 (by decide) (by decide);have wk:=Zwm (ZB ns (at_+1)) (ZU ns at_) (by omega);have k7:=ZpA (ZB ns (at_+7)) (ZU ns at_) (by omega) (by omega);have k8:=ZpA (ZB ns (at_+8)) (ZU ns at_) (by omega) (by omega);have hlen:¬(63:Int)<(ns.length:Int):=by omega
 have ok3:okR (1+Z3 (ZB ns at_) 9907 3)=true:=ZCs.mpr (by omega);have okl:okR (Z3 (ZB ns at_) 9887 4)=true:=ZCs.mpr (by omega);have okm:okR ((ZU ns at_:Nat):Int)=true:=ZcZ (by omega);obtain⟨r1,f1,o5,q1⟩:=Zj2 (i:=5) (body:=Zd8) dN (λ(s:List Nat) r=>∃o5,r=[some (.pl (.list (ns.map dI))),some (.pl (.int at_)),some (.pl (.int (ZB ns at_))),some (.pl (.int (ZU ns at_))),
   some (.ol (s.map λk=>ZR ((ZzA (ZU ns at_)).map λs=>ZfY (ZB ns (at_+1+k)+61*(k:Int)) (ZU ns at_) s))),o5,none,none,none,none,none]) (ZzA (1+Z3 (ZB ns at_) 9907 3).toNat)
  [some (.pl (.list (ns.map dI))),some (.pl (.int at_)),some (.pl (.int (ZB ns at_))),some (.pl (.int (ZU ns at_))),some (.ol []),none,none,none,none,none,none] ⟨none,rfl⟩ (by
   rintro s k post r hxs ⟨o5,rfl⟩
   have hk':=ZzP.mp (show k∈ZzA (1+Z3 (ZB ns at_) 9907 3).toNat by rw[hxs]; simp);have hs:s.length<4:=by have:=congrArg ZAi hxs; simp at this; omega
   have e:=Zru ns at_ k (ZU ns at_) (some (.pl (.int (ZB ns at_)))) (s.map λk=>ZR ((ZzA (ZU ns at_)).map λs=>ZfY (ZB ns (at_+1+k)+61*(k:Int)) (ZU ns at_) s)) none none none none none (by omega) (by simp; omega) (by omega) (by omega);exact⟨_,e,some (.pl (dN k)),by simp⟩)
 subst q1;have lks:∀(o4 o5:Option B),∃r2,Z7 5 Zc8 ((ZzA (Z3 (ZB ns at_) 9887 4).toNat).map dN) [some (.pl (.list (ns.map dI))),some (.pl (.int at_)),some (.pl (.int (ZB ns at_))),some (.pl (.int (ZU ns at_))),o4,o5,some (.ol []),none,none,none,none]=some (.nx r2) /\
   ∃o5 o7 o8,r2=[some (.pl (.list (ns.map dI))),some (.pl (.int at_)),some (.pl (.int (ZB ns at_))),some (.pl (.int (ZU ns at_))),o4,o5,some (.ol ((ZzA (Z3 (ZB ns at_) 9887 4).toNat).map λk=>tupI (Zha ns at_ k))),o7,o8,none,none]:=by
  intro o4 o5;refine Zj2 (i:=5) (body:=Zc8) dN (λ(s:List Nat) r=>∃o5 o7 o8,r=[some (.pl (.list (ns.map dI))),some (.pl (.int at_)),some (.pl (.int (ZB ns at_))),some (.pl (.int (ZU ns at_))),
   o4,o5,some (.ol (s.map λk=>tupI (Zha ns at_ k))),o7,o8,none,none]) (ZzA (Z3 (ZB ns at_) 9887 4).toNat) _ ⟨o5,none,none,rfl⟩ ?_
  rintro s k post r hxs ⟨o5,o7,o8,rfl⟩
  have hk':=ZzP.mp (show k∈ZzA (Z3 (ZB ns at_) 9887 4).toNat by rw[hxs]; simp);have hs:s.length<4:=by have:=congrArg ZAi hxs; simp at this; omega
  obtain⟨r7,r8,e⟩:=ZrS ns at_ k (ZU ns at_) (some (.pl (.int (ZB ns at_)))) o4 (s.map λk=>tupI (Zha ns at_ k)) o7 o8 none none (by omega) (by simp; omega) rfl;exact⟨_,e,some (.pl (dN k)),r7,r8,by simp⟩
 have n3:(1+Z3 (ZB ns at_) 9907 3).toNat<1000000:=by omega
 have nl:(Z3 (ZB ns at_) 9887 4).toNat<1000000:=by omega
 have nm:ZU ns at_<1000000:=by omega
 have hdk:((ZzA (1+Z3 (ZB ns at_) 9907 3).toNat).map λk=>ZR ((ZzA (ZU ns at_)).map λs=>ZfY (ZB ns (at_+1+k)+61*(k:Int)) (ZU ns at_) s))=(Zb5 ns at_).map ZR:=by unfold Zb5; simp
 have hlk:((ZzA (Z3 (ZB ns at_) 9887 4).toNat).map λk=>tupI (Zha ns at_ k))=(ZgH ns at_).map tupI:=by unfold ZgH; simp
 rw[hdk]at f1;simp only[hlk]at lks;have dkl:(Zb5 ns at_).length<10:=by unfold Zb5; simp; omega
 unfold wkV Wk.d ZgF Zpe Zvo;simp only
 by_cases w1:Z3 (ZB ns at_) 9901 3=1
 ·have w1':(Z3 (ZB ns at_) 9901 3==1)=true:=by simp[w1]
  have cut:cutD ((Zb5 ns at_).map ZR) none (some 1)=((Zb5 ns at_).take 1).map ZR:=by unfold cutD sIx;simp
  obtain⟨r2,f2,p5,p7,p8,q2⟩:=lks (some (.ol (ZR ((ZzA (ZU ns at_)).map λk=>wlV (ZB ns (at_+1)) k)::ZR ((ZzA (ZU ns at_)).map λk=>[beV (ZU ns at_) k])::List.take 1 ((Zb5 ns at_).map ZR)))) o5;subst q2;have c2:min 1 (Zb5 ns at_).length+1+1<1000000:=by omega
  have c3:(2:Nat)+min 1 (Zb5 ns at_).length<1000000:=by omega
  by_cases w2:Z3 (ZB ns at_) 9859 3=1
  ·have w2':(Z3 (ZB ns at_) 9859 3==1)=true:=by simp[w2]
   simp[Za7,Zdx,c0,m4,<-hmc,hlen,m3,ok3,Zaa,n3,f1,mw,w1',c1,wk,cut,w1,ml,okl,nl,f2,c7,k7,mb,w2',okm,nm,c8,k8,w2,c2,c3]
  ·have w2':(Z3 (ZB ns at_) 9859 3==1)=false:=by simp[w2]
   simp[Za7,Zdx,c0,m4,<-hmc,hlen,m3,ok3,Zaa,n3,f1,mw,w1',c1,wk,cut,w1,ml,okl,nl,f2,c7,k7,mb,w2',okm,nm,c8,k8,w2,c2,c3]
 ·have w1':(Z3 (ZB ns at_) 9901 3==1)=false:=by simp[w1]
  obtain⟨r2,f2,p5,p7,p8,q2⟩:=lks (some (.ol ((Zb5 ns at_).map ZR))) o5;subst q2
  by_cases w2:Z3 (ZB ns at_) 9859 3=1
  ·have w2':(Z3 (ZB ns at_) 9859 3==1)=true:=by simp[w2]
   simp[Za7,Zdx,c0,m4,<-hmc,hlen,m3,ok3,Zaa,n3,f1,mw,w1',w1,ml,okl,nl,f2,c7,k7,mb,w2',okm,nm,c8,k8,w2]
  ·have w2':(Z3 (ZB ns at_) 9859 3==1)=false:=by simp[w2]
   simp[Za7,Zdx,c0,m4,<-hmc,hlen,m3,ok3,Zaa,n3,f1,mw,w1',w1,ml,okl,nl,f2,c7,k7,mb,w2',okm,nm,c8,k8,w2]
end
end HG
namespace HG
open PySem HM
theorem Zoj{e:EF}{r:HM.Env}{f:D->D}(xs:List D)(h:∀x∈xs,e (some (.pl x)::r)=some (f x)):ZaJ ZZ e r xs=some (xs.map f):=by
 have:=Zbj (e:=e) (r:=r) id f xs h
 rwa [List.map_id]at this
theorem Zob(xs:List D)(p:D->Bool):ZfJ (xs.map λx=>ZAX (p x))=some (xs.map p):=by
 have:=Zf8 (xs.map p)
 rwa [ZzO]at this
def ZhF(d:D)(lo hi:Int):Bool:=match d with
 | .int i=>decide (lo<=i)&&decide (i<=hi)
 | _=>false
def ndD:D->Prop
 | .dict _=>False
 | _=>True
theorem ZgV(d:D)(lo hi:Int)(nd:ndD d:=by trivial):Za6 [d,.int lo,.int hi]=some (.bool (ZhF d lo hi)):=by
 cases d<;>first | exact nd.elim | simp[Za6,Zi1,ZhF]
 rename_i i
 by_cases h:lo<=i<;>simp[h]
def Zd2(d:D)(lo hi:Int):Bool:=match d with
 | .tuple ds=>decide (lo<=(ds.length:Int))&&decide ((ds.length:Int)<=hi)
 | _=>false
theorem ZfE(d:D)(lo hi:Int)(nd:ndD d:=by trivial):Za3 [d,.int lo,.int hi]=some (.bool (Zd2 d lo hi)):=by
 cases d<;>first | exact nd.elim | simp[Za3,Zmj,Zd2]
 rename_i ds
 by_cases h:lo<=(ds.length:Int)<;>simp[h]
def ZcA(many:Int):Int->List D->Bool
 | _,[]=>true
 | l,.int i::r=>(decide (l<=i)&&decide (i<=many-1))&&ZcA many (i+1) r
 | _,_::_=>false
def ZjU(d:D)(many:Int):Bool:=match d with
 | .tuple ds=>ZcA many 0 ds
 | _=>false
theorem ZqJ(d:D)(many:Int):∀(ds:List D) (l:Int) (o:Option B),(∀x∈ds,ndD x) ->
  (ZcA many l ds=true->∃l' o',Z7 3 ZaC ds [some (.pl d),some (.pl (.int many)),some (.pl (.int l)),o]=some (.nx [some (.pl d),some (.pl (.int many)),some (.pl (.int l')),o'])) /\
  (ZcA many l ds=false->Z7 3 ZaC ds [some (.pl d),some (.pl (.int many)),some (.pl (.int l)),o]=some (.rt (.bool false)))
 | [],l,o,_=>⟨λ_=>⟨l,o,rfl⟩,λh=>by simp[ZcA]at h⟩
 | x::ds,l,o,nd=>by
  have key:=ZgV x l (many-1) (nd x (Zzt ..));cases hx:ZhF x l (many-1)with
  | false =>
   have e:ZaC [some (.pl d),some (.pl (.int many)),some (.pl (.int l)),some (.pl x)]=some (.rt (.bool false)):=by rw[hx]at key;simp[ZaC,key]
   have e2:ZcA many l (x::ds)=false:=by cases x<;>simp[ZcA];rename_i i;simp[ZhF]at hx;intro h1 h2;exact absurd (hx h1) (by omega)
   refine⟨λh=>?_,λ_=>?_⟩
   ·rw[e2]at h; cases h
   ·unfold Z7
    show(match ZaC [some (.pl d),some (.pl (.int many)),some (.pl (.int l)),some (.pl x)]with | some (.nx r')=>_ | some (.ct r')=>_ | some (.bk r')=>_ | some (.rt d)=>_ | none=>_)=_;rw[e]
  | true =>
   cases x with
   | int i =>
    have e:ZaC [some (.pl d),some (.pl (.int many)),some (.pl (.int l)),some (.pl (.int i))]=some (.nx [some (.pl d),some (.pl (.int many)),some (.pl (.int (i+1))),some (.pl (.int i))]):=by rw[hx]at key;simp[ZaC,key]
    have e2:ZcA many l (.int i::ds)=ZcA many (i+1) ds:=by have:(decide (l<=i)&&decide (i<=many-1))=true:=hx;simp only[ZcA,this,ZEj]
    obtain⟨a1,a2⟩:=ZqJ d many ds (i+1) (some (.pl (.int i))) λx hx=>nd x (Zzu _ hx);rw[e2];have e3:Z7 3 ZaC (.int i::ds) [some (.pl d),some (.pl (.int many)),some (.pl (.int l)),o]=Z7 3 ZaC ds [some (.pl d),some (.pl (.int many)),some (.pl (.int (i+1))),some (.pl (.int i))]:=by show(match ZaC [some (.pl d),some (.pl (.int many)),some (.pl (.int l)),some (.pl (.int i))]with | some (.nx r')=>_ | some (.ct r')=>_ | some (.bk r')=>_ | some (.rt d)=>_ | none=>_)=_;rw[e]
    rw[e3];exact⟨a1,a2⟩
   | _=>simp[ZhF]at hx
theorem Zjs(d:D)(many:Int)(hl:∀ds,d=.tuple ds->ds.length<1000000/\∀x∈ds,ndD x)(nd:ndD d:=by trivial):Zad [d,.int many]=some (.bool (ZjU d many)):=by
 cases d with
 | tuple ds =>
  obtain⟨hl,hn⟩:=hl ds rfl;obtain⟨a1,a2⟩:=ZqJ (.tuple ds) many ds 0 none hn;cases h:ZcA many 0 ds with
  | true=>obtain⟨l',o',e⟩:=a1 h;simp[Zad,ZeH,ZjU,h,hl,e]
  | false=>have e:=a2 h;simp[Zad,ZeH,ZjU,h,hl,e]
 | dict _=>exact nd.elim
 | _=>simp[Zad,ZeH,ZjU]
def small:D->Prop
 | .tuple ds=>ds.length<1000000/\∀x∈ds,ndD x
 | .dict _=>False
 | _=>True
theorem Zlp{c:List Int}(h:(c.map dI).length<1000000):small (tupI c):=⟨h,λx hx=>by obtain⟨i,_,rfl⟩:=Zzx.mp hx; trivial⟩
theorem Zoz{d:D}(h:small d):ndD d:=by cases d<;>first | exact h.elim | trivial
theorem Zs9{d:D}(h:small d):∀ds,d=.tuple ds->ds.length<1000000/\∀x∈ds,ndD x:=by rintro ds rfl; exact h
def ZjA(d:D)(many:Int):Bool:=Zd2 d many many&&(match d with | .tuple ds=>ds.all λc=>ZjU c many | _=>false)
def Zlo(d:D):Prop:=match d with | .tuple ds=>ds.length<1000000/\∀x∈ds,small x | .dict _=>False | _=>True
theorem Zvc{d:D}(h:Zlo d):ndD d:=by cases d<;>first | exact h.elim | trivial
theorem Zrz(d:D)(many:Int)(hs:Zlo d):Zcv [d,.int many]=some (.bool (ZjA d many)):=by
 have h1:=ZfE d many many (Zvc hs);cases hr:Zd2 d many many with
 | false=>rw[hr]at h1; simp[Zcv,Zh2,h1,ZjA,hr]
 | true =>
  rw[hr]at h1;cases d with
  | tuple ds =>
   have hs':ds.length<1000000/\∀x∈ds,small x:=hs;simp[Zcv,Zh2,h1,ZjA,hr,hs'.1];rw[Zoj (f:=λc=>.bool (ZjU c many))]
   ·simp[Zob]
   ·intro x hx
    simp[Zjs x many (Zs9 (hs'.2 x hx)) (Zoz (hs'.2 x hx))]
  | _=>simp[Zd2]at hr
def ZjE(d:D)(many:Int):Bool:=Zd2 d many many&&(match d with | .tuple ds=>ds.all λc=>ZhF c 0 9 | _=>false)
theorem Zr9(d:D)(many:Int)(hs:small d):Zcw [d,.int many]=some (.bool (ZjE d many)):=by
 have h1:=ZfE d many many (Zoz hs);cases hr:Zd2 d many many with
 | false=>rw[hr]at h1; simp[Zcw,Zh3,h1,ZjE,hr]
 | true =>
  rw[hr]at h1;cases d with
  | tuple ds =>
   have hs':ds.length<1000000:=hs.1;simp[Zcw,Zh3,h1,ZjE,hr,hs'];rw[Zoj (f:=λc=>.bool (ZhF c 0 9))]
   ·simp[Zob]
   ·intro x hx
    simp[ZgV x 0 9 (hs.2 x hx)]
  | _=>simp[Zd2]at hr
structure Wk.V(w:Wk):Prop where
 m1:1<=w.many
 m2:w.many<=8
 d1:1<=w.deeds.length
 d2:w.deeds.length<=5
 dl:∀dd∈w.deeds,dd.length=w.many
 dc:∀dd∈w.deeds,∀c∈dd,Cr w.many c
 l2:w.looks.length<=4
 ll:∀l∈w.looks,l.length=w.many
 lc:∀l∈w.looks,∀x∈l,0<=x/\x<=9
 b1:w.beg≠[]
 bc:Cr w.many w.beg
 gc:Cr w.many w.goal
theorem Wk.Ok.v{w:Wk}(h:w.Ok):Wk.V w:=by obtain⟨m1,m2,d1,d2,dl,dc,l2,ll,lc,b1,bc,g1,gc⟩:=h;exact⟨by omega,by omega,d1,by omega,dl,dc,by omega,ll,lc,b1,bc,gc⟩
theorem Zmi(n:Nat):∀(c:List Int) (l:Int),c.Pairwise (· < ·)->(∀x∈c,l<=x/\x<(n:Int))->ZcA n l (c.map dI)=true
 | [],_,_,_=>rfl
 | x::c,l,hp,hb=>by have h1:=hb x (Zzt ..);have ih:=Zmi n c (x+1) (ZAc.mp hp).2 λy hy=>⟨by have:=(ZAc.mp hp).1 y hy; omega,(hb y (Zzu _ hy)).2⟩;show((decide (l<=x)&&decide (x<=(n:Int)-1))&&ZcA n (x+1) (c.map dI))=true;rw[ih,decide_eq_true h1.1,decide_eq_true (show x<=(n:Int)-1 by omega)];rfl
theorem Zju{n:Nat}{c:List Int}(h:Cr n c)(hn:n<1000):Zad [tupI c,.int n]=some (.bool true):=by have hl:=h.len;rw[Zjs (tupI c) n (by intro ds e; cases e; exact⟨by simp; omega,λx hx=>by obtain⟨i,_,rfl⟩:=Zzx.mp hx; trivial⟩)];show some (ZAX (ZcA n 0 (c.map dI)))=_;rw[Zmi n c 0 h.1 h.2]
theorem Zqi{n:Nat}{c:List Int}(h:Cr n c)(h0:c≠[])(hn:n<1000):Zdd [tupI c,.int n]=some (.bool true):=by
 have h1:=Zju h hn;have h2:(0:Int)<(c.length:Int):=by have:=ZC9.mpr h0;omega
 simp[Zdd,Zkk,h1];exact ZC9.mpr h0
theorem Zft{w:Wk}(h:Wk.V w){dd:List (List Int)}(hd:dd∈w.deeds):Zcv [ZR dd,.int w.many]=some (.bool true):=by
 have hl:=h.dl dd hd;have m2:=h.m2;rw[Zrz (ZR dd) _ (show(dd.map tupI).length<1000000/\∀x∈dd.map tupI,small x by refine⟨by simp; omega,λx hx=>?_⟩;obtain⟨c,hc,rfl⟩:=Zzx.mp hx;have:=(h.dc dd hd c hc).len;refine Zlp ?_;simp; omega)];have e:ZjA (ZR dd) w.many=true:=by unfold ZjA ZR Zd2;simp[hl];intro c hc;exact Zmi w.many c 0 (h.dc dd hd c hc).1 (h.dc dd hd c hc).2
 rw[e]
theorem Zwp{w:Wk}(h:Wk.V w){l:List Int}(hd:l∈w.looks):Zcw [tupI l,.int w.many]=some (.bool true):=by
 have hl:=h.ll l hd;have m2:=h.m2;rw[Zr9 (tupI l) _ (Zlp (show(l.map dI).length<1000000 by simp; omega))];have e:ZjE (tupI l) w.many=true:=by unfold ZjE Zd2;simp[hl];intro x hx;have:=h.lc l hd x hx;simp[ZhF];omega
 rw[e]
theorem allTrue(α:Type)(xs:List α):ZfJ (xs.map λ_=>ZAX true)=some (xs.map λ_=>true):=by
 have:=Zf8 (xs.map λ_=>true)
 rwa [ZzO]at this
theorem ZoG{w:Wk}(h:Wk.V w):ZcN [.tuple (w.deeds.map ZR),.int w.many]=some (.bool true):=by
 have h1:=ZfE (.tuple (w.deeds.map ZR)) 1 5;have d1:=h.d1;have d2:=h.d2;have e:Zd2 (.tuple (w.deeds.map ZR)) 1 5=true:=by simp[Zd2]; omega
 rw[e]at h1;have hl:w.deeds.length<1000000:=by omega
 simp[ZcN,Zi2,h1,hl];rw[Zbj ZR (λ_=>.bool true)]
 ·simp[allTrue]
 ·intro x hx
  simp[Zft h hx]
theorem Zo1{w:Wk}(h:Wk.V w):ZcO [.tuple (w.looks.map tupI),.int w.many]=some (.bool true):=by
 have h1:=ZfE (.tuple (w.looks.map tupI)) 0 4;have d2:=h.l2;have e:Zd2 (.tuple (w.looks.map tupI)) 0 4=true:=by simp[Zd2]; omega
 rw[e]at h1;have hl:w.looks.length<1000000:=by omega
 simp[ZcO,Zi3,h1,hl];rw[Zbj tupI (λ_=>.bool true)]
 ·simp[allTrue]
 ·intro x hx
  simp[Zwp h hx]
theorem Zoh{w:Wk}(h:Wk.V w):ZcP [w.d]=some (.bool true):=by
 have h1:=ZfE w.d 5 5;have e:Zd2 w.d 5 5=true:=by simp[Zd2,Wk.d]
 rw[e]at h1;have h2:=ZgV (.int w.many) 1 8;have m1:=h.m1;have m2:=h.m2;have e2:ZhF (.int w.many) 1 8=true:=by simp[ZhF]; omega
 rw[e2]at h2;have h3:=ZoG h;have h4:=Zo1 h;have h5:=Zqi h.bc h.b1 (by omega);have h6:=Zju h.gc (by omega);unfold Wk.d at h1 ⊢;simp[ZcP,Zi4,h1,h2,h3,h4,h5,h6]
theorem ZrI{w:Wk}(h:Wk.V w):ZdP [w.d]=some w.d:=by simp[ZdP,Zk8,Zoh h]
theorem Zhy(w:Wk):Zbp [w.d]=some (.tuple (w.deeds.map ZR)):=by simp[Zbp,Zkl,Wk.d]
theorem Zky(w:Wk):Zb9 [w.d]=some (.tuple (w.looks.map tupI)):=by simp[Zb9,Zkm,Wk.d]
theorem ZkR{w:Wk}(h:Wk.V w){ls:List Int}(hl:Cr w.looks.length ls):ZbE [w.d,tupI ls]=some (tupI ls):=by have l2:=h.l2;have h1:=Zju hl (by omega);simp[ZbE,Zgj,Zky,h1]
end HG
namespace HG
open PySem HM
def ZbQ(w:Wk)(d s:Int):List Int:=(w.deeds[d.toNat]?.getD [])[s.toNat]?.getD []
def Zlh(w:Wk)(l s:Int):Int:=(w.looks[l.toNat]?.getD [])[s.toNat]?.getD 0
def Zap(w:Wk)(c:List Int)(d:Int):Bool:=c.all λs=>decide (0<(ZbQ w d s).length)
def Zbg(w:Wk)(c:List Int)(d:Int):List Int:=c.flatMap λs=>ZbQ w d s
def Zw(w:Wk)(c:List Int)(d:Int):List Int:=sortI (dedup [] (Zbg w c d))
def ZC(w:Wk)(ls:List Int)(s:Int):List Int:=ls.map λl=>Zlh w l s
theorem ZlT{w:Wk}{d:Int}(h0:0<=d)(h1:d<w.deeds.length):atD (w.deeds.map ZR) d=some (ZR (w.deeds[d.toNat]?.getD [])):=by
 refine Zj5 h0 ?_;have h:d.toNat<w.deeds.length:=by omega
 simp[h,ZAZ]
theorem ZoS{w:Wk}(hv:Wk.V w){d s:Int}(h0:0<=d)(h1:d<w.deeds.length)(h2:0<=s)(h3:s<w.many):atD ((w.deeds[d.toNat]?.getD []).map tupI) s=some (tupI (ZbQ w d s)):=by
 refine Zj5 h2 ?_;have h:d.toNat<w.deeds.length:=by omega
 have hl:(w.deeds[d.toNat]?.getD []).length=w.many:=by
  have:w.deeds[d.toNat]?.getD []=w.deeds[d.toNat]:=by simp[h,ZAZ]
  rw[this];exact hv.dl _ (ZA4 h)
 have h':s.toNat<(w.deeds[d.toNat]?.getD []).length:=by omega
 unfold ZbQ;rw[ZzR,ZzD h'];simp[ZAZ,h']
theorem Zop{w:Wk}(hv:Wk.V w){d s:Int}(h0:0<=d)(h1:d<w.deeds.length)(h2:0<=s)(h3:s<w.many):Cr w.many (ZbQ w d s):=by
 have h:d.toNat<w.deeds.length:=by omega
 have e:w.deeds[d.toNat]?.getD []=w.deeds[d.toNat]:=by simp[h,ZAZ]
 have hl:=hv.dl _ (ZA4 h);unfold ZbQ;rw[e];have h':s.toNat<(w.deeds[d.toNat]).length:=by omega
 have e2:(w.deeds[d.toNat])[s.toNat]?.getD []=(w.deeds[d.toNat])[s.toNat]:=by simp[h',ZAZ]
 rw[e2];exact hv.dc _ (ZA4 h) _ (ZA4 h')
theorem ZqZ{w:Wk}{l:Int}(h0:0<=l)(h1:l<w.looks.length):atD (w.looks.map tupI) l=some (tupI (w.looks[l.toNat]?.getD [])):=by
 refine Zj5 h0 ?_;have h:l.toNat<w.looks.length:=by omega
 simp[h,ZAZ]
theorem ZqV{w:Wk}(hv:Wk.V w){l s:Int}(h0:0<=l)(h1:l<w.looks.length)(h2:0<=s)(h3:s<w.many):atD ((w.looks[l.toNat]?.getD []).map dI) s=some (.int (Zlh w l s)):=by
 refine Zj5 h2 ?_;have h:l.toNat<w.looks.length:=by omega
 have hl:(w.looks[l.toNat]?.getD []).length=w.many:=by
  have:w.looks[l.toNat]?.getD []=w.looks[l.toNat]:=by simp[h,ZAZ]
  rw[this];exact hv.ll _ (ZA4 h)
 have h':s.toNat<(w.looks[l.toNat]?.getD []).length:=by omega
 unfold Zlh;rw[ZzR,ZzD h'];simp[ZAZ,h']
theorem ZrC{w:Wk}(hv:Wk.V w){ls:List Int}(hl:Cr w.looks.length ls){s:Int}(h2:0<=s)(h3:s<w.many):ZdQ [w.d,tupI ls,.int s]=some (tupI (ZC w ls s)):=by
 have l2:=hv.l2;have hlen:=hl.len;have hb:ls.length<1000000:=by omega
 simp[ZdQ,Zk9,hb];rw[Zbj dI (λl=>dI (Zlh w l s))]
 ·simp[ZC]
 ·intro l hl'
  have hb:=hl.2 l hl';simp[Zky,ZqZ hb.1 hb.2,ZqV hv hb.1 hb.2 h2 h3]
theorem Zma{w:Wk}(hv:Wk.V w){c:List Int}(hc:Cr w.many c){d:Int}(h0:0<=d)(h1:d<w.deeds.length):Zcc [w.d,tupI c,.int d]=some (.bool (Zap w c d)):=by
 have m2:=hv.m2;have hlen:=hc.len;have hb:c.length<1000000:=by omega
 simp[Zcc,ZhO,Zhy,ZlT h0 h1,hb];rw[Zbj dI (λs=>.bool (decide (0<(ZbQ w d s).length)))]
 ·have e:=Zf8 (c.map λs=>decide (0<(ZbQ w d s).length))
  rw[ZzO]at e;have e':((λb=>ZAX b)∘λs=>decide (0<(ZbQ w d s).length))=λs=>ZAX (decide (0<(ZbQ w d s).length)):=rfl;rw[e']at e;simp[e,Zap]
 ·intro s hs
  have hb:=hc.2 s hs;simp[ZR,ZoS hv h0 h1 hb.1 hb.2]
def doV(w:Wk)(c:List Int):List Int:=((ZzA w.deeds.length).filter λ(d:Nat)=>Zap w c (d:Int)).map λ(k:Nat)=>(k:Int)
theorem Znj{w:Wk}(hv:Wk.V w){c:List Int}(hc:Cr w.many c):Zcn [w.d,tupI c]=some (.list ((doV w c).map dI)):=by
 have d2:=hv.d2;have hok:okR (w.deeds.length:Int)=true:=ZcZ (by omega);have hb:w.deeds.length<1000000:=by omega
 simp[Zcn,ZiQ,Zhy,hok,Zaa,hb];rw[ZbY dN (λk:Nat=>Zap w c k) dN]
 ·simp[doV]
 ·intro k hk
  have hk':=ZzP.mp hk;simp[Zma hv hc (show(0:Int)<=(k:Int) by omega) (by omega)]
 ·intro k hk _
  simp
def ZcJ(acc:List Int)(x:Int):List Int:=if acc.contains x then acc else acc++[x]
theorem Zga:∀(l acc:List Int),dedup acc l=l.foldl ZcJ acc
 | [],acc=>rfl
 | x::l,acc=>by
  unfold dedup;rw[ZAv];unfold ZcJ;split
  ·rw[Zga l acc]; rfl
  ·rw[Zga l (acc++[x])]; rfl
def tru(acc:List Int):List (Ky × D):=acc.map λi=>(ZBk i,ZAX true)
theorem Zvu(acc:List Int)(x:Int):putD (tru acc) (ZBk x) (ZAX true)=tru (ZcJ acc x):=by
 unfold putD ZcJ tru
 by_cases h:x∈acc
 ·have e1:((acc.map λi=>((ZBk i:Ky),ZAX true)).any λp=>decide (p.1=ZBk x))=true:=by
   simp; exact h
  have e2:acc.contains x=true:=by simpa using h
  rw[if_pos e1,if_pos e2,ZzO];refine ZAJ λi _=>?_;simp
 ·have e1:¬((acc.map λi=>((ZBk i:Ky),ZAX true)).any λp=>decide (p.1=ZBk x))=true:=by
   simp; exact h
  have e2:¬acc.contains x=true:=by simpa using h
  rw[if_neg e1,if_neg e2];simp
theorem ZmC(acc:List Int)(x:Int):(ZcJ acc x).length<=acc.length+1:=by unfold ZcJ; split<;>simp
theorem ZoQ:∀(l acc:List Int),(l.foldl ZcJ acc).length<=acc.length+l.length
 | [],acc=>by simp
 | x::l,acc=>by rw[ZAv];have:=ZoQ l (ZcJ acc x);have:=ZmC acc x;simp; omega
theorem Zti(e0 e1 e2 e3 e5:Option B):∀(l acc:List Int) (o:Option B),acc.length+l.length<1000000 ->
  ∃o',Z7 6 ZeI (l.map dI) [e0,e1,e2,e3,some (.ok (tru acc)),e5,o]=some (.nx [e0,e1,e2,e3,some (.ok (tru (l.foldl ZcJ acc))),e5,o'])
 | [],acc,o,_=>⟨o,rfl⟩
 | x::l,acc,o,h=>by
  rw[ZzG]at h;have hb:acc.length<1000000:=by omega
  have e:ZeI [e0,e1,e2,e3,some (.ok (tru acc)),e5,some (.pl (dI x))]=some (.nx [e0,e1,e2,e3,some (.ok (tru (ZcJ acc x))),e5,some (.pl (dI x))]):=by
   have hl:(tru acc).length<1000000:=by unfold tru; simp; exact hb
   simp[ZeI,hl,Zvu]
  have hd:=ZmC acc x;obtain⟨o',e'⟩:=Zti e0 e1 e2 e3 e5 l (ZcJ acc x) (some (.pl (dI x))) (by omega);refine⟨o',?_⟩;rw[Zzw,ZAv,<-e'];unfold Z7;show(match ZeI [e0,e1,e2,e3,some (.ok (tru acc)),e5,some (.pl (dI x))]with | some (.nx r')=>_ | some (.ct r')=>_ | some (.bk r')=>_ | some (.rt d)=>_ | none=>_)=_;rw[e];cases l<;>rfl
theorem Zs0{w:Wk}(hv:Wk.V w){d:Int}(h0:0<=d)(h1:d<w.deeds.length)(e1 e2:Option B):∀(c acc:List Int) (o5 o6:Option B),(∀s∈c,0<=s/\s<(w.many:Int))->acc.length+c.length*10<100000 ->
  ∃o5' o6',Z7 5 ZeJ (c.map dI) [some (.pl w.d),e1,e2,some (.pl (ZR (w.deeds[d.toNat]?.getD []))),some (.ok (tru acc)),o5,o6]=some (.nx [some (.pl w.d),e1,e2,some (.pl (ZR (w.deeds[d.toNat]?.getD []))),some (.ok (tru ((Zbg w c d).foldl ZcJ acc))),o5',o6'])
 | [],acc,o5,o6,_,_=>⟨o5,o6,rfl⟩
 | s::c,acc,o5,o6,hs,hl=>by
  rw[ZzG]at hl;have hb:=hs s (Zzt ..);have hr:=(Zop hv h0 h1 hb.1 hb.2).len;have m2:=hv.m2;have hrl:(ZbQ w d s).length<1000000:=by omega
  obtain⟨o',e⟩:=Zti (some (.pl w.d)) e1 e2 (some (.pl (ZR (w.deeds[d.toNat]?.getD [])))) (some (.pl (dI s))) (ZbQ w d s) acc o6 (by omega);have e':ZeJ [some (.pl w.d),e1,e2,some (.pl (ZR (w.deeds[d.toNat]?.getD []))),some (.ok (tru acc)),some (.pl (dI s)),o6]=some (.nx [some (.pl w.d),e1,e2,some (.pl (ZR (w.deeds[d.toNat]?.getD []))),some (.ok (tru ((ZbQ w d s).foldl ZcJ acc))),some (.pl (dI s)),o']):=by unfold ZR at e ⊢;simp[ZeJ,ZoS hv h0 h1 hb.1 hb.2,hrl,e]
  have hf:=ZoQ (ZbQ w d s) acc;obtain⟨p5,p6,ih⟩:=Zs0 hv h0 h1 e1 e2 c ((ZbQ w d s).foldl ZcJ acc) (some (.pl (dI s))) o' (λx hx=>hs x (Zzu _ hx)) (by omega);refine⟨p5,p6,?_⟩;have ef:Zbg w (s::c) d=ZbQ w d s++Zbg w c d:=rfl;rw[ef,List.foldl_append,<-ih,Zzw];show(match ZeJ [some (.pl w.d),e1,e2,some (.pl (ZR (w.deeds[d.toNat]?.getD []))),some (.ok (tru acc)),some (.pl (dI s)),o6]with | some (.nx r')=>_ | some (.ct r')=>_ | some (.bk r')=>_ | some (.rt d)=>_ | none=>_)=_;rw[e']
theorem Ztz{w:Wk}(hv:Wk.V w){c:List Int}(hc:Cr w.many c){d:Int}(h0:0<=d)(h1:d<w.deeds.length):∀x∈Zbg w c d,0<=x/\x<(w.many:Int):=by intro x hx;obtain⟨s,hs,h⟩:=ZBR.mp hx;exact(Zop hv h0 h1 (hc.2 s hs).1 (hc.2 s hs).2).2 x h
theorem ZcW{w:Wk}(hv:Wk.V w){c:List Int}(hc:Cr w.many c){d:Int}(h0:0<=d)(h1:d<w.deeds.length):Cr w.many (Zw w c d):=by refine Ziu (ZfD _ _ (by simp)) λx hx=>Ztz hv hc h0 h1 x ?_;rw[ZfF]at hx;simpa using hx
theorem Ztv{w:Wk}(hv:Wk.V w){c:List Int}(hc:Cr w.many c){d:Int}(h0:0<=d)(h1:d<w.deeds.length):Zdv [w.d,tupI c,.int d]=some (tupI (Zw w c d)):=by
 have m2:=hv.m2;have hlen:=hc.len;have hb:c.length<1000000:=by omega
 obtain⟨o5,o6,e⟩:=Zs0 hv h0 h1 (some (.pl (tupI c))) (some (.pl (.int d))) c [] none none hc.2 (by simp; omega);have hl:(dedup [] (Zbg w c d)).length<64:=by have h:=(ZcW hv hc h0 h1).len;have:=(sortI_perm (dedup [] (Zbg w c d))).length_eq;unfold Zw at h;omega
 have hs:=ZiL _ hl;rw[Zga]at hs;have ek:(tru ((Zbg w c d).foldl ZcJ [])).map (λp=>ZaM p.1)=((Zbg w c d).foldl ZcJ []).map dI:=by unfold tru;rw[ZzO];rfl
 simp[Zdv,Zmk,Zhy,ZlT h0 h1,hb];rw[show some (B.ok [])=some (B.ok (tru [])) from rfl,e];simp[ek,hs,Zw,Zga]
end HG
namespace HG
open PySem HM
abbrev Gs:=List (List Int × List Int)
abbrev Z8(k:List Int):List Ky:=k.map ZBk
def ZaK(g:Gs):List (List Ky × List D):=g.map λp=>(Z8 p.1,p.2.map dI)
theorem Zek{a b:List Int}(h:Z8 a=Z8 b):a=b:=by
 induction a generalizing b with
 | nil=>cases b with
  | nil=>rfl
  | cons _ _=>simp at h
 | cons x a ih=>cases b with
  | nil=>simp at h
  | cons y b=>simp at h;rw[h.1,ih (by simpa using h.2)]
theorem ZlQ(a b:List Int):(Z8 a=Z8 b)↔a=b:=⟨Zek,λh=>by rw[h]⟩
theorem ZrY(k:List Int):ZlX (k.map dI)=some (Z8 k):=by
 induction k with
 | nil=>rfl
 | cons x k ih=>show(ZlX (k.map dI)).map (ZBk x::·)=_;rw[ih];rfl
theorem ZaA(k:List Int):ZaT (tupI k)=some (Z8 k):=ZrY k
theorem ZgQ(g:Gs)(k:List Int):Zg (ZaK g) (Z8 k)=(Zg g k).map λp=>p.map dI:=by
 unfold Zg ZaK;rw[ZEe];have e:((λp:List Ky × List D=>decide (p.1=Z8 k))∘λp:List Int × List Int=>(Z8 p.1,p.2.map dI))=λp=>decide (p.1=k):=by
  funext p
  simp only[ZCN];exact decide_eq_decide.mpr (ZlQ p.1 k)
 rw[e];cases g.find? λp=>decide (p.1=k)<;>rfl
theorem Zqz(g:Gs)(k:List Int):ZbT (ZaK g) (Z8 k)=ZaK (ZbT g k):=by
 unfold ZbT;rw[ZgQ];cases Zg g k with
 | none=>simp[ZaK]
 | some p=>rfl
theorem Zj9(k:List Int)(s:Int):∀(g:Gs),ZdH (ZaK g) (Z8 k) (dI s)=ZaK (ZdH g k s)
 | []=>rfl
 | (x,p)::g=>by
  show ZdH ((Z8 x,p.map dI)::ZaK g) (Z8 k) (dI s)=ZaK (ZdH ((x,p)::g) k s);unfold ZdH
  by_cases h:x=k
  ·rw[if_pos (by rw[h]),if_pos h]
   simp[ZaK]
  ·rw[if_neg (λe=>h (Zek e)),if_neg h,Zj9 k s g]
   rfl
def Zd3(g:Gs)(k:List Int)(s:Int):Gs:=ZdH (ZbT g k) k s
theorem Zfu(k:List Int):Zg ([]:Gs) k=none:=rfl
theorem Zcb(x:List Int)(p:List Int)(g:Gs)(k:List Int):Zg ((x,p)::g) k=if x=k then some p else Zg g k:=by
 unfold Zg;rw[ZAn]
 by_cases h:x=k<;>simp[h]
theorem ZoT(k:List Int)(s:Int)(k':List Int):∀(g:Gs),Zg (ZdH g k s) k'=if k=k' then(Zg g k).map (·++[s])else Zg g k'
 | []=>by simp[ZdH,Zfu]
 | (x,p)::g=>by
  unfold ZdH
  by_cases h:x=k
  ·subst h
   rw[if_pos rfl,Zcb,Zcb,Zcb,if_pos rfl];split<;>rfl
  ·rw[if_neg h,Zcb,ZoT k s k' g,Zcb,Zcb,if_neg h]
   by_cases h2:x=k'
   ·subst h2
    rw[if_pos rfl,if_pos rfl,if_neg (ZAx h)]
   ·rw[if_neg h2,if_neg h2]
theorem Zlu(x:List Int)(p:List Int)(k:List Int):∀(g:Gs),Zg (g++[(x,p)]) k=match Zg g k with | some q=>some q | none=>if x=k then some p else none
 | []=>by simp[Zfu,Zcb]
 | (y,q)::g=>by rw[ZDL,Zcb,Zcb,Zlu x p k g];split<;>rfl
theorem Zil(g:Gs)(k k':List Int):Zg (ZbT g k) k'=if k=k' then some ((Zg g k).getD [])else Zg g k':=by
 unfold ZbT;cases h:Zg g k with
 | some p =>
  by_cases e:k=k'
  ·subst e; rw[if_pos rfl]; exact h
  ·rw[if_neg e]
 | none =>
  show Zg (g++[(k,[])]) k'=_;rw[Zlu]
  by_cases e:k=k'
  ·subst e; rw[if_pos rfl,if_pos rfl,h]; rfl
  ·rw[if_neg e,if_neg e]
   cases Zg g k'<;>rfl
theorem ZuS(g:Gs)(k k':List Int)(s:Int):Zg (Zd3 g k s) k'=if k=k' then some ((Zg g k).getD []++[s])else Zg g k':=by
 unfold Zd3;rw[ZoT,Zil,Zil,if_pos rfl]
 by_cases e:k=k'
 ·rw[if_pos e,if_pos e]; rfl
 ·rw[if_neg e,if_neg e,if_neg e]
theorem Zpc(k:List Int)(s:Int):∀(g:Gs),(ZdH g k s).map (·.1)=g.map (·.1)
 | []=>rfl
 | (x,p)::g=>by
  unfold ZdH;split
  ·rfl
  ·rw[Zzw,Zpc k s g]; rfl
theorem Zk3(g:Gs)(k:List Int):(Zg g k).isSome=true↔k∈g.map (·.1):=by
 induction g with
 | nil=>simp[Zfu]
 | cons p g ih =>
  obtain⟨x,q⟩:=p;rw[Zcb,Zzw,ZzH]
  by_cases h:x=k
  ·simp[h]
  ·rw[if_neg h,ih]
   constructor
   ·exact .inr
   ·rintro (e | e)
    ·exact absurd e.symm h
    ·exact e
theorem Zvb(g:Gs)(k:List Int):(ZbT g k).map (·.1)=if k∈g.map (·.1)then g.map (·.1)else g.map (·.1)++[k]:=by
 unfold ZbT;cases h:Zg g k with
 | some p=>rw[if_pos ((Zk3 g k).mp (by rw[h]; rfl))]
 | none=>rw[if_neg (λm=>by have:=(Zk3 g k).mpr m; rw[h]at this; cases this)];simp
theorem Zut(g:Gs)(k:List Int)(s:Int):(Zd3 g k s).map (·.1)=if k∈g.map (·.1)then g.map (·.1)else g.map (·.1)++[k]:=by unfold Zd3;rw[Zpc,Zvb]
def Zdq(f:Int->List Int)(c:List Int):Gs:=c.foldl (λg s=>Zd3 g (f s) s) []
structure Grp(f:Int->List Int)(pre:List Int)(g:Gs):Prop where
 nd:(g.map (·.1)).Nodup
 look:∀k,Zg g k=if k∈pre.map f then some (pre.filter λs=>f s==k)else none
theorem Grp.mem{f:Int->List Int}{pre:List Int}{g:Gs}(h:Grp f pre g)(k:List Int):k∈g.map (·.1)↔k∈pre.map f:=by
 rw[<-Zk3,h.look];split
 ·rename_i m; exact⟨λ_=>m,λ_=>rfl⟩
 ·rename_i m; exact⟨(λe=>by cases e),λe=>absurd e m⟩
theorem Grp.step{f:Int->List Int}{pre:List Int}{g:Gs}(h:Grp f pre g)(s:Int):Grp f (pre++[s]) (Zd3 g (f s) s):=by
 refine⟨?_,λk=>?_⟩
 ·rw[Zut]
  split
  ·exact h.nd
  ·rename_i m
   rw[ZBc];exact⟨h.nd,by simp,λa ha b hb=>by simp at hb; subst hb; exact λe=>m (e▸ha)⟩
 ·rw[ZuS,h.look,h.look,Zz0,List.filter_append]
  by_cases e:f s=k
  ·subst e
   have e0:f s∈pre.map f++[s].map f:=by simp
   rw[if_pos rfl,if_pos e0];have e2:[s].filter (λx=>f x==f s)=[s]:=by simp
   rw[e2];split
   ·rfl
   ·rename_i m
    have:pre.filter (λx=>f x==f s)=[]:=by rw[ZCJ];intro a ha q;exact m (Zzx.mpr ⟨a,ha,by simpa using q⟩)
    rw[this]; rfl
  ·have e2:[s].filter (λx=>f x==k)=[]:=by simp[e]
   rw[if_neg e,e2,Zz8];have e3:(k∈pre.map f++[s].map f)↔k∈pre.map f:=by
    rw[ZzX]
    constructor
    ·rintro (q | q)
     ·exact q
     ·simp at q; exact absurd q.symm e
    ·exact .inl
   by_cases q:k∈pre.map f
   ·rw[if_pos q,if_pos (e3.mpr q)]
   ·rw[if_neg q,if_neg (λz=>q (e3.mp z))]
theorem ZqQ(f:Int->List Int):∀(c pre:List Int) (g:Gs),Grp f pre g->Grp f (pre++c) (c.foldl (λg s=>Zd3 g (f s) s) g)
 | [],pre,g,h=>by rw[Zz8]; exact h
 | s::c,pre,g,h=>by have:=ZqQ f c (pre++[s]) _ (h.step s);rw[ZAM]at this;exact this
theorem ZcV(f:Int->List Int)(c:List Int):Grp f c (Zdq f c):=by
 have:=ZqQ f c [] [] ⟨ZA9,λk=>by simp[Zfu]⟩
 rwa [ZBs]at this
def Zv(w:Wk)(ls c:List Int):Gs:=(Zee ((Zdq (ZC w ls) c).map (·.1))).map λk=>(k,c.filter λs=>ZC w ls s==k)
def ZI(p:List Int × List Int):D:=.tuple [tupI p.1,tupI p.2]
theorem ZtY(ks:List (List Int)):Zj8 (ks.map tupI)=some ks:=by
 induction ks with
 | nil=>rfl
 | cons k ks ih=>show(match ZaP (k.map dI)with | some ns=>(Zj8 (ks.map tupI)).map (ns::·) | none=>none)=_;rw[ZbX,ih];rfl
theorem ZrH(ks:List (List Int))(h:ks.length<64)(hn:ks.length<2\/∀k∈ks,k≠[]):ZfC (ks.map tupI)=some ((Zee ks).map tupI):=by
 unfold ZfC;rw[if_pos (by rw[Zzr]; exact h)];cases ks with
 | nil=>simp[ZaP,sortI,Zee,ofInts]
 | cons k ks =>
  have e:ZaP (ZDb tupI (k::ks))=none:=rfl;rw[e,ZtY];have e2:(decide ((ZDb tupI (k::ks)).length<2)||(k::ks).all λt=>!t.isEmpty)=true:=by
   rw[ZA2,Zzr];rcases hn with q | q
   ·exact .inl (by simpa using q)
   ·refine .inr (Zzz.mpr λt ht=>?_)
    have:=q t ht;cases t with
    | nil=>exact absurd rfl this
    | cons _ _=>rfl
  dsimp only;rw[if_pos e2];unfold ZfG;simp only[Zgg]
theorem Zbf(ks:List (List Int)):(Zee ks).Perm ks:=ZCg ks _
theorem ZqS(w:Wk)(ls c:List Int)(hc:c.length<60):ZfC ((ZaK (Zdq (ZC w ls) c)).map λp=>Zz1 (p.1.map ZaM))=some ((Zee ((Zdq (ZC w ls) c).map (·.1))).map tupI):=by
 have hg:=ZcV (ZC w ls) c;have e:((ZaK (Zdq (ZC w ls) c)).map λp=>Zz1 (p.1.map ZaM))=((Zdq (ZC w ls) c).map (·.1)).map tupI:=by unfold ZaK;rw[ZzO,ZzO];refine ZAJ λp _=>?_;simp only[ZCN];unfold Z8 tupI;rw[ZzO];rfl
 rw[e];have hsub:∀k∈(Zdq (ZC w ls) c).map (·.1),k∈c.map (ZC w ls):=λk hk=>(hg.mem k).mp hk;refine ZrH _ ?_ ?_
 ·have:(Zdq (ZC w ls) c).map (·.1) ⊆ c.map (ZC w ls):=hsub
  have:=(ZAH hg.nd this);rw[Zzr,Zzr]at this;rw[Zzr];omega
 ·cases ls with
  | nil =>
   left
   have:(Zdq (ZC w []) c).map (·.1) ⊆ [[]]:=λk hk=>by obtain⟨s,_,e⟩:=Zzx.mp (hsub k hk);rw[<-e];simp[ZC]
   have:=(ZAH hg.nd this);simp at this ⊢;omega
  | cons l ls =>
   right
   intro k hk e;obtain⟨s,_,e'⟩:=Zzx.mp (hsub k hk);rw[e]at e';simp[ZC]at e'
theorem Zlg(w:Wk)(ls c:List Int)(e:EF)(r:HM.Env)(h:∀k∈(Zdq (ZC w ls) c).map (·.1),e (some (.pl (tupI k))::r)=some (.tuple [tupI k,.tuple ((c.filter λs=>ZC w ls s==k).map dI)])) :
  ZaJ ZZ e r ((Zee ((Zdq (ZC w ls) c).map (·.1))).map tupI)=some ((Zv w ls c).map ZI):=by
 rw[Zbj tupI (λk=>.tuple [tupI k,.tuple ((c.filter λs=>ZC w ls s==k).map dI)])]
 ·unfold Zv
  rw[ZzO];rfl
 ·intro k hk
  exact h k ((Zbf _).mem_iff.mp hk)
theorem ZoD(w:Wk)(ls c:List Int)(k:List Int)(hk:k∈(Zdq (ZC w ls) c).map (·.1)):Zg (ZaK (Zdq (ZC w ls) c)) (Z8 k)=some ((c.filter λs=>ZC w ls s==k).map dI):=by have hg:=ZcV (ZC w ls) c;rw[ZgQ,hg.look,if_pos ((hg.mem k).mp hk)];rfl
theorem ZqX(f:Int->List Int)(pre:List Int)(g:Gs)(h:Grp f pre g)(k:List Int)(p:List Int)(e:Zg g k=some p):p.length<=pre.length:=by
 rw[h.look]at e;split at e
 ·cases e; exact ZAq _ _
 ·cases e
theorem Zf9(f:Int->List Int)(pre:List Int)(g:Gs)(h:Grp f pre g):g.length<=pre.length:=by have h2:g.map (·.1) ⊆ pre.map f:=λk hk=>(h.mem k).mp hk;have:=ZAH h.nd h2;simpa using this
theorem Zmr{w:Wk}(hv:Wk.V w){ls:List Int}(hl:Cr w.looks.length ls)(e2:Option B):∀(c pre:List Int) (g:Gs) (o:Option B),Grp (ZC w ls) pre g->(∀s∈c,0<=s/\s<(w.many:Int))->pre.length+c.length<1000 ->
  ∃o',Z7 4 ZeK (c.map dI) [some (.pl w.d),some (.pl (tupI ls)),e2,some (.otl (ZaK g)),o]=some (.nx [some (.pl w.d),some (.pl (tupI ls)),e2,some (.otl (ZaK (c.foldl (λg s=>Zd3 g (ZC w ls s) s) g))),o'])
 | [],pre,g,o,_,_,_=>⟨o,rfl⟩
 | s::c,pre,g,o,hg,hb,hn=>by
  rw[ZzG]at hn;have hs:=hb s (Zzt ..);have hlen:(ZaK g).length<1000000:=by have:=Zf9 _ _ _ hg;unfold ZaK;rw[Zzr]; omega
  have h1:Zg (ZbT (ZaK g) (Z8 (ZC w ls s))) (Z8 (ZC w ls s))=some (((Zg g (ZC w ls s)).getD []).map dI):=by rw[Zqz,ZgQ,Zil,if_pos rfl]; rfl
  have h2:(((Zg g (ZC w ls s)).getD []).map dI).length<1000000:=by
   rw[Zzr];cases e:Zg g (ZC w ls s)with
   | none=>simp
   | some p=>have:=ZqX _ _ _ hg _ _ e;simp; omega
  have h2':((Zg g (ZC w ls s)).getD []).length<1000000:=by rwa [Zzr]at h2
  have e:ZeK [some (.pl w.d),some (.pl (tupI ls)),e2,some (.otl (ZaK g)),some (.pl (dI s))]=some (.nx [some (.pl w.d),some (.pl (tupI ls)),e2,some (.otl (ZaK (Zd3 g (ZC w ls s) s))),some (.pl (dI s))]):=by have ek:=ZrC hv hl hs.1 hs.2;simp[ZeK,ek,ZaA,hlen,h1,h2'];rw[Zqz,Zj9];rfl
  obtain⟨o',ih⟩:=Zmr hv hl e2 c (pre++[s]) (Zd3 g (ZC w ls s) s) (some (.pl (dI s))) (hg.step s) (λx hx=>hb x (Zzu _ hx)) (by simp; omega);refine⟨o',?_⟩;rw[Zzw,ZAv,<-ih];show(match ZeK [some (.pl w.d),some (.pl (tupI ls)),e2,some (.otl (ZaK g)),some (.pl (dI s))]with | some (.nx r')=>_ | some (.ct r')=>_ | some (.bk r')=>_ | some (.rt d)=>_ | none=>_)=_;rw[e]
theorem ZjF{w:Wk}(hv:Wk.V w){ls:List Int}(hl:Cr w.looks.length ls){c:List Int}(hc:Cr w.many c):Zbm [w.d,tupI ls,tupI c]=some (.list ((Zv w ls c).map ZI)):=by
 have m2:=hv.m2;have hlen:=hc.len;have hb:c.length<1000000:=by omega
 obtain⟨o',e⟩:=Zmr hv hl (some (.pl (tupI c))) c [] [] none ⟨ZA9,λk=>by simp[Zfu]⟩ hc.2 (by simp; omega);have hk:=ZqS w ls c (by omega);have hg:c.foldl (λg s=>Zd3 g (ZC w ls s) s) []=Zdq (ZC w ls) c:=rfl;rw[hg]at e;have hn:(Zee ((Zdq (ZC w ls) c).map (·.1))).length<1000000:=by rw[(Zbf _).length_eq,Zzr];have:=Zf9 _ _ _ (ZcV (ZC w ls) c);omega
 simp[Zbm,Zml,hb];rw[show some (B.otl [])=some (B.otl (ZaK [])) from rfl,e];simp[hk,hn];rw[Zlg]
 ·simp
 ·intro k hk'
  simp[ZaA,ZoD w ls c k hk']
end HG
namespace HG
open PySem HM
def nbD:Nat->D->Bool
 | _,.none=>true
 | _,.int _=>true
 | _,.str x=>PyData.canLay0 (.str x)
 | 0,_=>false
 | n+1,.list ds=>ds.all (nbD n)
 | n+1,.tuple ds=>ds.all (nbD n)
 | _,_=>false
theorem ZcY{ds:List D}(h:∀d∈ds,d.canLay0=true):ZB2 ds=true:=by
 induction ds with
 | nil=>rfl
 | cons d ds ih=>show(d.canLay0&&ZB2 ds)=true;rw[h d (Zzt ..),ih λx hx=>h x (Zzu _ hx)];rfl
theorem Zku{ds:List D}{n:Nat}(h:∀d∈ds,d.depth<=n):ZC4 ds<=n:=by
 induction ds with
 | nil=>exact ZAP _
 | cons d ds ih=>show max d.depth (ZC4 ds)<=n;have h1:=h d (Zzt ..);have h2:=ih λx hx=>h x (Zzu _ hx);omega
theorem ZhU:∀(n:Nat) (d:D),nbD n d=true->d.canLay0=true/\d.depth<=n
 | n,.none,_=>⟨rfl,by show 0<=n; omega⟩
 | n,.int _,_=>⟨rfl,by show 0<=n; omega⟩
 | n,.str x,h=>by refine⟨?_,by show 0<=n; omega⟩;cases n<;>exact h
 | 0,.bool _,h=>by cases h
 | 0,.list _,h=>by cases h
 | 0,.tuple _,h=>by cases h
 | 0,.dict _,h=>by cases h
 | n+1,.bool _,h=>by cases h
 | n+1,.dict _,h=>by cases h
 | n+1,.list ds,h=>by have h':ds.all (nbD n)=true:=h;have hh:=Zzz.mp h';refine⟨ZcY λd hd=>(ZhU n d (hh d hd)).1,?_⟩;show ZC4 ds+1<=n+1;have:=Zku λd hd=>(ZhU n d (hh d hd)).2;omega
 | n+1,.tuple ds,h=>by have h':ds.all (nbD n)=true:=h;have hh:=Zzz.mp h';refine⟨ZcY λd hd=>(ZhU n d (hh d hd)).1,?_⟩;show ZC4 ds+1<=n+1;have:=Zku λd hd=>(ZhU n d (hh d hd)).2;omega
theorem ZgG{n:Nat}{d:D}(h:nbD n d=true)(hn:n<=60):Zag d=true:=by obtain⟨h1,h2⟩:=ZhU n d h;unfold Zag;rw[h1,decide_eq_true (show d.depth<=60 by omega)];rfl
theorem Zlj{ds:List D}(ih:∀d∈ds,∀e,(∃m,nbD m e=true)->(ZAr d e=true↔d=e)):∀(es:List D),(∀e∈es,∃m,nbD m e=true)->(ZDp ds es=true↔ds=es):=by
 induction ds with
 | nil =>
  intro es _;cases es with
  | nil=>exact⟨λ_=>rfl,λ_=>rfl⟩
  | cons e es=>exact⟨(λh=>by cases h),(λh=>by cases h)⟩
 | cons d ds ihl =>
  intro es he;cases es with
  | nil=>exact⟨(λh=>by cases h),(λh=>by cases h)⟩
  | cons e es=>show((ZAr d e&&ZDp ds es)=true)↔_;rw[ZzK,ih d (Zzt ..) e (he e (Zzt ..)),ihl (λx hx=>ih x (Zzu _ hx)) es (λx hx=>he x (Zzu _ hx)),List.cons.injEq]
theorem ZvM{m:Nat}{ds:List D}(h:nbD m (.list ds)=true):∀d∈ds,∃m,nbD m d=true:=by
 cases m with
 | zero=>cases h
 | succ m=>have h':ds.all (nbD m)=true:=h;exact λd hd=>⟨m,Zzz.mp h' d hd⟩
theorem ZuY{m:Nat}{ds:List D}(h:nbD m (.tuple ds)=true):∀d∈ds,∃m,nbD m d=true:=by
 cases m with
 | zero=>cases h
 | succ m=>have h':ds.all (nbD m)=true:=h;exact λd hd=>⟨m,Zzz.mp h' d hd⟩
theorem Zfg{m:Nat}{b:Bool}(h:nbD m (.bool b)=true):False:=by cases m<;>cases h
theorem Zfl{m:Nat}{b:List (D × D)}(h:nbD m (.dict b)=true):False:=by cases m<;>cases h
theorem Zj6:∀(n:Nat) (d e:D),nbD n d=true->(∃m,nbD m e=true)->(ZAr d e=true↔d=e):=by
 intro n
 induction n with
 | zero =>
  intro d e hd ⟨m,he⟩;cases d<;>first | cases hd | skip
  all_goals cases e<;>first
   | exact(Zfg he).elim
   | exact(Zfl he).elim
   | exact⟨λ_=>rfl,λ_=>rfl⟩
   | exact⟨(λh=>by cases h),(λh=>by cases h)⟩
   | (rename_i a b; show((a==b)=true)↔_; simp)
 | succ n ih =>
  intro d e hd ⟨m,he⟩;cases d with
  | bool _=>exact(Zfg hd).elim
  | dict _=>exact(Zfl hd).elim
  | list ds =>
   cases e with
   | list es=>show(ZDp ds es=true)↔_;rw[Zlj (λd h e he=>ih d e (Zzz.mp (show ds.all (nbD n)=true from hd) d h) he) es (ZvM he)];simp
   | bool _=>exact(Zfg he).elim
   | dict _=>exact(Zfl he).elim
   | _=>exact⟨(λh=>by cases h),(λh=>by cases h)⟩
  | tuple ds =>
   cases e with
   | tuple es=>show(ZDp ds es=true)↔_;rw[Zlj (λd h e he=>ih d e (Zzz.mp (show ds.all (nbD n)=true from hd) d h) he) es (ZuY he)];simp
   | bool _=>exact(Zfg he).elim
   | dict _=>exact(Zfl he).elim
   | _=>exact⟨(λh=>by cases h),(λh=>by cases h)⟩
  | none=>cases e<;>first
   | exact(Zfg he).elim
   | exact(Zfl he).elim
   | exact⟨λ_=>rfl,λ_=>rfl⟩
   | exact⟨(λh=>by cases h),(λh=>by cases h)⟩
  | int i=>cases e<;>first
   | exact(Zfg he).elim
   | exact(Zfl he).elim
   | exact⟨(λh=>by cases h),(λh=>by cases h)⟩
   | (rename_i b; show((i==b)=true)↔_; simp)
  | str i=>cases e<;>first
   | exact(Zfg he).elim
   | exact(Zfl he).elim
   | exact⟨(λh=>by cases h),(λh=>by cases h)⟩
   | (rename_i b; show((i==b)=true)↔_; simp)
theorem Zvw{n m:Nat}{d e:D}(hd:nbD n d=true)(he:nbD m e=true)(hn:n<=60)(hm:m<=60)[Decidable (d=e)]:gEq d e=some (.bool (decide (d=e))):=by
 unfold gEq;rw[ZgG hd hn,ZgG he hm,if_pos (by rfl)];congr 2;have h:=Zj6 n d e hd ⟨m,he⟩;cases q:ZAr d e with
 | true=>exact(decide_eq_true (h.mp q)).symm
 | false=>exact(decide_eq_false λz=>by rw[h.mpr z]at q; cases q).symm
theorem Zep{n:Nat}{d:D}(hd:nbD n d=true)(hn:n<=60):gEq d d=some (.bool true):=by unfold gEq;rw[ZgG hd hn,(Zj6 n d d hd ⟨n,hd⟩).mpr rfl];rfl
theorem ZgW{n m:Nat}{d e:D}(hd:nbD n d=true)(he:nbD m e=true)(hn:n<=60)(hm:m<=60)(h:d≠e):gEq d e=some (.bool false):=by have:Decidable (d=e):=isFalse h;rw[Zvw hd he hn hm,decide_eq_false h]
theorem ZuN{n:Nat}{d:D}(hd:nbD n d=true)(hn:n<=60):gNe d d=some (.bool false):=by unfold gNe;rw[ZgG hd hn,(Zj6 n d d hd ⟨n,hd⟩).mpr rfl];rfl
theorem Zdn(n:Nat)(ns:List Int):nbD (n+1) (tupI ns)=true:=by show(ns.map dI).all (nbD n)=true;rw[Zzz];intro d hd;obtain⟨i,_,rfl⟩:=Zzx.mp hd;cases n<;>rfl
theorem ZkI(n:Nat)(ns:List Int):nbD (n+1) (.list (ns.map dI))=true:=Zdn n ns
theorem Zzh{n:Nat}{ds:List D}(h:∀d∈ds,nbD n d=true):nbD (n+1) (.tuple ds)=true:=Zzz.mpr h
theorem Zty{n:Nat}{ds:List D}(h:∀d∈ds,nbD n d=true):nbD (n+1) (.list ds)=true:=Zzz.mpr h
theorem ZdI(n:Nat)(i:Int):nbD n (.int i)=true:=by cases n<;>rfl
theorem ZvO(n:Nat):nbD n .none=true:=by cases n<;>rfl
end HG
namespace HG
open PySem HM
def lkV(n:Nat)(c:Int):List Int:=((ZzA n).filter λ(k:Nat)=>decide (0<Z3 (c+19*(k:Int)) 9857 4)).map λ(k:Nat)=>(k:Int)
theorem ZwS(n:Nat)(c:Int):Cr n (lkV n c):=ZiB n _
theorem ZuH{w:Wk}(hv:Wk.V w)(c:Int):ZcQ [w.d,.int c]=some (tupI (lkV w.looks.length c)):=by
 have l2:=hv.l2;have hok:okR (w.looks.length:Int)=true:=ZcZ (by omega);have hb:w.looks.length<1000000:=by omega
 have e2:atD [Zz6 w.many,.tuple (w.deeds.map ZR),.tuple (w.looks.map tupI),tupI w.beg,tupI w.goal] 2=some (.tuple (w.looks.map tupI)):=by simp
 unfold Wk.d;simp[ZcQ,Zi5,hok,Zaa,hb];rw[ZbY dN (λk:Nat=>decide (0<Z3 (c+19*(k:Int)) 9857 4)) dN]
 ·simp[lkV]
 ·intro k hk
  have m:=Zcz (c+19*(k:Int)) 9857 4 (by decide) (by decide);simp[m]
 ·intro k hk _
  simp
def Zoc(w:Wk)(c:List Int)(d:Int):D:=if Zap w c d then tupI (Zw w c d)else .none
theorem ZlC{w:Wk}(hv:Wk.V w){d:Int}(h0:0<=d)(h1:d<w.deeds.length)(e1:Option B):∀(c acc:List Int) (o:Option B),(∀s∈c,0<=s/\s<(w.many:Int))->acc.length+c.length*10<100000 ->
  (Zap w c d=true->∃o',Z7 4 Za8 (c.map dI) [some (.pl w.d),e1,some (.pl (.int d)),some (.ol (acc.map dI)),o]=some (.nx [some (.pl w.d),e1,some (.pl (.int d)),some (.ol ((acc++Zbg w c d).map dI)),o'])) /\
  (Zap w c d=false->Z7 4 Za8 (c.map dI) [some (.pl w.d),e1,some (.pl (.int d)),some (.ol (acc.map dI)),o]=some (.rt .none))
 | [],acc,o,_,_=>⟨λ_=>⟨o,by simp[Zbg]; rfl⟩,λh=>by simp[Zap]at h⟩
 | s::c,acc,o,hs,hl=>by
  rw[ZzG]at hl;have hb:=hs s (Zzt ..);have hr:=(Zop hv h0 h1 hb.1 hb.2).len;have m2:=hv.m2;have hd:=ZlT h0 h1 (w:=w);have hrow:=ZoS hv h0 h1 hb.1 hb.2;have g1:atD [Zz6 w.many,.tuple (w.deeds.map ZR),.tuple (w.looks.map tupI),tupI w.beg,tupI w.goal] 1=some (.tuple (w.deeds.map ZR)):=by simp
  have ec:Zap w (s::c) d=(decide (0<(ZbQ w d s).length)&&Zap w c d):=rfl;have ef:Zbg w (s::c) d=ZbQ w d s++Zbg w c d:=rfl;cases hz:ZbQ w d s with
  | nil =>
   have e:Za8 [some (.pl w.d),e1,some (.pl (.int d)),some (.ol (acc.map dI)),some (.pl (dI s))]=some (.rt .none):=by rw[hz]at hrow;have e3:gEq (tupI []) (.tuple [])=some (.bool true):=Zep (Zdn 0 []) (by decide);unfold Wk.d;simp[Za8,hd,ZR,hrow,-gEq];rw[e3]
   have ec':Zap w (s::c) d=false:=by rw[ec,hz]; rfl
   refine⟨λh=>(by rw[ec']at h; cases h),λ_=>?_⟩;rw[Zzw];show(match Za8 [some (.pl w.d),e1,some (.pl (.int d)),some (.ol (acc.map dI)),some (.pl (dI s))]with | some (.nx r')=>_ | some (.ct r')=>_ | some (.bk r')=>_ | some (.rt d)=>_ | none=>_)=_;rw[e]
  | cons x xs =>
   have hlen:acc.length+(ZbQ w d s).length<1000000:=by omega
   have e:Za8 [some (.pl w.d),e1,some (.pl (.int d)),some (.ol (acc.map dI)),some (.pl (dI s))]=some (.nx [some (.pl w.d),e1,some (.pl (.int d)),some (.ol ((acc++ZbQ w d s).map dI)),some (.pl (dI s))]):=by rw[hz]at hrow hlen;rw[ZzG]at hlen;have e3:gEq (tupI (x::xs)) (.tuple [])=some (.bool false):=ZgW (Zdn 0 (x::xs)) (Zdn 0 []) (by decide) (by decide) (by simp);unfold Wk.d;simp[Za8,hd,ZR,hrow,hz,-gEq];rw[e3];simp[hd,ZR,hrow,hlen]
   have ec':Zap w (s::c) d=Zap w c d:=by rw[ec,hz]; rfl
   obtain⟨i1,i2⟩:=ZlC hv h0 h1 e1 c (acc++ZbQ w d s) (some (.pl (dI s))) (λx hx=>hs x (Zzu _ hx)) (by rw[ZzL]; omega);have e5:Z7 4 Za8 ((s::c).map dI) [some (.pl w.d),e1,some (.pl (.int d)),some (.ol (acc.map dI)),o]=Z7 4 Za8 (c.map dI) [some (.pl w.d),e1,some (.pl (.int d)),some (.ol ((acc++ZbQ w d s).map dI)),some (.pl (dI s))]:=by rw[Zzw];show(match Za8 [some (.pl w.d),e1,some (.pl (.int d)),some (.ol (acc.map dI)),some (.pl (dI s))]with | some (.nx r')=>_ | some (.ct r')=>_ | some (.bk r')=>_ | some (.rt d)=>_ | none=>_)=_;rw[e]
   rw[e5,ec',ef,<-ZAM];exact⟨i1,i2⟩
theorem Zin{w:Wk}(hv:Wk.V w)(h7:w.many<=7){c:List Int}(hc:Cr w.many c){d:Int}(h0:0<=d)(h1:d<w.deeds.length):ZaY [w.d,tupI c,.int d]=some (Zoc w c d):=by
 have m2:=hv.m2;have hlen:=hc.len;have hb:c.length<1000000:=by omega
 obtain⟨i1,i2⟩:=ZlC hv h0 h1 (some (.pl (tupI c))) c [] none hc.2 (by simp; omega);unfold Zoc;cases h:Zap w c d with
 | false=>have e:=i2 h;rw[ZBf]at e;simp[ZaY,Zh4,hb,e]
 | true =>
  obtain⟨o',e⟩:=i1 h;rw[ZBf,ZBs]at e;have hf:Zrm (Zbg w c d)=true:=Zzz.mpr λx hx=>by have:=Ztz hv hc h0 h1 x hx;rw[ZzK,decide_eq_true_eq,decide_eq_true_eq];omega
  simp[ZaY,Zh4,hb,e,ZbX,hf,Zw,Zgg]
theorem Zjo{w:Wk}(hv:Wk.V w){ls:List Int}(hl:Cr w.looks.length ls)(e2:Option B):∀(c pre:List Int) (g:Gs) (o o':Option B),Grp (ZC w ls) pre g->(∀s∈c,0<=s/\s<(w.many:Int))->pre.length+c.length<1000 ->
  ∃p p',Z7 4 Zco (c.map dI) [some (.pl w.d),some (.pl (tupI ls)),e2,some (.otl (ZaK g)),o,o']=some (.nx [some (.pl w.d),some (.pl (tupI ls)),e2,some (.otl (ZaK (c.foldl (λg s=>Zd3 g (ZC w ls s) s) g))),p,p'])
 | [],pre,g,o,o',_,_,_=>⟨o,o',rfl⟩
 | s::c,pre,g,o,o',hg,hb,hn=>by
  rw[ZzG]at hn;have hs:=hb s (Zzt ..);have hlen:(ZaK g).length<1000000:=by have:=Zf9 _ _ _ hg;unfold ZaK;rw[Zzr]; omega
  have l2:=hv.l2;have hll:=hl.len;have hlb:ls.length<1000000:=by omega
  have ec:ZaJ ZZ (eIx (bOf (eIx (bOf (eIx (Zl 1) (eC (.int 2)))) (Za 0))) (Za 5)) [some (.pl w.d),some (.pl (tupI ls)),e2,some (.otl (ZaK g)),some (.pl (dI s)),o'] (ls.map dI)=some ((ZC w ls s).map dI):=by
   rw[Zbj dI (λl=>dI (Zlh w l s))]
   ·simp[ZC]
   ·intro l hl'
    have hb:=hl.2 l hl';unfold Wk.d;simp[ZqZ hb.1 hb.2,ZqV hv hb.1 hb.2 hs.1 hs.2]
  have e:Zco [some (.pl w.d),some (.pl (tupI ls)),e2,some (.otl (ZaK g)),some (.pl (dI s)),o']=some (.nx [some (.pl w.d),some (.pl (tupI ls)),e2,some (.otl (ZaK (Zd3 g (ZC w ls s) s))),some (.pl (dI s)),some (.pl (tupI (ZC w ls s)))]):=by
   have ek:=ZgQ g (ZC w ls s);have et:=ZaA (ZC w ls s);cases h:Zg g (ZC w ls s)with
   | none =>
    rw[h]at ek;have ea:ZbT g (ZC w ls s)=g++[(ZC w ls s,[])]:=by unfold ZbT; rw[h]
    have eb:ZaK g++[(Z8 (ZC w ls s),[])]=ZaK (ZbT g (ZC w ls s)):=by rw[ea]; simp[ZaK]
    have h1:Zg (ZaK (ZbT g (ZC w ls s))) (Z8 (ZC w ls s))=some []:=by rw[ZgQ,Zil,if_pos rfl,h]; rfl
    simp[Zco,hlb,ec,et,ek,hlen];rw[eb,h1];simp[Zj9];rfl
   | some p =>
    rw[h]at ek;have ea:ZbT g (ZC w ls s)=g:=by unfold ZbT; rw[h]
    have hp:p.length<1000000:=by have:=ZqX _ _ _ hg _ _ h; omega
    simp[Zco,hlb,ec,et,ek,hlen,hp,Zj9];unfold Zd3;rw[ea]
  obtain⟨p,p',ih⟩:=Zjo hv hl e2 c (pre++[s]) (Zd3 g (ZC w ls s) s) (some (.pl (dI s))) (some (.pl (tupI (ZC w ls s)))) (hg.step s) (λx hx=>hb x (Zzu _ hx)) (by simp; omega);refine⟨p,p',?_⟩;rw[Zzw,ZAv,<-ih];show(match Zco [some (.pl w.d),some (.pl (tupI ls)),e2,some (.otl (ZaK g)),some (.pl (dI s)),o']with | some (.nx r')=>_ | some (.ct r')=>_ | some (.bk r')=>_ | some (.rt d)=>_ | none=>_)=_;rw[e]
theorem ZdJ{w:Wk}(hv:Wk.V w){ls:List Int}(hl:Cr w.looks.length ls){c:List Int}(hc:Cr w.many c):Zak [w.d,tupI ls,tupI c]=some (.list ((Zv w ls c).map ZI)):=by
 have m2:=hv.m2;have hlen:=hc.len;have hb:c.length<1000000:=by omega
 obtain⟨p,p',e⟩:=Zjo hv hl (some (.pl (tupI c))) c [] [] none none ⟨ZA9,λk=>by simp[Zfu]⟩ hc.2 (by simp; omega);have hk:=ZqS w ls c (by omega);have hg:c.foldl (λg s=>Zd3 g (ZC w ls s) s) []=Zdq (ZC w ls) c:=rfl;rw[hg]at e;have hn:(Zee ((Zdq (ZC w ls) c).map (·.1))).length<1000000:=by rw[(Zbf _).length_eq,Zzr];have:=Zf9 _ _ _ (ZcV (ZC w ls) c);omega
 simp[Zak,Zi6,hb];rw[show some (B.otl [])=some (B.otl (ZaK [])) from rfl,e];simp[hk,hn];rw[Zlg]
 ·simp
 ·intro k hk'
  simp[ZaA,ZoD w ls c k hk']
theorem Zci{w:Wk}{c:List Int}{d:Int}(h:d∈doV w c):0<=d/\d<w.deeds.length/\Zap w c d=true:=by unfold doV at h;obtain⟨k,hk,rfl⟩:=Zzx.mp h;obtain⟨h1,h2⟩:=Zz5.mp hk;have:=ZzP.mp h1;exact⟨by omega,by omega,h2⟩
end HG
namespace HG4
open PySem HM HG
end HG4
namespace HM
open PySem
theorem Zet{α:Type}{c:TF}{e:EF}{r:Env}(a b:α->D)(p:α->Bool)(f:α->D):∀(xs:List α),(∀x∈xs,c (some (.pl (a x))::some (.pl (b x))::r)=some (p x))->(∀x∈xs,p x=true->e (some (.pl (a x))::some (.pl (b x))::r)=some (f x)) ->
  Zc0 c e r (xs.map λx=>.tuple [a x,b x])=some ((xs.filter p).map f)
 | [],_,_=>rfl
 | x::xs,h1,h2=>by
  have ih:=Zet a b p f xs (λy hy=>h1 y (Zzu _ hy)) (λy hy=>h2 y (Zzu _ hy));have hc:=h1 x (Zzt ..);rw[Zzw];unfold Zc0;rw[hc];cases hp:p x with
  | true=>have he:=h2 x (Zzt ..) hp;dsimp only;rw[he];dsimp only;rw[ih,ZDQ hp];rfl
  | false=>dsimp only;rw[ih,ZDR (by simp[hp])]
theorem ZQ{P:Option Out->Prop}{a b:SF}{r r':Env}(h:a r=some (.nx r'))(k:P (b r')):P (Zt a b r):=by show P (match a r with | some (.nx r')=>b r' | some (.rt d)=>some (.rt d) | some (.bk r')=>some (.bk r') | some (.ct r')=>some (.ct r') | none=>none);rw[h];exact k
end HM
namespace HG4
open PySem HM HG
def Zr6(w:Wk)(ls c:List Int)(s:Int):List Int:=c.filter λx=>ZC w ls x==ZC w ls s
theorem Zxo{n:Nat}{c:List Int}(p:Int->Bool)(h:Cr n c):Cr n (c.filter p):=⟨h.1.filter p,λx hx=>h.2 x (Zz5.mp hx).1⟩
def alV(w:Wk):List Int:=(ZzA w.looks.length).map λ(k:Nat)=>(k:Int)
theorem Zzi(w:Wk):Cr w.looks.length (alV w):=by
 have:=ZiB w.looks.length λ_=>true
 rwa [ZBe.mpr λ_ _=>rfl]at this
theorem ZoO{w:Wk}{ls c:List Int}{s x:Int}:x∈Zr6 w ls c s↔x∈c/\ZC w ls x=ZC w ls s:=by unfold Zr6;rw[Zz5,beq_iff_eq]
theorem ZvJ{w:Wk}{c:List Int}{d x:Int}:x∈Zw w c d↔∃s∈c,x∈ZbQ w d s:=by
 unfold Zw;rw[(sortI_perm _).mem_iff,ZfF];unfold Zbg;rw[ZBR]
 constructor
 ·rintro (h | h)
  ·cases h
  ·exact h
 ·exact .inr
end HG4
namespace HM
open PySem
def Zax:Option Out->Option D
 | some (.nx _)=>some .none
 | some (.rt d)=>some d
 | _=>none
end HM
namespace HG4
open PySem HM HG
end HG4
namespace HG5
open PySem HM HG HG4
def Zp(w:Wk)(ls c:List Int):List (List Int):=(Zv w ls c).map (·.2)
theorem Zmp{w:Wk}{ls c p:List Int}:p∈Zp w ls c↔∃s∈c,p=Zr6 w ls c s:=by
 unfold Zp Zv;rw[ZzO,Zzx];have hg:=ZcV (ZC w ls) c
 constructor
 ·rintro ⟨k,hk,rfl⟩
  obtain⟨s,hs,e⟩:=Zzx.mp ((hg.mem k).mp ((Zbf _).mem_iff.mp hk));refine⟨s,hs,?_⟩;subst e;rfl
 ·rintro ⟨s,hs,rfl⟩
  exact⟨ZC w ls s,(Zbf _).mem_iff.mpr ((hg.mem _).mpr (Zzx.mpr ⟨s,hs,rfl⟩)),rfl⟩
theorem Zey{w:Wk}{ls c p:List Int}(hc:Cr w.many c)(h:p∈Zp w ls c):Cr w.many p/\p≠[]/\∀x∈p,x∈c:=by obtain⟨s,hs,rfl⟩:=Zmp.mp h;exact⟨Zxo _ hc,ZDl (ZoO.mpr ⟨hs,rfl⟩),λx hx=>(ZoO.mp hx).1⟩
theorem Zkv(w:Wk)(ls c:List Int):(Zp w ls c).Nodup:=by unfold Zp Zv;rw[ZzO];have hg:=ZcV (ZC w ls) c;have hn:(Zee ((Zdq (ZC w ls) c).map (·.1))).Nodup:=(Zbf _).nodup_iff.mpr hg.nd;rw[ZDq,ZCE];refine List.Pairwise.imp_of_mem (λ{a b} ha hb hne e=>?_) (ZDq.mp hn);obtain⟨s,hs,es⟩:=Zzx.mp ((hg.mem a).mp ((Zbf _).mem_iff.mp ha));have h1:s∈c.filter λs=>ZC w ls s==a:=Zz5.mpr ⟨hs,beq_iff_eq.mpr es⟩;have e':(c.filter λs=>ZC w ls s==a)=c.filter λs=>ZC w ls s==b:=e;rw[e']at h1;have:=beq_iff_eq.mp (Zz5.mp h1).2;exact hne (es.symm.trans this)
theorem Zen{w:Wk}{ls c:List Int}(h:c≠[]):Zp w ls c≠[]:=by
 cases c with
 | nil=>exact absurd rfl h
 | cons s c=>exact ZDl (Zmp.mpr ⟨s,Zzt ..,rfl⟩)
def ZjD:Nat->List (List Int)
 | 0=>[[]]
 | n+1=>ZjD n++(ZjD n).map (·++[(n:Int)])
theorem Zo6:∀n,(ZjD n).length=2 ^ n
 | 0=>rfl
 | n+1=>by show(ZjD n++(ZjD n).map (·++[(n:Int)])).length=_;rw[ZzL,Zzr,Zo6 n,Nat.pow_succ];omega
theorem ZkW:∀(n:Nat) (c:List Int),Cr n c->c∈ZjD n
 | 0,c,h=>by
  cases c with
  | nil=>exact ZzI.mpr rfl
  | cons x c=>have:=h.2 x (Zzt ..); omega
 | n+1,c,h=>by
  show c∈ZjD n++(ZjD n).map (·++[(n:Int)])
  by_cases hm:(n:Int)∈c
  ·-- the last is n
   have key:∀(c:List Int),c.Pairwise (· < ·)->(∀x∈c,0<=x/\x<((n+1:Nat):Int))->(n:Int)∈c->∃c',c=c'++[(n:Int)]/\c'.Pairwise (· < ·)/\∀x∈c',0<=x/\x<(n:Int):=by
    intro c
    induction c with
    | nil=>intro _ _ h; simp at h
    | cons x c ih =>
     intro hp hb hm;obtain⟨p1,p2⟩:=ZAc.mp hp
     by_cases hx:x=(n:Int)
     ·cases c with
      | nil=>exact⟨[],by rw[hx]; rfl,.nil,λy hy=>by simp at hy⟩
      | cons y c=>have h1:=p1 y (Zzt ..);have h2:=hb y (Zzu _ (Zzt ..));omega
     ·have hm':(n:Int)∈c:=by
       rcases ZzH.mp hm with e | e
       ·exact absurd e.symm hx
       ·exact e
      obtain⟨c',e,q1,q2⟩:=ih p2 (λy hy=>hb y (Zzu _ hy)) hm';refine⟨x::c',by rw[e]; rfl,ZAc.mpr ⟨λy hy=>p1 y (by rw[e]; exact Zz9 _ hy),q1⟩,λy hy=>?_⟩;rcases ZzH.mp hy with e' | hy
      ·have h1:=p1 (n:Int) hm'
       have h2:=hb x (Zzt ..);rw[e'];omega
      ·exact q2 y hy
   obtain⟨c',e,q1,q2⟩:=key c h.1 h.2 hm;exact ZzT _ (Zzx.mpr ⟨c',ZkW n c' ⟨q1,q2⟩,e.symm⟩)
  ·refine Zz9 _ (ZkW n c ⟨h.1,λx hx=>?_⟩)
   have h1:=h.2 x hx;have:x≠(n:Int):=λe=>hm (e▸hx);omega
theorem ZiO{n:Nat}{L:List (List Int)}(hn:L.Nodup)(h:∀c∈L,Cr n c):L.length<=2 ^ n:=by rw[<-Zo6 n];exact ZAH hn λc hc=>ZkW n c (h c hc)
def ZY(w:Wk)(c:List Int):Bool:=c.all λs=>w.goal.contains s
def Win(w:Wk)(ls:List Int):Nat->List Int->Bool
 | 0,c=>ZY w c
 | n+1,c=>ZY w c||(ZzA w.deeds.length).any λd=>Zap w c d&&(Zp w ls (Zw w c d)).all λp=>Win w ls n p
theorem ZiG{w:Wk}{ls:List Int}:∀(n:Nat) (c:List Int),Win w ls n c=true->Win w ls (n+1) c=true
 | 0,c,h=>by show(ZY w c||_)=true;rw[show ZY w c=true from h];rfl
 | n+1,c,h=>by
  have h':(ZY w c||(ZzA w.deeds.length).any λd=>Zap w c d&&(Zp w ls (Zw w c d)).all λp=>Win w ls n p)=true:=h;show(ZY w c||(ZzA w.deeds.length).any λd=>Zap w c d&&(Zp w ls (Zw w c d)).all λp=>Win w ls (n+1) p)=true;rw[ZA2]at h' ⊢;rcases h' with h' | h'
  ·exact .inl h'
  ·right
   obtain⟨d,hd,hq⟩:=ZAg.mp h';rw[ZzK]at hq;refine ZAg.mpr ⟨d,hd,?_⟩;rw[ZzK];exact⟨hq.1,Zzz.mpr λp hp=>ZiG n p (Zzz.mp hq.2 p hp)⟩
theorem Ze5{w:Wk}{ls:List Int}{n m:Nat}(h:n<=m){c:List Int}(q:Win w ls n c=true):Win w ls m c=true:=by
 induction h with
 | refl=>exact q
 | step _ ih=>exact ZiG _ _ ih
def ZbC(w:Wk)(ls:List Int)(L:List (List Int)):Prop:=∀c∈L,∀d:Nat,d<w.deeds.length->Zap w c d=true->∀p∈Zp w ls (Zw w c d),p∈L
theorem Zip{w:Wk}{ls:List Int}{L:List (List Int)}(hL:ZbC w ls L){n:Nat}(h:∀c∈L,Win w ls (n+1) c=true->Win w ls n c=true):∀(m:Nat),∀c∈L,Win w ls m c=true->Win w ls n c=true
 | 0,c,_,q=>Ze5 (ZAP n) q
 | m+1,c,hc,q=>by
  refine h c hc ?_;have q':(ZY w c||(ZzA w.deeds.length).any λd=>Zap w c d&&(Zp w ls (Zw w c d)).all λp=>Win w ls m p)=true:=q;show(ZY w c||(ZzA w.deeds.length).any λd=>Zap w c d&&(Zp w ls (Zw w c d)).all λp=>Win w ls n p)=true;rw[ZA2]at q' ⊢;rcases q' with q' | q'
  ·exact .inl q'
  ·right
   obtain⟨d,hd,hq⟩:=ZAg.mp q';rw[ZzK]at hq;refine ZAg.mpr ⟨d,hd,?_⟩;rw[ZzK];exact⟨hq.1,Zzz.mpr λp hp=>Zip hL h m p (hL c hc d (ZzP.mp hd) hq.1 p hp) (Zzz.mp hq.2 p hp)⟩
theorem Zef{α:Type}{p q:α->Bool}:∀{L:List α},(∀x∈L,p x=true->q x=true)->(∃x∈L,q x=true/\p x=false)->(L.filter p).length<(L.filter q).length
 | [],_,⟨x,hx,_⟩=>by simp at hx
 | y::L,h,⟨x,hx,h1,h2⟩=>by
  have le:∀{L:List α},(∀x∈L,p x=true->q x=true)->(L.filter p).length<=(L.filter q).length:=by
   intro L
   induction L with
   | nil=>intro _; exact ZzB _
   | cons z L ih =>
    intro h;have:=ih λx hx=>h x (Zzu _ hx);have hz:=h z (Zzt ..);rw[ZAS,ZAS];cases hp:p z with
    | true=>rw[hz hp]; simpa using this
    | false =>
     cases q z
     ·simpa using this
     ·simp; omega
  have hL:=λx hx=>h x (Zzu y hx);have hy:=h y (Zzt ..);rw[ZAS,ZAS];rcases ZzH.mp hx with e | hx
  ·subst e
   rw[h2,h1];have:=le hL;simp; omega
  ·have:=Zef hL ⟨x,hx,h1,h2⟩
   cases hp:p y with
   | true=>rw[hy hp]; simpa using this
   | false =>
    cases q y
    ·simpa using this
    ·simp; omega
theorem Zl8{w:Wk}{ls:List Int}{L:List (List Int)}(hL:ZbC w ls L){m:Nat}{c:List Int}(hc:c∈L)(q:Win w ls m c=true):Win w ls L.length c=true:=by
 have key:∀t:Nat,(∃n,n<=t/\∀c∈L,Win w ls (n+1) c=true->Win w ls n c=true)\/t+1<=(L.filter λc=>Win w ls (t+1) c).length:=by
  intro t
  induction t with
  | zero =>
   by_cases h:∀c∈L,Win w ls 1 c=true->Win w ls 0 c=true
   ·exact .inl ⟨0,ZzB 0,h⟩
   ·right
    have h':∃c∈L,Win w ls 1 c=true/\Win w ls 0 c=false:=by
     apply ZBO;intro z;apply h;intro c hc h1;cases h0:Win w ls 0 c with
     | true=>rfl
     | false=>exact absurd ⟨c,hc,h1,h0⟩ z
    have:=Zef (p:=λc=>Win w ls 0 c) (q:=λc=>Win w ls 1 c) (L:=L) (λx _ hx=>ZiG 0 x hx) h';show 1<=(L.filter λc=>Win w ls 1 c).length;omega
  | succ t ih =>
   rcases ih with⟨n,hn,hs⟩ | ih
   ·exact .inl ⟨n,by omega,hs⟩
   ·by_cases h:∀c∈L,Win w ls (t+1+1) c=true->Win w ls (t+1) c=true
    ·exact .inl ⟨t+1,ZzB _,h⟩
    ·right
     have h':∃c∈L,Win w ls (t+1+1) c=true/\Win w ls (t+1) c=false:=by
      apply ZBO;intro z;apply h;intro c hc h1;cases h0:Win w ls (t+1) c with
      | true=>rfl
      | false=>exact absurd ⟨c,hc,h1,h0⟩ z
     have:=Zef (p:=λc=>Win w ls (t+1) c) (q:=λc=>Win w ls (t+1+1) c) (L:=L) (λx _ hx=>ZiG (t+1) x hx) h';omega
 rcases key L.length with⟨n,hn,hs⟩ | h
 ·exact Ze5 hn (Zip hL hs m c hc q)
 ·have:=ZAq (λc=>Win w ls (L.length+1) c) L
  omega
end HG5
namespace HG5
open PySem HM HG
def ZnA:SF :=
 (ZF (ZgI (ZdM (Za 0) .int) (Zuh (ZdM (Za 0) .bool))))
def Zce:List D->Option D:=fnOf 1 1 ZnA
def Zdg:SF :=
 (Zt (ZW 5 (Zo ZaY (Zc (Za 0) (Zc (eIx (Zl 2) (Za 3)) (Zc (Za 4) Zm)))))
  (sIf (tV (op2 Zgb (Za 5) (eC .none))) (Zt (Z1 6 (Zdb (Z4 (bOf (Zo Zak (Zc (Za 0) (Zc (Za 1) (Zc (Za 5) Zm)))))) ZZ (Za 1)))
  (Zfi 6 (Z1 2 (Zmd (Zl 2) (ZM (Z4 (bOf (Za 6))) (tV (ZhY (Za 0) (Zl 3))) (Za 0)))))) Zan))
def Zd4:SF :=
 (Zt (ZaN 4 (Zb8 (Zaz (bOf (eIx (Zl 0) (eC (.int 1)))))) Zdg)
  (ZW 3 (op2 Zbk (Za 3) (eC (.int 1)))))
def Zf0:SF :=
 (Zt (Z1 2 (Zdb (Z4 (bOf (Zo Zak (Zc (Za 0) (Zc (Za 1) (Zc (eIx (Zl 0) (eC (.int 3))) Zm)))))) ZZ (Za 1)))
  (Zt (ZW 3 (eC (.int 0)))
  (Zt (Zly 100000 (tV (op2 gLt (Za 3) (Zaz (Zl 2)))) Zd4)
  (Zfi 2 (ZF (Za 2))))))
def ZeL:List D->Option D:=fnOf 2 7 Zf0
def Zi7:SF :=
 (ZF (op2 gEq (eOf (ZM (Z4 (bOf (Za 1))) (tV (ZhZ (Za 0) (bOf (eIx (Zl 1) (eC (.int 4)))))) (Za 0))) (eOf (Zfo Zm))))
def ZaD:List D->Option D:=fnOf 2 2 Zi7
def ZX:SF :=
 (Zt (ZW 5 (Zo ZaY (Zc (Za 0) (Zc (Za 2) (Zc (Za 4) Zm)))))
  (sIf (tV (op2 Zgb (Za 5) (eC .none))) (sIf (tV (op2 gEq (eOf (Zdb (Z4 (bOf (Zo Zak (Zc (Za 0) (Zc (Za 1) (Zc (Za 5) Zm)))))) (tV (Zct (Za 1) (Zl 5))) (Za 1))) (eOf (Zfo Zm)))) (ZF (eC (.bool true))) Zan) Zan))
def Zbx:SF :=
 (Zt (ZaN 4 (Zb8 (Zaz (bOf (eIx (Zl 0) (eC (.int 1)))))) ZX)
  (ZF (eC (.bool false))))
def Zb1:List D->Option D:=fnOf 4 6 Zbx
def Zc9:SF :=
 (ZfT 3 (Za 4) (Za 5))
def Zbd:SF :=
 (sIf (ZhC (tV (Zct (Za 4) (Zl 3))) (tV (Zol Zb1 (Zc (Za 0) (Zc (Za 1) (Zc (Za 4) (Zc (Zhf (Zl 3)) Zm))))))) (Zev 6 (Za 4)) Zan)
def Zcp:SF :=
 (Zt (Z1 6 (Zfo Zm))
  (Zt (ZaN 4 (Z4 (bOf (Za 2))) Zbd)
  (Zfi 6 (ZaN 4 (Z4 (bOf (Za 6))) Zc9))))
def Zby:SF :=
 (sIf (tV (Zo ZaD (Zc (Za 0) (Zc (Za 4) Zm)))) (ZfT 3 (Za 4) (eC (.int 0))) Zan)
def ZeM:SF :=
 (Zt (ZW 2 (Zo ZeL (Zc (Za 0) (Zc (Za 1) Zm))))
  (Zt (Z1 3 fDt)
  (Zt (ZaN 4 (Z4 (bOf (Za 2))) Zby)
  (Zt (ZaN 5 (ZjV (eC (.int 1)) (op2 Zbk (Zaz (Zl 2)) (eC (.int 1)))) Zcp)
  (Zfi 3 (ZF (Za 3)))))))
def Zdy:List D->Option D:=fnOf 2 7 ZeM
def ZfN:SF :=
 (Zt (ZW 2 (Zo Zdy (Zc (Za 0) (Zc (Za 1) Zm))))
  (Zt (Z1 3 (Zdb (Z4 (bOf (Zo Zak (Zc (Za 0) (Zc (Za 1) (Zc (eIx (Zl 0) (eC (.int 3))) Zm)))))) ZZ (ZjG (Zl 4) (Za 1) (eC (.int 999)))))
  (Zt (sIf (tV (op2 gEq (Ziv (Zl 3)) (eC (.int 999)))) (ZF (eC .none)) Zan)
  (ZF (Ziv (Zl 3))))))
def Zcq:List D->Option D:=fnOf 2 4 ZfN
end HG5
namespace HG5
open PySem HM HG HG4
theorem Zt2{a b:List Int}(h:tupI a=tupI b):a=b:=by
 injection h with h
 have:=congrArg ZaP h;rw[ZbX,ZbX]at this;exact ZAs this
theorem Zmt(p:List Int):Zag (tupI p)=true:=ZgG (Zdn 0 p) (by decide)
theorem Zv1(a b:List Int):ZAr (tupI a) (tupI b)=(a==b):=by have h:=Zj6 1 (tupI a) (tupI b) (Zdn 0 a) ⟨1,Zdn 0 b⟩;apply ZC2.mpr;rw[h,beq_iff_eq];exact⟨Zt2,λe=>by rw[e]⟩
theorem Zua(L:List (List Int))(p:List Int):Zpb (L.map tupI) (tupI p)=some (L.contains p):=by
 unfold Zpb;have h1:(L.map tupI).all Zag=true:=Zzz.mpr λd hd=>by obtain⟨c,_,rfl⟩:=Zzx.mp hd;exact Zmt c
 rw[Zmt,h1,if_pos (by rfl)];congr 1
 induction L with
 | nil=>rfl
 | cons c L ih=>rw[Zzw,ZA8,Zv1,List.contains_cons,ih (by rw[Zzw,ZAF,ZzK]at h1;exact h1.2)];rw[show(c==p)=(p==c) from ZC2.mpr ⟨λh=>beq_iff_eq.mpr (beq_iff_eq.mp h).symm,λh=>beq_iff_eq.mpr (beq_iff_eq.mp h).symm⟩]
inductive Rch(w:Wk)(ls:List Int):List Int->Prop where
 | beg {p:List Int} (h:p∈Zp w ls w.beg):Rch w ls p
 | step {c p:List Int} {d:Nat} (r:Rch w ls c) (hd:d<w.deeds.length) (hc:Zap w c d=true) (h:p∈Zp w ls (Zw w c d)):Rch w ls p
structure Ze9(w:Wk)(ls:List Int)(L:List (List Int)):Prop where
 nd:L.Nodup
 cr:∀c∈L,Cr w.many c/\c≠[]
 rch:∀c∈L,Rch w ls c
theorem Ze9.len{w:Wk}{ls:List Int}{L:List (List Int)}(I:Ze9 w ls L)(h7:w.many<=7):L.length<=128:=by have h1:=ZiO I.nd λc hc=>(I.cr c hc).1;have h2:2 ^ w.many<=2 ^ 7:=ZC5 (by decide) h7;have h3:2 ^ 7=128:=rfl;omega
theorem Zjt{w:Wk}{c:List Int}{d:Int}(h0:c≠[])(hc:Zap w c d=true):Zw w c d≠[]:=by
 cases c with
 | nil=>exact absurd rfl h0
 | cons s c =>
  unfold Zap at hc;have h1:=Zzz.mp hc s (Zzt ..);have h2:0<(ZbQ w d s).length:=by simpa using h1
  cases hr:ZbQ w d s with
  | nil=>rw[hr]at h2; simp at h2
  | cons x xs=>exact ZDl (ZvJ.mpr ⟨s,Zzt ..,by rw[hr]; exact Zzt ..⟩)
def ZcI(w:Wk)(ls c:List Int)(L:List (List Int))(d:Nat):List (List Int):=if Zap w c d then L++(Zp w ls (Zw w c d)).filter (λp=>!L.contains p)else L
theorem ZsX{w:Wk}{ls c:List Int}{L:List (List Int)}{d:Nat}:∃M,ZcI w ls c L d=L++M:=by
 unfold ZcI;split
 ·exact⟨_,rfl⟩
 ·exact⟨[],by simp⟩
theorem Zsv{w:Wk}{ls c:List Int}{L:List (List Int)}{d:Nat}(h:Zap w c d=true){p:List Int}(hp:p∈Zp w ls (Zw w c d)):p∈ZcI w ls c L d:=by
 unfold ZcI;rw[if_pos h]
 by_cases q:p∈L
 ·exact Zz9 _ q
 ·refine ZzT _ (Zz5.mpr ⟨hp,?_⟩)
  simp[q]
theorem ZsT{w:Wk}(hv:Wk.V w){ls c:List Int}{L:List (List Int)}{d:Nat}(I:Ze9 w ls L)(hc:c∈L)(hd:d<w.deeds.length):Ze9 w ls (ZcI w ls c L d):=by
 unfold ZcI;split
 ·rename_i can
  have hl:=ZcW hv (I.cr c hc).1 (show(0:Int)<=(d:Int) by omega) (by omega);refine⟨?_,λp hp=>?_,λp hp=>?_⟩
  ·rw[ZBc]
   refine⟨I.nd,(Zkv w ls _).filter _,λa ha b hb e=>?_⟩;subst e;have:=(Zz5.mp hb).2;simp[ha]at this
  ·rcases ZzX.mp hp with hp | hp
   ·exact I.cr p hp
   ·have:=Zey hl (Zz5.mp hp).1
    exact⟨this.1,this.2.1⟩
  ·rcases ZzX.mp hp with hp | hp
   ·exact I.rch p hp
   ·exact .step (I.rch c hc) hd can (Zz5.mp hp).1
 ·exact I
section
variable{w:Wk}(hv:Wk.V w)(h7:w.many<=7){ls:List Int}(hl:Cr w.looks.length ls)
include hv h7 hl
theorem ZuP{L:List (List Int)}(I:Ze9 w ls L){at_:Nat}{c:List Int}(hc:L[at_]?=some c){d:Nat}(hd:d<w.deeds.length)(o5 o6:Option B) :
  ∃p5 p6,Zdg [some (.pl w.d),some (.pl (tupI ls)),some (.ol (L.map tupI)),some (.pl (dN at_)),some (.pl (dN d)),o5,o6]=some (.nx [some (.pl w.d),some (.pl (tupI ls)),some (.ol ((ZcI w ls c L d).map tupI)),some (.pl (dN at_)),some (.pl (dN d)),p5,p6]):=by
 have hm:c∈L:=ZzU hc;obtain⟨cr,ne⟩:=I.cr c hm;have hat:atD (L.map tupI) (at_:Int)=some (tupI c):=ZcX (by rw[ZzR,hc]; rfl);have hled:=Zin hv h7 cr (show(0:Int)<=(d:Int) by omega) (by omega);have hlen:=I.len h7;unfold Zoc at hled;cases can:Zap w c d with
 | false=>rw[can]at hled;refine⟨some (.pl .none),o6,?_⟩;unfold ZcI;rw[can];simp[Zdg,hat,hled]
 | true =>
  rw[can]at hled;have lc:=ZcW hv cr (show(0:Int)<=(d:Int) by omega) (by omega);have hs:=ZdJ hv hl lc;have hsn:(Zv w ls (Zw w c d)).length<=8:=by unfold Zv;rw[Zzr,(Zbf _).length_eq,Zzr];have:=Zf9 _ _ _ (ZcV (ZC w ls) (Zw w c d));have:=lc.len;omega
  have hsb:(Zv w ls (Zw w c d)).length<1000000:=by omega
  have hpn:(Zp w ls (Zw w c d)).length<=8:=by unfold Zp; rw[Zzr]; exact hsn
  have e1:∀r:HM.Env,Zc0 ZZ (Za 1) r ((Zv w ls (Zw w c d)).map ZI)=some ((Zp w ls (Zw w c d)).map tupI):=λr=>by have e:=Zet (c:=ZZ) (e:=Za 1) (r:=r) (λp:List Int × List Int=>tupI p.1) (λp=>tupI p.2) (λ_=>true) (λp=>tupI p.2) (Zv w ls (Zw w c d)) (λp _=>rfl) (λp _ _=>by simp);rw[ZBe.mpr λ_ _=>rfl]at e;unfold Zp;rw[ZzO];exact e
  have e2:∀r:HM.Env,r[2]?=some (some (.ol (L.map tupI)))->ZaJ (tV (ZhY (Za 0) (Zl 3))) (Za 0) r ((Zp w ls (Zw w c d)).map tupI)=some (((Zp w ls (Zw w c d)).filter λp=>!L.contains p).map tupI):=λr r2=>by
   rw[ZbY tupI (λp=>!L.contains p) tupI]
   ·intro p _
    simp[r2,Zua,-ZBa]
   ·intro p _ _
    simp
  have hfl:=ZAq (λp=>!L.contains p) (Zp w ls (Zw w c d));have hbig:L.length+((Zp w ls (Zw w c d)).filter λp=>!L.contains p).length<1000000:=by omega
  have hpb:(Zp w ls (Zw w c d)).length<1000000:=by omega
  refine⟨some (.pl (tupI (Zw w c d))),some (.pl (.list ((Zp w ls (Zw w c d)).map tupI))),?_⟩;unfold ZcI;rw[can];simp[Zdg,hat,hled,hs,hsb,e1,hpb,e2,hbig,-ZBa]
theorem Zmy{at_:Nat}{c:List Int}:∀(ds:List Nat) (M:List (List Int)) (o4 o5 o6:Option B),Ze9 w ls M->M[at_]?=some c->(∀d∈ds,d<w.deeds.length) ->
  ∃p4 p5 p6,Z7 4 Zdg (ds.map dN) [some (.pl w.d),some (.pl (tupI ls)),some (.ol (M.map tupI)),some (.pl (dN at_)),o4,o5,o6]=some (.nx [some (.pl w.d),some (.pl (tupI ls)),some (.ol ((ds.foldl (ZcI w ls c) M).map tupI)),some (.pl (dN at_)),p4,p5,p6]) /\
   Ze9 w ls (ds.foldl (ZcI w ls c) M)/\(∃N,ds.foldl (ZcI w ls c) M=M++N)/\∀d∈ds,Zap w c d=true->∀p∈Zp w ls (Zw w c d),p∈ds.foldl (ZcI w ls c) M
 | [],M,o4,o5,o6,I,hc,_=>⟨o4,o5,o6,rfl,I,⟨[],by simp⟩,λd hd=>by simp at hd⟩
 | d::ds,M,o4,o5,o6,I,hc,hds=>by
  have hm:c∈M:=ZzU hc;have hd:=hds d (Zzt ..);obtain⟨p5,p6,e⟩:=ZuP hv h7 hl I hc hd o5 o6;obtain⟨N1,eN1⟩:=ZsX (w:=w) (ls:=ls) (c:=c) (L:=M) (d:=d);have hc':(ZcI w ls c M d)[at_]?=some c:=by rw[eN1,Zz4 (ZzF.mp hc).1];exact hc
  obtain⟨q4,q5,q6,f,I',⟨N2,eN2⟩,hall⟩:=Zmy ds (ZcI w ls c M d) (some (.pl (dN d))) p5 p6 (ZsT hv I hm hd) hc' λx hx=>hds x (Zzu _ hx);refine⟨q4,q5,q6,?_,I',⟨N1++N2,?_⟩,λx hx can p hp=>?_⟩
  ·rw[Zzw,ZAv,<-f]
   show(match Zdg [some (.pl w.d),some (.pl (tupI ls)),some (.ol (M.map tupI)),some (.pl (dN at_)),some (.pl (dN d)),o5,o6]with | some (.nx r')=>_ | some (.ct r')=>_ | some (.bk r')=>_ | some (.rt d)=>_ | none=>_)=_;rw[e]
  ·rw[ZAv,eN2,eN1,ZAM]
  ·rw[ZAv]
   rcases ZzH.mp hx with e' | hx
   ·subst e'
    rw[eN2];exact Zz9 _ (Zsv can hp)
   ·exact hall x hx can p hp
theorem Zlx:∀(fuel at_:Nat) (L:List (List Int)) (o4 o5 o6:Option B),Ze9 w ls L->at_<=L.length->129<=at_+fuel->(∀i c,i<at_->L[i]?=some c->∀d:Nat,d<w.deeds.length->Zap w c d=true->∀p∈Zp w ls (Zw w c d),p∈L) ->
  ∃L' p3 p4 p5 p6,Za4 (tV (op2 gLt (Za 3) (Zaz (Zl 2)))) Zd4 fuel [some (.pl w.d),some (.pl (tupI ls)),some (.ol (L.map tupI)),some (.pl (dN at_)),o4,o5,o6]=some (.nx [some (.pl w.d),some (.pl (tupI ls)),some (.ol (L'.map tupI)),p3,p4,p5,p6]) /\
   Ze9 w ls L'/\(∃N,L'=L++N)/\ZbC w ls L'
 | 0,at_,L,o4,o5,o6,I,h1,h2,_=>by have:=I.len h7;omega
 | fuel+1,at_,L,o4,o5,o6,I,h1,h2,hdone=>by
  by_cases hlt:at_<L.length
  ·have hok:okR (w.deeds.length:Int)=true:=ZcZ (by have:=hv.d2; omega)
   have hdb:w.deeds.length<1000000:=by have:=hv.d2; omega
   obtain⟨c,hc⟩:∃c,L[at_]?=some c:=⟨_,ZzD hlt⟩;obtain⟨p4,p5,p6,f,I',⟨N,eN⟩,hall⟩:=Zmy hv h7 hl (at_:=at_) (c:=c) (ZzA w.deeds.length) L o4 o5 o6 I hc λd hd=>ZzP.mp hd;generalize hM:(ZzA w.deeds.length).foldl (ZcI w ls c) L=M at *;have body:Zd4 [some (.pl w.d),some (.pl (tupI ls)),some (.ol (L.map tupI)),some (.pl (dN at_)),o4,o5,o6]=some (.nx [some (.pl w.d),some (.pl (tupI ls)),some (.ol (M.map tupI)),some (.pl (dN (at_+1))),p4,p5,p6]):=by have i0:Zbo (.pl w.d)=some [Zz6 w.many,.tuple (w.deeds.map ZR),.tuple (w.looks.map tupI),tupI w.beg,tupI w.goal]:=rfl;simp[Zd4,i0,hok,Zaa,hdb,-Zbo];simp[hok,Zaa,hdb,f]
   obtain⟨L',q3,q4,q5,q6,g,J,⟨N',eN'⟩,hcl⟩:=Zlx fuel (at_+1) M p4 p5 p6 I' (by rw[eN,ZzL]; omega) (by omega) (λi c' hi hc' d hd can p hp=>by
    by_cases e:i=at_
    ·subst e
     rw[eN,Zz4 hlt,hc]at hc';cases hc';exact hall d (ZzP.mpr hd) can p hp
    ·have hi':i<at_:=by omega
     rw[eN,Zz4 (by omega)]at hc';rw[eN];exact Zz9 _ (hdone i c' hi' hc' d hd can p hp))
   refine⟨L',q3,q4,q5,q6,?_,J,⟨N++N',by rw[eN',eN,ZAM]⟩,hcl⟩;have ht:(tV (op2 gLt (Za 3) (Zaz (Zl 2)))) [some (.pl w.d),some (.pl (tupI ls)),some (.ol (L.map tupI)),some (.pl (dN at_)),o4,o5,o6]=some true:=by simp[hlt]
   unfold Za4;rw[ht];dsimp only;rw[body];exact g
  ·have e:at_=L.length:=by omega
   have ht:(tV (op2 gLt (Za 3) (Zaz (Zl 2)))) [some (.pl w.d),some (.pl (tupI ls)),some (.ol (L.map tupI)),some (.pl (dN at_)),o4,o5,o6]=some false:=by simp[hlt]
   refine⟨L,some (.pl (dN at_)),o4,o5,o6,?_,I,⟨[],by simp⟩,λc hc d hd can p hp=>?_⟩
   ·unfold Za4
    rw[ht]
   ·obtain⟨i,hi,hq⟩:=ZBz hc
    exact hdone i c (by omega) (by rw[ZzD hi,hq]) d hd can p hp
theorem ZrZ:∃L,ZeL [w.d,tupI ls]=some (.list (L.map tupI))/\Ze9 w ls L/\ZbC w ls L/\∀p∈Zp w ls w.beg,p∈L:=by
 have hs:=ZdJ hv hl hv.bc;have hbl:=hv.bc.len;have hsb:(Zv w ls w.beg).length<1000000:=by unfold Zv;rw[Zzr,(Zbf _).length_eq,Zzr];have:=Zf9 _ _ _ (ZcV (ZC w ls) w.beg);omega
 have e1:∀r:HM.Env,Zc0 ZZ (Za 1) r ((Zv w ls w.beg).map ZI)=some ((Zp w ls w.beg).map tupI):=λr=>by have e:=Zet (c:=ZZ) (e:=Za 1) (r:=r) (λp:List Int × List Int=>tupI p.1) (λp=>tupI p.2) (λ_=>true) (λp=>tupI p.2) (Zv w ls w.beg) (λp _=>rfl) (λp _ _=>by simp);rw[ZBe.mpr λ_ _=>rfl]at e;unfold Zp;rw[ZzO];exact e
 have I0:Ze9 w ls (Zp w ls w.beg):=⟨Zkv w ls w.beg,λc hc=>⟨(Zey hv.bc hc).1,(Zey hv.bc hc).2.1⟩,λc hc=>.beg hc⟩;obtain⟨L,p3,p4,p5,p6,g,I,⟨N,eN⟩,hcl⟩:=Zlx hv h7 hl 100000 0 (Zp w ls w.beg) none none none I0 (ZAP _) (by omega) (λi c hi=>by omega);refine⟨L,?_,I,hcl,λp hp=>by rw[eN]; exact Zz9 _ hp⟩;have i0:Zbo (.pl w.d)=some [Zz6 w.many,.tuple (w.deeds.map ZR),.tuple (w.looks.map tupI),tupI w.beg,tupI w.goal]:=rfl;have g':Za4 (tV (op2 gLt (Za 3) (Zaz (Zl 2)))) Zd4 100000 [some (.pl w.d),some (.pl (tupI ls)),some (.ol ((Zp w ls w.beg).map tupI)),some (.pl (.int 0)),none,none,none]=some (.nx [some (.pl w.d),some (.pl (tupI ls)),some (.ol (L.map tupI)),p3,p4,p5,p6]):=g;show Zax (Zf0 [some (.pl w.d),some (.pl (tupI ls)),none,none,none,none,none])=_;have e':Zf0 [some (.pl w.d),some (.pl (tupI ls)),none,none,none,none,none]=some (.rt (.list (L.map tupI))):=by unfold Zf0;refine ZQ (P:=λq=>q=_) (r':=[some (.pl w.d),some (.pl (tupI ls)),some (.ol ((Zp w ls w.beg).map tupI)),none,none,none,none]) (by simp[i0,hs,hsb,e1,-Zbo]; simp[hs,hsb,e1]) ?_;refine ZQ (P:=λq=>q=_) (r':=[some (.pl w.d),some (.pl (tupI ls)),some (.ol ((Zp w ls w.beg).map tupI)),some (.pl (.int 0)),none,none,none]) (by simp) ?_;refine ZQ (P:=λq=>q=_) (r':=[some (.pl w.d),some (.pl (tupI ls)),some (.ol (L.map tupI)),p3,p4,p5,p6]) g' ?_;simp
 rw[e'];rfl
end
end HG5
namespace HG5
open PySem HM HG HG4
theorem Zo0{α:Type}(ns:List Int):gEq (.list (ns.map dI)) (.list [])=some (.bool ns.isEmpty):=by
 cases ns with
 | nil=>exact Zep (ZkI 0 []) (by decide)
 | cons n ns=>exact ZgW (ZkI 0 (n::ns)) (ZkI 0 []) (by decide) (by decide) (by simp)
theorem ZuO(L:List (List Int)):gEq (.list (L.map tupI)) (.list [])=some (.bool L.isEmpty):=by
 have h:∀L:List (List Int),nbD 2 (.list (L.map tupI))=true:=λL=>Zty λd hd=>by obtain⟨c,_,rfl⟩:=Zzx.mp hd;exact Zdn 0 c
 cases L with
 | nil=>exact Zep (h []) (by decide)
 | cons c L=>exact ZgW (h (c::L)) (h []) (by decide) (by decide) (by simp)
theorem filter_empty{α:Type}(p:α->Bool)(L:List α):(L.filter λx=>!p x).isEmpty=L.all p:=by
 induction L with
 | nil=>rfl
 | cons x L ih =>
  rw[ZAS,ZAF];cases p x with
  | true=>simpa using ih
  | false=>rfl
theorem Zjq{w:Wk}(hv:Wk.V w){c:List Int}(hc:c.length<1000):ZaD [w.d,tupI c]=some (.bool (ZY w c)):=by
 have hb:c.length<1000000:=by omega
 have i0:Zbo (.pl w.d)=some [Zz6 w.many,.tuple (w.deeds.map ZR),.tuple (w.looks.map tupI),tupI w.beg,tupI w.goal]:=rfl;have e:∀r:HM.Env,r[0]?=some (some (.pl w.d))->ZaJ (tV (ZhZ (Za 0) (bOf (eIx (Zl 1) (eC (.int 4)))))) (Za 0) r (c.map dI)=some ((c.filter λs=>!w.goal.contains s).map dI):=λr r0=>by
  rw[ZbY dI (λs=>!w.goal.contains s) dI]
  ·intro s _
   simp[r0,i0,Zoo,ZbX,-Zbo,-ZBa];simp[Zoo,ZbX,-ZBa]
  ·intro s _ _
   simp
 have g:=Zo0 (α:=Int) (c.filter λs=>!w.goal.contains s);rw[filter_empty (λs=>w.goal.contains s) c]at g;simp[ZaD,Zi7,hb,e,g,ZY,-gEq,-ZBa]
abbrev Tb:=List (List Int × Int)
def encM(M:Tb):List (List Ky × D):=M.map λp=>(Z8 p.1,dI p.2)
theorem Zcy(M:Tb)(k:List Int):Zg (encM M) (Z8 k)=(Zg M k).map dI:=by
 unfold Zg encM;rw[ZEe];have e:((λp:List Ky × D=>decide (p.1=Z8 k))∘λp:List Int × Int=>(Z8 p.1,dI p.2))=λp=>decide (p.1=k):=by
  funext p
  simp only[ZCN];exact decide_eq_decide.mpr (ZlQ p.1 k)
 rw[e];cases M.find? λp=>decide (p.1=k)<;>rfl
theorem ZiA(M:Tb)(k:List Int)(v:Int):putD (encM M) (Z8 k) (dI v)=encM (putD M k v):=by
 unfold putD;have e1:((encM M).any λp=>decide (p.1=Z8 k))=M.any λp=>decide (p.1=k):=by
  unfold encM;rw[List.any_map];congr 1
  funext p
  simp only[ZCN];exact decide_eq_decide.mpr (ZlQ p.1 k)
 rw[e1];split
 ·unfold encM
  rw[ZzO,ZzO];refine ZAJ λp _=>?_;simp only[ZCN]
  by_cases h:p.1=k
  ·rw[if_pos h,if_pos (by rw[h])]
  ·rw[if_neg h,if_neg (λe=>h (Zek e))]
 ·unfold encM
  rw[Zz0];rfl
theorem Zjr(k:List Int):Zg ([]:Tb) k=none:=rfl
theorem Zbu(x:List Int)(v:Int)(M:Tb)(k:List Int):Zg ((x,v)::M) k=if x=k then some v else Zg M k:=by
 unfold Zg;rw[ZAn]
 by_cases h:x=k<;>simp[h]
theorem ZtJ(x k:List Int)(v:Int)(M:Tb):Zg (putD M x v) k=if x=k then some v else Zg M k:=by
 have rep:∀M:Tb,Zg (M.map λp=>if p.1=x then(p.1,v)else p) k=if x=k then(Zg M k).map (λ_=>v)else Zg M k:=by
  intro M
  induction M with
  | nil=>rw[ZBf,Zjr]; split<;>rfl
  | cons p M ih =>
   obtain⟨a,b⟩:=p;rw[Zzw]
   by_cases ha:a=x
   ·rw[if_pos (show(a,b).1=x from ha),Zbu,Zbu,ih]
    show(if a=k then some v else _)=_
    by_cases hk:x=k
    ·rw[if_pos (by rw[ha,hk]),if_pos hk,if_pos (by rw[ha,hk])]; rfl
    ·rw[if_neg (by rw[ha]; exact hk),if_neg hk,if_neg hk,if_neg (by rw[ha]; exact hk)]
   ·rw[if_neg (show ¬(a,b).1=x from ha),Zbu,Zbu,ih]
    by_cases hk:a=k
    ·rw[if_pos hk,if_pos hk]
     have:x≠k:=λe=>ha (hk.trans e.symm);rw[if_neg this]
    ·rw[if_neg hk,if_neg hk]
 have app:∀M:Tb,Zg (M++[(x,v)]) k=match Zg M k with | some u=>some u | none=>if x=k then some v else none:=by
  intro M
  induction M with
  | nil=>rw[ZBs,Zbu,Zjr]
  | cons p M ih =>
   obtain⟨a,b⟩:=p;rw[ZDL,Zbu,Zbu,ih]
   by_cases hk:a=k
   ·rw[if_pos hk,if_pos hk]
   ·rw[if_neg hk,if_neg hk]
 have has:∀M:Tb,(M.any λp=>decide (p.1=x))=(Zg M x).isSome:=by
  intro M
  induction M with
  | nil=>rfl
  | cons p M ih =>
   obtain⟨a,b⟩:=p;rw[ZA8,Zbu,ih]
   by_cases ha:a=x<;>simp[ha]
 unfold putD;split
 ·rename_i h
  rw[rep]
  by_cases hk:x=k
  ·subst hk
   rw[has]at h;rw[if_pos rfl,if_pos rfl];obtain⟨u,hu⟩:=ZzZ.mp h;rw[hu]; rfl
  ·rw[if_neg hk,if_neg hk]
 ·rename_i h
  rw[app]
  by_cases hk:x=k
  ·subst hk
   rw[has]at h;rw[if_pos rfl,if_pos rfl];cases hq:Zg M x with
   | none=>rfl
   | some u=>rw[hq]at h; exact absurd rfl h
  ·rw[if_neg hk,if_neg hk]
   cases Zg M k<;>rfl
theorem ZjY(x:List Int)(v:Int)(M:Tb):(putD M x v).length<=M.length+1:=by
 unfold putD;split
 ·rw[Zzr]; omega
 ·rw[ZzL]; exact ZzB _
def ZE(M:Tb)(p:List Int):Bool:=(Zg M p).isSome
def ZdN(w:Wk)(ls c:List Int)(M:Tb):Bool:=(ZzA w.deeds.length).any λd=>Zap w c d&&(Zp w ls (Zw w c d)).all λp=>ZE M p
section
variable{w:Wk}(hv:Wk.V w)(h7:w.many<=7){ls:List Int}(hl:Cr w.looks.length ls)
include hv h7 hl
theorem Zqu{c:List Int}(hc:Cr w.many c){M:Tb}{d:Nat}(hd:d<w.deeds.length)(o5:Option B) :
  ((Zap w c d&&(Zp w ls (Zw w c d)).all λp=>ZE M p)=true->ZX [some (.pl w.d),some (.pl (tupI ls)),some (.pl (tupI c)),some (.pl (.dict (Ze (encM M)))),some (.pl (dN d)),o5]=some (.rt (.bool true))) /\
  ((Zap w c d&&(Zp w ls (Zw w c d)).all λp=>ZE M p)=false->∃p5,ZX [some (.pl w.d),some (.pl (tupI ls)),some (.pl (tupI c)),some (.pl (.dict (Ze (encM M)))),some (.pl (dN d)),o5]=some (.nx [some (.pl w.d),some (.pl (tupI ls)),some (.pl (tupI c)),some (.pl (.dict (Ze (encM M)))),some (.pl (dN d)),p5])):=by
 have hled:=Zin hv h7 hc (show(0:Int)<=(d:Int) by omega) (by omega);unfold Zoc at hled;cases can:Zap w c d with
 | false=>rw[can]at hled;refine⟨λh=>(by cases h),λ_=>⟨some (.pl .none),?_⟩⟩;simp[ZX,hled]
 | true =>
  rw[can]at hled;have lc:=ZcW hv hc (show(0:Int)<=(d:Int) by omega) (by omega);have hs:=ZdJ hv hl lc;have hsb:(Zv w ls (Zw w c d)).length<1000000:=by unfold Zv;rw[Zzr,(Zbf _).length_eq,Zzr];have:=Zf9 _ _ _ (ZcV (ZC w ls) (Zw w c d));have:=lc.len;omega
  have e1:∀r:HM.Env,r[3]?=some (some (.pl (.dict (Ze (encM M)))))->Zc0 (tV (Zct (Za 1) (Zl 5))) (Za 1) r ((Zv w ls (Zw w c d)).map ZI)=some (((Zp w ls (Zw w c d)).filter λp=>!ZE M p).map tupI):=λr r3=>by have e:=Zet (c:=tV (Zct (Za 1) (Zl 5))) (e:=Za 1) (r:=r) (λp:List Int × List Int=>tupI p.1) (λp=>tupI p.2) (λp=>!ZE M p.2) (λp=>tupI p.2) (Zv w ls (Zw w c d)) (λp _=>by have hk:ZaT (tupI p.2)=some (Z8 p.2):=ZaA p.2;simp[r3,dec_enc,hk,Zcy,ZE]) (λp _ _=>by simp);have e':((Zv w ls (Zw w c d)).map λp:List Int × List Int=>Zz1 [tupI p.1,tupI p.2])=(Zv w ls (Zw w c d)).map ZI:=rfl;rw[<-e',e];unfold Zp;rw[List.filter_map,ZzO];rfl
  have g:=ZuO ((Zp w ls (Zw w c d)).filter λp=>!ZE M p);rw[filter_empty]at g;cases ha:(Zp w ls (Zw w c d)).all λp=>ZE M p with
  | true=>rw[ha]at g;refine⟨λ_=>?_,λh=>(by cases h)⟩;simp[ZX,hled,hs,hsb,e1,g,-gEq]
  | false=>rw[ha]at g;refine⟨λh=>(by cases h),λ_=>⟨some (.pl (tupI (Zw w c d))),?_⟩⟩;simp[ZX,hled,hs,hsb,e1,g,-gEq]
theorem Zmq{c:List Int}(hc:Cr w.many c){M:Tb}:∀(ds:List Nat) (o4 o5:Option B),(∀d∈ds,d<w.deeds.length) ->
  ((ds.any λd=>Zap w c d&&(Zp w ls (Zw w c d)).all λp=>ZE M p)=true->Z7 4 ZX (ds.map dN) [some (.pl w.d),some (.pl (tupI ls)),some (.pl (tupI c)),some (.pl (.dict (Ze (encM M)))),o4,o5]=some (.rt (.bool true))) /\
  ((ds.any λd=>Zap w c d&&(Zp w ls (Zw w c d)).all λp=>ZE M p)=false->∃p4 p5,Z7 4 ZX (ds.map dN) [some (.pl w.d),some (.pl (tupI ls)),some (.pl (tupI c)),some (.pl (.dict (Ze (encM M)))),o4,o5]=some (.nx [some (.pl w.d),some (.pl (tupI ls)),some (.pl (tupI c)),some (.pl (.dict (Ze (encM M)))),p4,p5]))
 | [],o4,o5,_=>⟨λh=>(by cases h),λ_=>⟨o4,o5,rfl⟩⟩
 | d::ds,o4,o5,hds=>by
  obtain⟨t1,t2⟩:=Zqu hv h7 hl hc (M:=M) (hds d (Zzt ..)) o5;rw[ZA8];cases hq:(Zap w c d&&(Zp w ls (Zw w c d)).all λp=>ZE M p)with
  | true=>refine⟨λ_=>?_,λh=>(by cases h)⟩;rw[Zzw];show(match ZX [some (.pl w.d),some (.pl (tupI ls)),some (.pl (tupI c)),some (.pl (.dict (Ze (encM M)))),some (.pl (dN d)),o5]with | some (.nx r')=>_ | some (.ct r')=>_ | some (.bk r')=>_ | some (.rt d)=>_ | none=>_)=_;rw[t1 hq]
  | false =>
   obtain⟨p5,e⟩:=t2 hq;obtain⟨i1,i2⟩:=Zmq hc ds (some (.pl (dN d))) p5 λx hx=>hds x (Zzu _ hx);have e5:Z7 4 ZX ((d::ds).map dN) [some (.pl w.d),some (.pl (tupI ls)),some (.pl (tupI c)),some (.pl (.dict (Ze (encM M)))),o4,o5]=Z7 4 ZX (ds.map dN) [some (.pl w.d),some (.pl (tupI ls)),some (.pl (tupI c)),some (.pl (.dict (Ze (encM M)))),some (.pl (dN d)),p5]:=by rw[Zzw];show(match ZX [some (.pl w.d),some (.pl (tupI ls)),some (.pl (tupI c)),some (.pl (.dict (Ze (encM M)))),some (.pl (dN d)),o5]with | some (.nx r')=>_ | some (.ct r')=>_ | some (.bk r')=>_ | some (.rt d)=>_ | none=>_)=_;rw[e]
   rw[e5,ZCK];exact⟨i1,i2⟩
theorem ZsU{c:List Int}(hc:Cr w.many c){M:Tb}:Zb1 [w.d,tupI ls,tupI c,.dict (Ze (encM M))]=some (.bool (ZdN w ls c M)):=by
 obtain⟨i1,i2⟩:=Zmq hv h7 hl hc (M:=M) (ZzA w.deeds.length) none none λd hd=>ZzP.mp hd;have hok:okR (w.deeds.length:Int)=true:=ZcZ (by have:=hv.d2; omega);have hdb:w.deeds.length<1000000:=by have:=hv.d2; omega
 have i0:Zbo (.pl w.d)=some [Zz6 w.many,.tuple (w.deeds.map ZR),.tuple (w.looks.map tupI),tupI w.beg,tupI w.goal]:=rfl;show Zax (Zbx [some (.pl w.d),some (.pl (tupI ls)),some (.pl (tupI c)),some (.pl (.dict (Ze (encM M)))),none,none])=_;unfold ZdN;cases h:(ZzA w.deeds.length).any λd=>Zap w c d&&(Zp w ls (Zw w c d)).all λp=>ZE M p with
 | true =>
  have e:Zbx [some (.pl w.d),some (.pl (tupI ls)),some (.pl (tupI c)),some (.pl (.dict (Ze (encM M)))),none,none]=some (.rt (.bool true)):=by simp[Zbx,i0,-Zbo];simp[hok,Zaa,hdb,i1 h]
  rw[e]; rfl
 | false =>
  obtain⟨p4,p5,f⟩:=i2 h;have e:Zbx [some (.pl w.d),some (.pl (tupI ls)),some (.pl (tupI c)),some (.pl (.dict (Ze (encM M)))),none,none]=some (.rt (.bool false)):=by simp[Zbx,i0,-Zbo];simp[hok,Zaa,hdb,f]
  rw[e]; rfl
end
end HG5
namespace HG5
open PySem HM HG HG4
def ZcH(w:Wk)(ls:List Int)(t:Nat)(c:List Int):Option Int:=((ZzA (t+1)).find? λn=>Win w ls n c).map λ(n:Nat)=>(n:Int)
theorem ZcB{w:Wk}{ls:List Int}{t:Nat}{c:List Int}:(ZcH w ls t c).isSome=Win w ls t c:=by
 unfold ZcH;rw[ZAY];cases h:Win w ls t c with
 | true=>rw[ZCF]; exact⟨t,ZzP.mpr (by omega),h⟩
 | false =>
  cases q:(ZzA (t+1)).find? λn=>Win w ls n c with
  | none=>rfl
  | some n=>have h1:=ZC6 q;have h2:=ZzP.mp (ZBo q);rw[Ze5 (show n<=t by omega) h1]at h;cases h
theorem ZrG{w:Wk}{ls:List Int}{t:Nat}{c:List Int}:ZcH w ls (t+1) c=match ZcH w ls t c with
  | some k=>some k
  | none=>if Win w ls (t+1) c then some ((t+1:Nat):Int)else none:=by
 unfold ZcH;rw[List.range_succ (n:=t+1),ZDv];cases(ZzA (t+1)).find? λn=>Win w ls n c with
 | some n=>rfl
 | none=>show ZBi _ (Option.or none ([t+1].find? λn=>Win w ls n c))=_;rw[Option.none_or,ZAn];cases Win w ls (t+1) c<;>rfl
theorem Ze3{w:Wk}{ls:List Int}{t:Nat}{c:List Int}{k:Int}(h:ZcH w ls t c=some k):∃n:Nat,k=(n:Int)/\n<=t/\Win w ls n c=true/\∀m,m<n->Win w ls m c=false:=by
 unfold ZcH at h;obtain⟨n,hn,rfl⟩:=Zzs.mp h;refine⟨n,rfl,?_,ZC6 (p:=λn=>Win w ls n c) hn,λm hm=>?_⟩
 ·have:=ZzP.mp (ZBo hn)
  omega
 ·cases q:Win w ls m c with
  | false=>rfl
  | true =>
   obtain⟨_,as,bs,e,hno⟩:=ZC7.mp hn;have hmem:m∈ZzA (t+1):=ZzP.mpr (by have:=ZzP.mp (ZBo hn);omega);have hp:(as++n::bs).Pairwise (· < ·):=by rw[<-e]; exact ZD7
   rw[e]at hmem;rcases ZzX.mp hmem with h1 | h1
   ·have:=hno m h1
    rw[q]at this;cases this
   ·rcases ZzH.mp h1 with h2 | h2
    ·omega
    ·have:=(ZAc.mp (ZCa.mp hp).2.1).1 m h2
     omega
structure Zfs(w:Wk)(ls:List Int)(L:List (List Int))(t:Nat)(M:Tb):Prop where
 look:∀c,Zg M c=if c∈L then ZcH w ls t c else none
theorem Zhe(v:Int)(k:List Int):∀(ms:List (List Int)) (M:Tb),Zg (ms.foldl (λM c=>putD M c v) M) k=if k∈ms then some v else Zg M k
 | [],M=>by simp
 | c::ms,M=>by
  rw[ZAv,Zhe v k ms,ZtJ]
  by_cases h1:k∈ms
  ·rw[if_pos h1,if_pos (Zzu _ h1)]
  ·rw[if_neg h1]
   by_cases h2:c=k
   ·rw[if_pos h2,if_pos (by rw[h2]; exact Zzt ..)]
   ·rw[if_neg h2,if_neg]
    intro h;rcases ZzH.mp h with e | e
    ·exact h2 e.symm
    ·exact h1 e
theorem Zg8(v:Int):∀(ms:List (List Int)) (M:Tb),(ms.foldl (λM c=>putD M c v) M).length<=M.length+ms.length
 | [],M=>ZzB _
 | c::ms,M=>by rw[ZAv,ZzG];have:=Zg8 v ms (putD M c v);have:=ZjY c v M;omega
def ZaZ(w:Wk)(ls:List Int)(L:List (List Int))(M:Tb):List (List Int):=L.filter λc=>!ZE M c&&ZdN w ls c M
theorem Zis{w:Wk}{ls:List Int}{L:List (List Int)}(hL:ZbC w ls L){t:Nat}{M:Tb}(T:Zfs w ls L t M):Zfs w ls L (t+1) ((ZaZ w ls L M).foldl (λM c=>putD M c ((t+1:Nat):Int)) M):=by
 have hhas:∀c∈L,ZE M c=Win w ls t c:=λc hc=>by unfold ZE;rw[T.look,if_pos hc,ZcB]
 refine⟨λc=>?_⟩;rw[Zhe,T.look]
 by_cases hc:c∈L
 ·rw[if_pos hc,if_pos hc,ZrG]
  have hcan:ZdN w ls c M=(ZzA w.deeds.length).any λd=>Zap w c d&&(Zp w ls (Zw w c d)).all λp=>Win w ls t p:=by
   unfold ZdN;apply ZC2.mpr;rw[ZAg,ZAg]
   constructor
   ·rintro ⟨d,hd,hq⟩
    rw[ZzK]at hq;refine⟨d,hd,?_⟩;rw[ZzK];refine⟨hq.1,Zzz.mpr λp hp=>?_⟩;rw[<-hhas p (hL c hc d (ZzP.mp hd) hq.1 p hp)];exact Zzz.mp hq.2 p hp
   ·rintro ⟨d,hd,hq⟩
    rw[ZzK]at hq;refine⟨d,hd,?_⟩;rw[ZzK];refine⟨hq.1,Zzz.mpr λp hp=>?_⟩;rw[hhas p (hL c hc d (ZzP.mp hd) hq.1 p hp)];exact Zzz.mp hq.2 p hp
  have hmem:c∈ZaZ w ls L M↔(Win w ls t c=false/\ZdN w ls c M=true):=by
   unfold ZaZ;rw[Zz5,ZzK,hhas c hc]
   constructor
   ·rintro ⟨_,h1,h2⟩
    exact⟨by simpa using h1,h2⟩
   ·rintro ⟨h1,h2⟩
    exact⟨hc,by simp[h1],h2⟩
  cases hw:Win w ls t c with
  | true =>
   have hs:(ZcH w ls t c).isSome=true:=by rw[ZcB]; exact hw
   obtain⟨k,hk⟩:=ZzZ.mp hs;rw[if_neg (λh=>by rw[hw]at hmem; cases(hmem.mp h).1),hk]
  | false =>
   have hs:ZcH w ls t c=none:=by
    have:=ZcB (w:=w) (ls:=ls) (t:=t) (c:=c);rw[hw]at this;cases q:ZcH w ls t c with
    | none=>rfl
    | some k=>rw[q]at this; cases this
   have hth:ZY w c=false:=by
    cases q:ZY w c with
    | false=>rfl
    | true=>have:Win w ls t c=true:=Ze5 (ZAP t) (show Win w ls 0 c=true from q);rw[hw]at this;cases this
   have hwin:Win w ls (t+1) c=ZdN w ls c M:=by rw[hcan];show(ZY w c||_)=_;rw[hth,ZCK]
   rw[hs];dsimp only;rw[hwin];cases hcw:ZdN w ls c M with
   | true=>rw[if_pos (hmem.mpr ⟨hw,hcw⟩),if_pos rfl]
   | false=>rw[if_neg (λh=>by have:=(hmem.mp h).2; rw[hcw]at this; cases this)]; rfl
 ·rw[if_neg hc,if_neg hc,if_neg]
  intro h;exact hc (Zz5.mp h).1
def M0(w:Wk)(L:List (List Int)):Tb:=(L.filter λc=>ZY w c).foldl (λM c=>putD M c 0) []
theorem Zij{w:Wk}{ls:List Int}{L:List (List Int)}:Zfs w ls L 0 (M0 w L):=by
 refine⟨λc=>?_⟩;unfold M0;rw[Zhe,Zjr];have e:ZcH w ls 0 c=if ZY w c then some 0 else none:=by unfold ZcH;show ZBi _ (([0]:List Nat).find? λn=>Win w ls n c)=_;rw[ZAn];show ZBi _ (match Win w ls 0 c with | true=>some 0 | false=>_)=_;have:Win w ls 0 c=ZY w c:=rfl;rw[this];cases ZY w c<;>rfl
 rw[e]
 by_cases hc:c∈L
 ·rw[if_pos hc]
  cases ht:ZY w c with
  | true=>rw[if_pos (Zz5.mpr ⟨hc,ht⟩)]; rfl
  | false=>rw[if_neg (λh=>by have:=(Zz5.mp h).2; rw[ht]at this; cases this)]; rfl
 ·rw[if_neg hc,if_neg λh=>hc (Zz5.mp h).1]
section
variable{w:Wk}(hv:Wk.V w)(h7:w.many<=7){ls:List Int}(hl:Cr w.looks.length ls){L:List (List Int)}(I:Ze9 w ls L)
include hv h7 hl I
theorem Zmf(e2 e5 e6:Option B):∀(cs:List (List Int)) (M:Tb) (o4:Option B),(∀c∈cs,c∈L)->M.length+cs.length<100000 ->
  ∃p4,Z7 4 Zby (cs.map tupI) [some (.pl w.d),some (.pl (tupI ls)),e2,some (.ot (encM M)),o4,e5,e6]=some (.nx [some (.pl w.d),some (.pl (tupI ls)),e2,some (.ot (encM ((cs.filter λc=>ZY w c).foldl (λM c=>putD M c 0) M))),p4,e5,e6])
 | [],M,o4,_,_=>⟨o4,rfl⟩
 | c::cs,M,o4,hcs,hlen=>by
  rw[ZzG]at hlen;have hc:=(I.cr c (hcs c (Zzt ..))).1;have hcl:=hc.len;have ht:=Zjq hv (c:=c) (by omega);have hml:(encM M).length<1000000:=by unfold encM; rw[Zzr]; omega
  have hk:ZaT (tupI c)=some (Z8 c):=ZaA c;have hput:=ZiA M c 0;have hpl:=ZjY c 0 M;rw[Zzw,ZAS];cases hth:ZY w c with
  | true =>
   rw[hth]at ht;have e:Zby [some (.pl w.d),some (.pl (tupI ls)),e2,some (.ot (encM M)),some (.pl (tupI c)),e5,e6]=some (.nx [some (.pl w.d),some (.pl (tupI ls)),e2,some (.ot (encM (putD M c 0))),some (.pl (tupI c)),e5,e6]):=by rw[<-hput];simp[Zby,ht,hk,hml]
   obtain⟨p4,ih⟩:=Zmf e2 e5 e6 cs (putD M c 0) (some (.pl (tupI c))) (λx hx=>hcs x (Zzu _ hx)) (by omega);refine⟨p4,?_⟩;rw[if_pos rfl,ZAv,<-ih];show(match Zby [some (.pl w.d),some (.pl (tupI ls)),e2,some (.ot (encM M)),some (.pl (tupI c)),e5,e6]with | some (.nx r')=>_ | some (.ct r')=>_ | some (.bk r')=>_ | some (.rt d)=>_ | none=>_)=_;rw[e]
  | false =>
   rw[hth]at ht;have e:Zby [some (.pl w.d),some (.pl (tupI ls)),e2,some (.ot (encM M)),some (.pl (tupI c)),e5,e6]=some (.nx [some (.pl w.d),some (.pl (tupI ls)),e2,some (.ot (encM M)),some (.pl (tupI c)),e5,e6]):=by simp[Zby,ht]
   obtain⟨p4,ih⟩:=Zmf e2 e5 e6 cs M (some (.pl (tupI c))) (λx hx=>hcs x (Zzu _ hx)) (by omega);refine⟨p4,?_⟩;rw[if_neg (by simp),<-ih];show(match Zby [some (.pl w.d),some (.pl (tupI ls)),e2,some (.ot (encM M)),some (.pl (tupI c)),e5,e6]with | some (.nx r')=>_ | some (.ct r')=>_ | some (.bk r')=>_ | some (.rt d)=>_ | none=>_)=_;rw[e]
theorem ZlV(e2 e5:Option B)(M:Tb):∀(cs ms:List (List Int)) (o4:Option B),(∀c∈cs,c∈L)->ms.length+cs.length<100000 ->
  ∃p4,Z7 4 Zbd (cs.map tupI) [some (.pl w.d),some (.pl (tupI ls)),e2,some (.ot (encM M)),o4,e5,some (.ol (ms.map tupI))]=some (.nx [some (.pl w.d),some (.pl (tupI ls)),e2,some (.ot (encM M)),p4,e5,some (.ol ((ms++ZaZ w ls cs M).map tupI))])
 | [],ms,o4,_,_=>⟨o4,by unfold ZaZ; simp[Z7]⟩
 | c::cs,ms,o4,hcs,hlen=>by
  rw[ZzG]at hlen;have hc:=(I.cr c (hcs c (Zzt ..))).1;have hw:=ZsU hv h7 hl hc (M:=M);have hk:ZaT (tupI c)=some (Z8 c):=ZaA c;have hlk:=Zcy M c;have hmb:ms.length<1000000:=by omega
  have em:ZaZ w ls (c::cs) M=if(!ZE M c&&ZdN w ls c M)=true then c::ZaZ w ls cs M else ZaZ w ls cs M:=by unfold ZaZ; rw[ZAS]
  cases hq:(!ZE M c&&ZdN w ls c M)with
  | true =>
   have hq':=hq;rw[ZzK]at hq';have h1:ZE M c=false:=by simpa using hq'.1
   have h1':Zg M c=none:=by
    have h1:(Zg M c).isSome=false:=h1;cases q:Zg M c with
    | none=>rfl
    | some k=>rw[q]at h1; cases h1
   rw[h1']at hlk;have e:Zbd [some (.pl w.d),some (.pl (tupI ls)),e2,some (.ot (encM M)),some (.pl (tupI c)),e5,some (.ol (ms.map tupI))]=some (.nx [some (.pl w.d),some (.pl (tupI ls)),e2,some (.ot (encM M)),some (.pl (tupI c)),e5,some (.ol ((ms++[c]).map tupI))]):=by rw[hq'.2]at hw;simp[Zbd,hk,hlk,hw,hmb]
   obtain⟨p4,ih⟩:=ZlV e2 e5 M cs (ms++[c]) (some (.pl (tupI c))) (λx hx=>hcs x (Zzu _ hx)) (by rw[ZzL,ZAO]; omega);refine⟨p4,?_⟩;rw[em,hq,if_pos rfl,show ms++c::ZaZ w ls cs M=(ms++[c])++ZaZ w ls cs M by simp,<-ih,Zzw];show(match Zbd [some (.pl w.d),some (.pl (tupI ls)),e2,some (.ot (encM M)),some (.pl (tupI c)),e5,some (.ol (ms.map tupI))]with | some (.nx r')=>_ | some (.ct r')=>_ | some (.bk r')=>_ | some (.rt d)=>_ | none=>_)=_;rw[e]
  | false =>
   have e:Zbd [some (.pl w.d),some (.pl (tupI ls)),e2,some (.ot (encM M)),some (.pl (tupI c)),e5,some (.ol (ms.map tupI))]=some (.nx [some (.pl w.d),some (.pl (tupI ls)),e2,some (.ot (encM M)),some (.pl (tupI c)),e5,some (.ol (ms.map tupI))]):=by
    cases h1:Zg M c with
    | some k=>rw[h1]at hlk; simp[Zbd,hk,hlk]
    | none =>
     have h2:ZE M c=false:=by unfold ZE; rw[h1]; rfl
     rw[h2]at hq;have h3:ZdN w ls c M=false:=by simpa using hq
     rw[h3]at hw;rw[h1]at hlk;simp[Zbd,hk,hlk,hw]
   obtain⟨p4,ih⟩:=ZlV e2 e5 M cs ms (some (.pl (tupI c))) (λx hx=>hcs x (Zzu _ hx)) (by omega);refine⟨p4,?_⟩;rw[em,hq,if_neg (by simp),<-ih,Zzw];show(match Zbd [some (.pl w.d),some (.pl (tupI ls)),e2,some (.ot (encM M)),some (.pl (tupI c)),e5,some (.ol (ms.map tupI))]with | some (.nx r')=>_ | some (.ct r')=>_ | some (.bk r')=>_ | some (.rt d)=>_ | none=>_)=_;rw[e]
end
theorem ZsE(e0 e1 e2 e6:Option B)(v:Int):∀(ms:List (List Int)) (M:Tb) (o4:Option B),M.length+ms.length<100000 ->
  ∃p4,Z7 4 Zc9 (ms.map tupI) [e0,e1,e2,some (.ot (encM M)),o4,some (.pl (dI v)),e6]=some (.nx [e0,e1,e2,some (.ot (encM (ms.foldl (λM c=>putD M c v) M))),p4,some (.pl (dI v)),e6])
 | [],M,o4,_=>⟨o4,rfl⟩
 | c::ms,M,o4,hlen=>by
  rw[ZzG]at hlen;have hml:(encM M).length<1000000:=by unfold encM; rw[Zzr]; omega
  have hk:ZaT (tupI c)=some (Z8 c):=ZaA c;have hput:=ZiA M c v;have hpl:=ZjY c v M;have e:Zc9 [e0,e1,e2,some (.ot (encM M)),some (.pl (tupI c)),some (.pl (dI v)),e6]=some (.nx [e0,e1,e2,some (.ot (encM (putD M c v))),some (.pl (tupI c)),some (.pl (dI v)),e6]):=by rw[<-hput];simp[Zc9,hk,hml]
  obtain⟨p4,ih⟩:=ZsE e0 e1 e2 e6 v ms (putD M c v) (some (.pl (tupI c))) (by omega);refine⟨p4,?_⟩;rw[Zzw,ZAv,<-ih];show(match Zc9 [e0,e1,e2,some (.ot (encM M)),some (.pl (tupI c)),some (.pl (dI v)),e6]with | some (.nx r')=>_ | some (.ct r')=>_ | some (.bk r')=>_ | some (.rt d)=>_ | none=>_)=_;rw[e]
end HG5
namespace HG5
open PySem HM HG HG4
section
variable{w:Wk}(hv:Wk.V w)(h7:w.many<=7){ls:List Int}(hl:Cr w.looks.length ls){L:List (List Int)}(I:Ze9 w ls L)
include hv h7 hl I
theorem Zsa{M:Tb}(hM:M.length<50000)(v:Int)(o4 o6:Option B) :
  ∃p4 p6,Zcp [some (.pl w.d),some (.pl (tupI ls)),some (.pl (.list (L.map tupI))),some (.ot (encM M)),o4,some (.pl (dI v)),o6] =
   some (.nx [some (.pl w.d),some (.pl (tupI ls)),some (.pl (.list (L.map tupI))),some (.ot (encM ((ZaZ w ls L M).foldl (λM c=>putD M c v) M))),p4,some (.pl (dI v)),p6]):=by
 have hlen:=I.len h7;have hLb:L.length<1000000:=by omega
 obtain⟨p4,e1⟩:=ZlV hv h7 hl I (some (.pl (.list (L.map tupI)))) (some (.pl (dI v))) M L [] o4 (λ_ h=>h) (by simp; omega);have hml:(ZaZ w ls L M).length<=L.length:=ZAq _ _;have hmb:(ZaZ w ls L M).length<1000000:=by omega
 obtain⟨q4,e2⟩:=ZsE (some (.pl w.d)) (some (.pl (tupI ls))) (some (.pl (.list (L.map tupI)))) (some (.pl (.list ((ZaZ w ls L M).map tupI)))) v (ZaZ w ls L M) M p4 (by omega);rw[ZBf,ZBs]at e1;refine⟨q4,some (.pl (.list ((ZaZ w ls L M).map tupI))),?_⟩;simp[Zcp,hLb,e1,hmb,e2]
theorem Zjp(hL:ZbC w ls L):∀(n t:Nat) (M:Tb) (o4 o5 o6:Option B),Zfs w ls L t M->M.length<=128*(t+1)->t+n<=128 ->
  ∃M' p4 p5 p6,Z7 5 Zcp ((ZDg (t+1) n).map dN) [some (.pl w.d),some (.pl (tupI ls)),some (.pl (.list (L.map tupI))),some (.ot (encM M)),o4,o5,o6] =
   some (.nx [some (.pl w.d),some (.pl (tupI ls)),some (.pl (.list (L.map tupI))),some (.ot (encM M')),p4,p5,p6])/\Zfs w ls L (t+n) M'
 | 0,t,M,o4,o5,o6,T,_,_=>⟨M,o4,o5,o6,rfl,T⟩
 | n+1,t,M,o4,o5,o6,T,hM,ht=>by obtain⟨p4,p6,e⟩:=Zsa hv h7 hl I (M:=M) (by omega) ((t+1:Nat):Int) o4 o6;have T':=Zis hL T;have hlen:=I.len h7;have hml:(ZaZ w ls L M).length<=L.length:=ZAq _ _;have hfl:=Zg8 ((t+1:Nat):Int) (ZaZ w ls L M) M;have hM1:((ZaZ w ls L M).foldl (λM c=>putD M c ((t+1:Nat):Int)) M).length<=128*(t+1+1):=ZAd hfl (by omega);obtain⟨M',q4,q5,q6,f,T''⟩:=Zjp hL n (t+1) _ p4 (some (.pl (dN (t+1)))) p6 T' hM1 (by omega);refine⟨M',q4,q5,q6,?_,by rw[show t+(n+1)=t+1+n by omega]; exact T''⟩;rw[List.range'_succ,Zzw,<-f];show(match Zcp [some (.pl w.d),some (.pl (tupI ls)),some (.pl (.list (L.map tupI))),some (.ot (encM M)),o4,some (.pl (dN (t+1))),o6]with | some (.nx r')=>_ | some (.ct r')=>_ | some (.bk r')=>_ | some (.rt d)=>_ | none=>_)=_;rw[e]
end
theorem Zrr(n:Nat):Zb4 1 n=(ZDg 1 n).map dN:=by unfold Zb4;rw[List.range'_eq_map_range,ZzO];refine ZAJ λk _=>?_;show Zz6 (1+(k:Int))=Zz6 ((1+k:Nat):Int);congr 1
section
variable{w:Wk}(hv:Wk.V w)(h7:w.many<=7){ls:List Int}(hl:Cr w.looks.length ls)
include hv h7 hl
theorem Zoe:∃L M,Zdy [w.d,tupI ls]=some (.dict (Ze (encM M)))/\Ze9 w ls L/\ZbC w ls L/\(∀p∈Zp w ls w.beg,p∈L)/\Zfs w ls L L.length M:=by
 obtain⟨L,hall,I,hL,hbeg⟩:=ZrZ hv h7 hl;have hlen:=I.len h7;have hLb:L.length<1000000:=by omega
 obtain⟨p4,e0⟩:=Zmf hv h7 hl I (some (.pl (.list (L.map tupI)))) none none L [] none (λ_ h=>h) (by simp; omega);have hm0:(M0 w L).length<=L.length:=by unfold M0;have h1:=Zg8 0 (L.filter λc=>ZY w c) [];have h2:=ZAq (λc=>ZY w c) L;exact ZAd h1 (by rw[ZDT]; omega)
 obtain⟨M,q4,q5,q6,f,T⟩:=Zjp hv h7 hl I hL L.length 0 (M0 w L) p4 none none Zij (by omega) (by omega);rw[Nat.zero_add]at T;refine⟨L,M,?_,I,hL,hbeg,T⟩;have hok1:okR 1=true:=rfl;have hok:okR ((L.length:Int)+1)=true:=by
  have:=ZcZ (n:=L.length+1) (by omega)
  rwa [show((L.length+1:Nat):Int)=(L.length:Int)+1 by omega]at this
 have hr:Zb4 1 ((L.length:Int)+1-1).toNat=(ZDg 1 L.length).map dN:=by rw[show((L.length:Int)+1-1).toNat=L.length by omega,Zrr]
 show Zax (ZeM [some (.pl w.d),some (.pl (tupI ls)),none,none,none,none,none])=_;have e:ZeM [some (.pl w.d),some (.pl (tupI ls)),none,none,none,none,none]=some (.rt (.dict (Ze (encM M)))):=by
  unfold ZeM;refine ZQ (P:=λq=>q=_) (r':=[some (.pl w.d),some (.pl (tupI ls)),some (.pl (.list (L.map tupI))),none,none,none,none]) (by simp[hall]) ?_;refine ZQ (P:=λq=>q=_) (r':=[some (.pl w.d),some (.pl (tupI ls)),some (.pl (.list (L.map tupI))),some (.ot (encM [])),none,none,none]) (by simp[encM]) ?_;refine ZQ (P:=λq=>q=_) (r':=[some (.pl w.d),some (.pl (tupI ls)),some (.pl (.list (L.map tupI))),some (.ot (encM (M0 w L))),p4,none,none]) (by simp[hLb,e0,M0]) ?_;refine ZQ (P:=λq=>q=_) (r':=[some (.pl w.d),some (.pl (tupI ls)),some (.pl (.list (L.map tupI))),some (.ot (encM M)),q4,q5,q6]) ?_ (by simp);have f':Z7 5 Zcp ((ZDg 1 L.length).map dN) [some (.pl w.d),some (.pl (tupI ls)),some (.pl (.list (L.map tupI))),some (.ot (encM (M0 w L))),p4,none,none]=some (.nx [some (.pl w.d),some (.pl (tupI ls)),some (.pl (.list (L.map tupI))),some (.ot (encM M)),q4,q5,q6]):=f;have ei:ZjV (eC (.int 1)) (op2 Zbk (Zaz (Zl 2)) (eC (.int 1))) [some (.pl w.d),some (.pl (tupI ls)),some (.pl (.list (L.map tupI))),some (.ot (encM (M0 w L))),p4,none,none]=some ((ZDg 1 L.length).map dN):=by simp[hok1,hok];rw[show((L.length:Int)+1-1).toNat=L.length by omega]at hr;exact hr
  unfold ZaN;rw[ei];dsimp only;rw[if_pos (by rw[Zzr,List.length_range']; exact hLb)];exact f'
 rw[e];rfl
end
def Zt1(w:Wk)(ls:List Int)(n:Nat):Prop:=∀p∈Zp w ls w.beg,Win w ls n p=true
def Few(w:Wk)(ls:List Int)(d:D):Prop:=(∃n:Nat,d=.int n/\Zt1 w ls n/\∀m,m<n->¬Zt1 w ls m)\/(d=.none/\∀n,¬Zt1 w ls n)
theorem Few.unique{w:Wk}{ls:List Int}{d e:D}(h1:Few w ls d)(h2:Few w ls e):d=e:=by
 rcases h1 with⟨n,rfl,a1,a2⟩ | ⟨rfl,a⟩
 ·rcases h2 with⟨m,rfl,b1,b2⟩ | ⟨rfl,b⟩
  ·have:n=m:=by
    rcases Nat.lt_trichotomy n m with h | h | h
    ·exact absurd a1 (b2 n h)
    ·exact h
    ·exact absurd b1 (a2 m h)
   rw[this]
  ·exact absurd a1 (b n)
 ·rcases h2 with⟨m,rfl,b1,b2⟩ | ⟨rfl,b⟩
  ·exact absurd b1 (a m)
  ·rfl
section
variable{w:Wk}(hv:Wk.V w)(h7:w.many<=7){ls:List Int}(hl:Cr w.looks.length ls)
include hv h7 hl
theorem Znc:∃d,Zcq [w.d,tupI ls]=some d/\Few w ls d:=by
 obtain⟨L,M,hco,I,hL,hbeg,T⟩:=Zoe hv h7 hl;have hlen:=I.len h7;have hs:=ZdJ hv hl hv.bc;have hbl:=hv.bc.len;have hsb:(Zv w ls w.beg).length<1000000:=by unfold Zv;rw[Zzr,(Zbf _).length_eq,Zzr];have:=Zf9 _ _ _ (ZcV (ZC w ls) w.beg);omega
 have hlook:∀p∈Zp w ls w.beg,Zg M p=ZcH w ls L.length p:=λp hp=>by rw[T.look,if_pos (hbeg p hp)]
 have e1:∀r:HM.Env,r[2]?=some (some (.pl (.dict (Ze (encM M)))))->Zc0 ZZ (ZjG (Zl 4) (Za 1) (eC (.int 999))) r ((Zv w ls w.beg).map ZI)=some (((Zp w ls w.beg).map λp=>(Zg M p).getD 999).map dI):=λr r2=>by
  have e:=Zet (c:=ZZ) (e:=ZjG (Zl 4) (Za 1) (eC (.int 999))) (r:=r) (λp:List Int × List Int=>tupI p.1) (λp=>tupI p.2) (λ_=>true) (λp=>dI ((Zg M p.2).getD 999)) (Zv w ls w.beg) (λp _=>rfl) (λp _ _=>by
   have hk:ZaT (tupI p.2)=some (Z8 p.2):=ZaA p.2;have hlk:=Zcy M p.2;cases hq:Zg M p.2 with
   | none=>rw[hq]at hlk; simp[r2,dec_enc,hk,hlk]
   | some k=>rw[hq]at hlk; simp[r2,dec_enc,hk,hlk])
  rw[ZBe.mpr λ_ _=>rfl]at e;have e':((Zv w ls w.beg).map λp:List Int × List Int=>Zz1 [tupI p.1,tupI p.2])=(Zv w ls w.beg).map ZI:=rfl;rw[<-e',e];unfold Zp;rw[ZzO,ZzO];rfl
 have hne:(Zp w ls w.beg).map (λp=>(Zg M p).getD 999)≠[]:=λe=>Zen hv.b1 (ZDa.mp e);obtain⟨m,hm⟩:∃m,((Zp w ls w.beg).map λp=>(Zg M p).getD 999).max?=some m:=by
  cases q:((Zp w ls w.beg).map λp=>(Zg M p).getD 999).max? with
  | none=>rw[ZCU]at q; exact absurd q hne
  | some m=>exact⟨m,rfl⟩
 obtain⟨m1,m2⟩:=ZCT.mp hm;have i0:Zbo (.pl w.d)=some [Zz6 w.many,.tuple (w.deeds.map ZR),.tuple (w.looks.map tupI),tupI w.beg,tupI w.goal]:=rfl;have ecs:∀tl:Option D,ZfN [some (.pl w.d),some (.pl (tupI ls)),none,none]=(if m=999 then some (.rt .none)else some (.rt (.int m))):=λ_=>by
  unfold ZfN;refine ZQ (P:=λq=>q=_) (r':=[some (.pl w.d),some (.pl (tupI ls)),some (.pl (.dict (Ze (encM M)))),none]) (by simp[hco]) ?_;refine ZQ (P:=λq=>q=_) (r':=[some (.pl w.d),some (.pl (tupI ls)),some (.pl (.dict (Ze (encM M)))),some (.ol (((Zp w ls w.beg).map λp=>(Zg M p).getD 999).map dI))]) (by simp[i0,hs,hsb,e1,-Zbo]; simp[hs,hsb,e1]) ?_;generalize hcs:(Zp w ls w.beg).map (λp=>(Zg M p).getD 999)=cs at *
  by_cases hq:m=999
  ·rw[if_pos hq]
   subst hq;simp[ZbX,hm]
  ·rw[if_neg hq]
   have hq':(m==999)=false:=by simp[hq]
   simp[ZbX,hm,hq']
 have hend:Zcq [w.d,tupI ls]=Zax (if m=999 then some (.rt .none)else some (.rt (.int m))):=by rw[<-ecs none];rfl
 by_cases hq:m=999
 ·rw[if_pos hq]at hend
  refine⟨.none,hend,.inr ⟨rfl,λn hn=>?_⟩⟩;subst hq;obtain⟨p,hp,e⟩:=Zzx.mp m1;rw[hlook p hp]at e;have hwin:Win w ls L.length p=true:=Zl8 hL (hbeg p hp) (hn p hp);rw[<-ZcB]at hwin;obtain⟨k,hk⟩:=ZzZ.mp hwin;obtain⟨j,rfl,hj,_⟩:=Ze3 hk;rw[hk]at e;have:((j:Nat):Int)=999:=e;omega
 ·rw[if_neg hq]at hend
  have hall:∀p∈Zp w ls w.beg,∃n:Nat,Zg M p=some (n:Int)/\(n:Int)<=m/\Win w ls n p=true/\∀j,j<n->Win w ls j p=false:=λp hp=>by
   have hle:=m2 _ (Zzx.mpr ⟨p,hp,rfl⟩);cases hk:Zg M p with
   | none =>
    rw[hk]at hle;have hle:(999:Int)<=m:=hle;obtain⟨p',hp',e⟩:=Zzx.mp m1;cases hk':Zg M p' with
    | none=>rw[hk']at e; exact absurd e.symm hq
    | some k'=>rw[hk']at e;rw[hlook p' hp']at hk';obtain⟨j,rfl,hj,_⟩:=Ze3 hk';have:((j:Nat):Int)=m:=e;omega
   | some k=>rw[hk]at hle;have hk0:=hk;rw[hlook p hp]at hk;obtain⟨n,rfl,_,h2,h3⟩:=Ze3 hk;exact⟨n,rfl,hle,h2,h3⟩
  obtain⟨p,hp,e⟩:=Zzx.mp m1;obtain⟨n,k1,k2,k3,k4⟩:=hall p hp;rw[k1]at e;have e:(n:Int)=m:=e;subst e;refine⟨_,hend,.inl ⟨n,rfl,λq hq'=>?_,λj hj hw=>?_⟩⟩
  ·obtain⟨n',a1,a2,a3,_⟩:=hall q hq'
   exact Ze5 (by omega) a3
  ·have:=hw p hp
   rw[k4 j hj]at this;cases this
end
end HG5
namespace HG5
open PySem HM HG
def ZpH:SF :=
 (ZF (eIx (Zl 0) (eC (.int 3))))
def Zdh:List D->Option D:=fnOf 1 1 ZpH
def Zq3:SF :=
 (ZF (eIx (Zl 0) (eC (.int 4))))
def ZdR:List D->Option D:=fnOf 1 1 Zq3
def Zkq:SF :=
 (ZF (ZjC (ZM (Z4 (bOf (Za 1))) ZZ (Zoi (Za 0) (bOf (Zo ZdR (Zc (Za 1) Zm)))))))
def ZbI:List D->Option D:=fnOf 2 2 Zkq
def Zi8:SF :=
 (ZF (eOf (ZM (Z4 (bOf (Za 0))) ZZ (eIx (Zl 0) (eC (.int 1))))))
def ZT:List D->Option D:=fnOf 1 1 Zi8
def Zcf(ap:AP):SF :=
 (ZjS 3 (Zjj ZT (Zc (eIx (Zl 5) (eC (.int 1))) Zm)))
def ZbF(ap:AP):SF :=
 (Zt (ZuW 4 3)
  (sIf (tV (Zct (Za 4) (Zl 2))) (Zt (ZfT 2 (Za 4) (Zdc ap 1 (Zc (Za 4) Zm)))
  (ZaN 5 (Z4 (bOf (Zam (Zl 2) (Za 4)))) (Zcf ap))) Zan))
def Zdr(ap:AP):SF :=
 (Zt (Z1 2 fDt)
  (Zt (Z1 3 (Zh0 (Zl 0)))
  (Zt (Zly 100000 (tV (op2 gGt (Zaz (Zl 3)) (eC (.int 0)))) (ZbF ap))
  (Zfi 2 (ZF (Za 2))))))
def ZbW(ap:AP):List D->Option D:=fnOf 2 6 (Zdr ap)
def ZfO(ap:AP):SF :=
 (Zt (Z1 3 (ZM (Z4 (bOf (Za 0))) ZZ (Zdc ap 3 (Zc (Za 0) (Zc (Za 2) Zm)))))
  (Zfi 3 (ZF (Zgc (ZM (Z4 (bOf (Za 3))) (tV (op2 Zgb (Za 0) (eC .none))) (Za 0))))))
def ZaU(ap:AP):List D->Option D:=fnOf 3 4 (ZfO ap)
def Zab(ap:AP):SF :=
 (sIf (tV (Zct (Za 4) (Zl 1))) (Zt (ZW 5 (Zo (ZaU ap) (Zc (Zam (Zl 0) (Za 4)) (Zc (Za 1) (Zc (Za 2) Zm)))))
  (sIf (tV (op2 Zgb (Za 5) (eC .none))) (ZfT 3 (Za 4) (Za 5)) Zan)) Zan)
def ZbA(ap:AP):List D->Option (List (List Ky × D)):=newOf 3 6
 (ZkS (Z1 3 fDt)
 (ZkS (Ze2 0 (ZaN 4 (ZaO 0) (Zab ap)))
 (Zpn 3)))
def Zdz(ap:AP):SF :=
 (ZfT 3 (Za 6) (Za 4))
def ZdA(ap:AP):SF :=
 (Zt (Zfi 5 (ZaN 6 (Z4 (bOf (Za 5))) (Zdz ap)))
  (Zt (Z1 7 (ZjL (ZbA ap) (Zc (Za 1) (Zc (Zhf (Zl 3)) (Zc (Za 2) Zm)))))
  (Zt (Zfi 7 (Ze2 7 (ZW 4 (Zgc (ZM (ZaO 7) ZZ (Zam (Zl 8) (Za 0)))))))
  (Zfi 7 (Ze2 7 (Z1 5 (ZM (ZaO 7) (tV (op2 gEq (Zam (Zl 8) (Za 0)) (Za 5))) (Za 0))))))))
def Zfv(ap:AP):SF :=
 (Zt (Z1 3 fDt)
  (Zt (ZW 4 (eC (.int 0)))
  (Zt (Ze2 1 (Z1 5 (ZM (ZaO 1) (tV (Zo ZbI (Zc (Za 1) (Zc (Za 0) Zm)))) (Za 0))))
  (Zt (Zly 100000 (tV (op2 gGt (Zaz (Zl 5)) (eC (.int 0)))) (ZdA ap))
  (Zfi 3 (ZF (Za 3)))))))
def Zdi(ap:AP):List D->Option D:=fnOf 3 8 (Zfv ap)
def Zeh:SF :=
 (Zt (Z1 2 (ZM (Z4 (bOf (Zo ZT (Zc (Za 0) Zm)))) (tV (ZoM (Za 0) (Zl 2))) (Zam (Zl 2) (Za 0))))
  (ZF (eIf (tV (op2 gEq (Zaz (Zl 2)) (Zaz (Zl 0)))) (Ziv (Zl 2)) (eC .none))))
def Zae:List D->Option D:=fnOf 2 3 Zeh
def Zi9:SF :=
 (ZF (eOf (ZM (Z4 (bOf (Zo Zcn (Zc (Za 0) (Zc (Za 2) Zm))))) ZZ (ZcF (Zc (Za 0) (Zc (Zo Zbm (Zc (Za 1) (Zc (Za 2) (Zc (Zo Zdv (Zc (Za 1) (Zc (Za 3) (Zc (Za 0) Zm)))) Zm)))) Zm))))))
def Za9:List D->Option D:=fnOf 3 3 Zi9
def Zfb(ap:AP):SF :=
 (ZF (Zim (ZbW ap) 1 [0,1] (Zo ZT (Zc (Zo Zbm (Zc (Za 0) (Zc (Za 1) (Zc (Za 2) Zm)))) Zm))))
def ZcR(ap:AP):List D->Option D:=fnOf 3 3 (Zfb ap)
def Zhg:SF :=
 (Zt (ZW 2 (Zo Zae (Zc (eIx (Zl 0) (eC (.int 1))) (Zc (Za 1) Zm))))
  (ZF (eIf (tV (op2 ZkX (Za 2) (eC .none))) (eC .none) (op2 Zbk (Za 2) (eC (.int 1))))))
def Zdj:List D->Option D:=fnOf 2 3 Zhg
def Zgl(ap:AP):SF :=
 (ZF (Zo (Zdi ap) (Zc (Za 0) (Zc (Za 1) (Zc (eC (fnD 0 [])) Zm)))))
def ZcS(ap:AP):List D->Option D:=fnOf 2 2 (Zgl ap)
end HG5
namespace HG5
open PySem HM HG HG4
theorem Zzd(w:Wk):Zbo (.pl w.d)=some [Zz6 w.many,.tuple (w.deeds.map ZR),.tuple (w.looks.map tupI),tupI w.beg,tupI w.goal]:=rfl
theorem Zqh(w:Wk):Zdh [w.d]=some (tupI w.beg):=rfl
theorem ZrK(w:Wk):ZdR [w.d]=some (tupI w.goal):=rfl
theorem Zuw{α:Type}(xs:List α)(p:α->Bool):ZfJ (xs.map λx=>ZAX (p x))=some (xs.map p):=by
 have:=Zf8 (xs.map p)
 rwa [ZzO]at this
theorem Zqj{w:Wk}{c:List Int}(hc:c.length<1000):ZbI [w.d,tupI c]=some (.bool (ZY w c)):=by
 have hb:c.length<1000000:=by omega
 have e:∀r:HM.Env,r[0]?=some (some (.pl w.d))->ZaJ ZZ (Zoi (Za 0) (bOf (Zo ZdR (Zc (Za 1) Zm)))) r (c.map dI)=some (c.map λs=>ZAX (w.goal.contains s)):=λr r0=>by
  rw[Zbj dI (λs=>ZAX (w.goal.contains s))]
  ·intro s _
   simp[r0,ZrK,Zoo,ZbX,-ZBa]
 simp[ZbI,Zkq,hb,e,Zuw,ZY,-ZBa]
theorem ZgP(g:Gs)(h:g.length<1000000):ZT [.list (g.map ZI)]=some (.list ((g.map (·.2)).map tupI)):=by
 have e:∀r:HM.Env,ZaJ ZZ (eIx (Zl 0) (eC (.int 1))) r (g.map ZI)=some ((g.map (·.2)).map tupI):=λr=>by
  rw[Zbj ZI (λp=>tupI p.2),ZzO]
  ·rfl
  ·intro p _
   rfl
 simp[ZT,Zi8,h,e]
def ZrQ(w:Wk)(ls c:List Int)(d:Int):D:=.tuple [dI d,.list ((Zv w ls (Zw w c d)).map ZI)]
def Znn(w:Wk)(ls c:List Int):D:=.list ((doV w c).map (ZrQ w ls c))
theorem split_len{w:Wk}{ls c:List Int}:(Zv w ls c).length<=c.length:=by unfold Zv;rw[Zzr,(Zbf _).length_eq,Zzr];exact Zf9 _ _ _ (ZcV (ZC w ls) c)
theorem ZjR(w:Wk)(c:List Int):(doV w c).length<=w.deeds.length:=by
 unfold doV;rw[Zzr];have:=ZAq (λ(d:Nat)=>Zap w c (d:Int)) (ZzA w.deeds.length)
 rwa [ZBw]at this
theorem ZlO{w:Wk}{c:List Int}{d:Nat}(hd:d<w.deeds.length)(hc:Zap w c d=true):(d:Int)∈doV w c:=by unfold doV;exact Zzx.mpr ⟨d,Zz5.mpr ⟨ZzP.mpr hd,hc⟩,rfl⟩
section
variable{w:Wk}(hv:Wk.V w){ls:List Int}(hl:Cr w.looks.length ls)
include hv hl
theorem Zpx{c:List Int}(hc:Cr w.many c):Za9 [w.d,tupI ls,tupI c]=some (Znn w ls c):=by
 have hdo:=Znj hv hc;have hb:(doV w c).length<1000000:=by have:=ZjR w c; have:=hv.d2; omega
 have e:∀r:HM.Env,r[0]?=some (some (.pl w.d))->r[1]?=some (some (.pl (tupI ls)))->r[2]?=some (some (.pl (tupI c))) ->
   ZaJ ZZ (ZcF (Zc (Za 0) (Zc (Zo Zbm (Zc (Za 1) (Zc (Za 2) (Zc (Zo Zdv (Zc (Za 1) (Zc (Za 3) (Zc (Za 0) Zm)))) Zm)))) Zm))) r ((doV w c).map dI)=some ((doV w c).map (ZrQ w ls c)):=λr r0 r1 r2=>by
  rw[Zbj dI (ZrQ w ls c)];intro d hd;obtain⟨d0,d1,_⟩:=Zci hd;have h1:=Ztv hv hc d0 d1;have h2:=ZjF hv hl (ZcW hv hc d0 d1);simp[r0,r1,r2,h1,h2,ZrQ]
 simp[Za9,Zi9,hdo,hb,e,Znn]
end
end HG5
namespace HG5
open PySem HM HG HG4
abbrev Wy:=D × Gs
def wyD(y:Wy):D:=.tuple [y.1,.list (y.2.map ZI)]
def wyP(y:Wy):List (List Int):=y.2.map (·.2)
abbrev Wf:=List Int->List Wy
inductive Zl6(wf:Wf)(B:List (List Int)):List Int->Prop where
 | beg {p:List Int} (h:p∈B):Zl6 wf B p
 | step {c p:List Int} {y:Wy} (r:Zl6 wf B c) (hy:y∈wf c) (h:p∈wyP y):Zl6 wf B p
structure ZhD(wf:Wf)(Ok:List Int->Prop)(B C W:List (List Int)):Prop where
 nd:C.Nodup
 cr:∀c∈C,Ok c
 wr:∀c∈W,Ok c
 rc:∀c∈C,Zl6 wf B c
 rw:∀c∈W,Zl6 wf B c
 cl:∀c∈C,∀y∈wf c,∀p∈wyP y,p∈C\/p∈W
 bg:∀p∈B,p∈C\/p∈W
def ZA(wf:Wf)(C:List (List Int)):List (List Ky × D):=C.map λc=>(Z8 c,.list ((wf c).map wyD))
theorem Zg9(wf:Wf)(C:List (List Int))(k:List Int):Zg (ZA wf C) (Z8 k)=if k∈C then some (.list ((wf k).map wyD))else none:=by
 unfold Zg ZA
 induction C with
 | nil=>rfl
 | cons c C ih =>
  rw[Zzw,ZAn]
  by_cases h:c=k
  ·subst h
   rw[if_pos (Zzt ..)];simp
  ·have h':decide ((Z8 c,(PyData.list ((wf c).map wyD))).1=Z8 k)=false:=decide_eq_false λe=>h (Zek e)
   rw[h'];dsimp only;rw[ih]
   by_cases q:k∈C
   ·rw[if_pos q,if_pos (Zzu _ q)]
   ·rw[if_neg q,if_neg λz=>by
     rcases ZzH.mp z with e | e
     ·exact h e.symm
     ·exact q e]
theorem ZuL{wf:Wf}{C:List (List Int)}{k:List Int}(h:k ∉ C):putD (ZA wf C) (Z8 k) (.list ((wf k).map wyD))=ZA wf (C++[k]):=by
 unfold putD;rw[if_neg]
 ·unfold ZA
  rw[Zz0];rfl
 ·intro z
  obtain⟨p,hp,e⟩:=ZAg.mp z;unfold ZA at hp;obtain⟨c,hc,rfl⟩:=Zzx.mp hp;have e:=Zek (of_decide_eq_true e);subst e;exact h hc
theorem ZmJ(wf:Wf)(L:List (List Int)):((ZA wf L).map λp=>Zz1 (p.1.map ZaM))=L.map tupI:=by unfold ZA;rw[ZzO];refine ZAJ λc _=>?_;show Zz1 ((c.map ZBk).map ZaM)=Zz1 (c.map dI);rw[ZzO];rfl
def Zl7(wf:Wf)(c:List Int):List (List Int):=(wf c).flatMap wyP
theorem ZhD.old{wf:Wf}{Ok:List Int->Prop}{B C V:List (List Int)}{p:List Int}(I:ZhD wf Ok B C (V++[p]))(hp:p∈C):ZhD wf Ok B C V:=by
 have key:∀q,q∈C\/q∈V++[p]->q∈C\/q∈V:=λq h=>by
  rcases h with h | h
  ·exact .inl h
  ·rcases ZzX.mp h with h | h
   ·exact .inr h
   ·rw[ZzI.mp h]; exact .inl hp
 exact⟨I.nd,I.cr,λc h=>I.wr c (Zz9 _ h),I.rc,λc h=>I.rw c (Zz9 _ h),λc hc y hy q hq=>key q (I.cl c hc y hy q hq),λq hq=>key q (I.bg q hq)⟩
structure Zsb(wf:Wf)(Ok:List Int->Prop):Prop where
 ok:∀c,Ok c->∀y∈wf c,∀p∈wyP y,Ok p
 ys:∀c,Ok c->(wf c).length<=10
 ps:∀c,Ok c->∀y∈wf c,y.2.length<=8
 cs:∀C:List (List Int),C.Nodup->(∀c∈C,Ok c)->C.length<=128
theorem ZhD.new{wf:Wf}{Ok:List Int->Prop}(O:Zsb wf Ok){B C V:List (List Int)}{p:List Int}(I:ZhD wf Ok B C (V++[p]))(hp:p ∉ C):ZhD wf Ok B (C++[p]) (V++Zl7 wf p):=by
 have hpc:=I.wr p (ZzT _ (ZzI.mpr rfl));have hpr:=I.rw p (ZzT _ (ZzI.mpr rfl));have key:∀q,q∈C\/q∈V++[p]->q∈C++[p]\/q∈V++Zl7 wf p:=λq h=>by
  rcases h with h | h
  ·exact .inl (Zz9 _ h)
  ·rcases ZzX.mp h with h | h
   ·exact .inr (Zz9 _ h)
   ·exact .inl (ZzT _ h)
 refine⟨?_,λc h=>?_,λc h=>?_,λc h=>?_,λc h=>?_,λc h y hy q hq=>?_,λq hq=>key q (I.bg q hq)⟩
 ·rw[ZBc]
  refine⟨I.nd,by simp,λx hx y hy e=>?_⟩;rw[ZzI.mp hy]at e;exact hp (e▸hx)
 ·rcases ZzX.mp h with h | h
  ·exact I.cr c h
  ·rw[ZzI.mp h]; exact hpc
 ·rcases ZzX.mp h with h | h
  ·exact I.wr c (Zz9 _ h)
  ·obtain⟨y,hy,hq⟩:=ZBR.mp h
   exact O.ok p hpc y hy c hq
 ·rcases ZzX.mp h with h | h
  ·exact I.rc c h
  ·rw[ZzI.mp h]; exact hpr
 ·rcases ZzX.mp h with h | h
  ·exact I.rw c (Zz9 _ h)
  ·obtain⟨y,hy,hq⟩:=ZBR.mp h
   exact .step hpr hy hq
 ·rcases ZzX.mp h with h | h
  ·exact key q (I.cl c h y hy q hq)
  ·rw[ZzI.mp h]at hy
   exact .inr (ZzT _ (ZBR.mpr ⟨y,hy,hq⟩))
theorem ZuC{wf:Wf}{Ok:List Int->Prop}(O:Zsb wf Ok){c:List Int}(hc:Ok c):(Zl7 wf c).length<=80:=by
 have key:∀ys:List Wy,(∀y∈ys,y∈wf c)->(ys.flatMap wyP).length<=8*ys.length:=by
  intro ys
  induction ys with
  | nil=>intro _; exact ZzB 0
  | cons y ys ih =>
   intro h;rw[List.flatMap_cons,ZzL,ZzG];have h1:=ih λx hx=>h x (Zzu _ hx);have h2:=O.ps c hc y (h y (Zzt ..));have h3:(wyP y).length=y.2.length:=by unfold wyP; rw[Zzr]
   omega
 have h1:=key (wf c) λ_ h=>h;have h2:=O.ys c hc;unfold Zl7;omega
theorem Zs4(ap:AP)(e0 e1 e2 e4:Option B):∀(ys:List Wy) (W:List (List Int)) (o:Option B),(∀y∈ys,y.2.length<=8)->W.length+8*ys.length<900000 ->
  ∃o',Z7 5 (Zcf ap) (ys.map wyD) [e0,e1,e2,some (.ol (W.map tupI)),e4,o]=some (.nx [e0,e1,e2,some (.ol ((W++ys.flatMap wyP).map tupI)),e4,o'])
 | [],W,o,_,_=>⟨o,by rw[List.flatMap_nil,Zz8]; rfl⟩
 | y::ys,W,o,hds,hlen=>by
  rw[ZzG]at hlen;have hb:=hds y (Zzt ..);have hci:=ZgP y.2 (by omega);have hpl:(wyP y).length<=8:=by unfold wyP; rw[Zzr]; exact hb
  have body:Zcf ap [e0,e1,e2,some (.ol (W.map tupI)),e4,some (.pl (wyD y))]=some (.nx [e0,e1,e2,some (.ol ((W++wyP y).map tupI)),e4,some (.pl (wyD y))]):=by
   have h1:Zjj ZT (Zc (eIx (Zl 5) (eC (.int 1))) Zm) [e0,e1,e2,some (.ol (W.map tupI)),e4,some (.pl (wyD y))]=some (.ol ((wyP y).map tupI)):=by unfold Zjj;show(match ZT [.list (y.2.map ZI)]with | some (.list ys)=>some (B.ol ys) | _=>none)=_;rw[hci];rfl
   unfold Zcf ZjS;rw[h1];show(if _ then _ else _)=_;rw[if_pos (by rw[Zzr,Zzr]; show _<1000000; omega),Zz0];rfl
  obtain⟨o',ih⟩:=Zs4 ap e0 e1 e2 e4 ys (W++wyP y) (some (.pl (wyD y))) (λx hx=>hds x (Zzu _ hx)) (by rw[ZzL]; omega);refine⟨o',?_⟩;rw[List.flatMap_cons,<-ZAM,<-ih,Zzw];show(match Zcf ap [e0,e1,e2,some (.ol (W.map tupI)),e4,some (.pl (wyD y))]with | some (.nx r')=>_ | some (.ct r')=>_ | some (.bk r')=>_ | some (.rt d)=>_ | none=>_)=_;rw[body]
theorem Zkx(wf:Wf)(C:List (List Int))(p:List Int)(r:HM.Env)(i j:Nat)(h1:r[i]?=some (some (.pl (tupI p))))(h2:r[j]?=some (some (.ot (ZA wf C)))):tV (Zct (Za i) (Zl j)) r=some (!decide (p∈C)):=by
 have hk:ZaT (tupI p)=some (Z8 p):=ZaA p;have hlk:=Zg9 wf C p
 by_cases hp:p∈C
 ·rw[if_pos hp]at hlk
  simp[h1,h2,hk,hlk,hp]
 ·rw[if_neg hp]at hlk
  simp[h1,h2,hk,hlk,hp]
theorem ZjW(t:Nat)(cs:List D):ZiI (fnD t cs)=some (t,cs):=rfl
section
variable{ap:AP}{wf:Wf}{Ok:List Int->Prop}(O:Zsb wf Ok){t:Nat}{cs:List D}(ha:∀c,Ok c->ap t cs [tupI c]=some (.list ((wf c).map wyD)))
include O ha
omit ha O in
theorem Zt4{C V:List (List Int)}{p:List Int}(e0 e1 o4 o5:Option B)(hp:p∈C) :
  ZbF ap [e0,e1,some (.ot (ZA wf C)),some (.ol ((V++[p]).map tupI)),o4,o5]=some (.nx [e0,e1,some (.ot (ZA wf C)),some (.ol (V.map tupI)),some (.pl (tupI p)),o5]):=by
 unfold ZbF;refine ZQ (P:=λq=>q=_) (r':=[e0,e1,some (.ot (ZA wf C)),some (.ol (V.map tupI)),some (.pl (tupI p)),o5]) ?_ ?_
 ·rw[Zz0]
  simp
 ·have ht:=Zkx wf C p [e0,e1,some (.ot (ZA wf C)),some (.ol (V.map tupI)),some (.pl (tupI p)),o5] 4 2 rfl rfl
  rw[decide_eq_true hp]at ht;unfold sIf;rw[ht];rfl
theorem ZuZ{C V:List (List Int)}{p:List Int}(e0 o4 o5:Option B)(hp:p ∉ C)(hc:Ok p)(hC:C.length<1000)(hV:V.length<100000) :
  ∃o5',ZbF ap [e0,some (.pl (fnD t cs)),some (.ot (ZA wf C)),some (.ol ((V++[p]).map tupI)),o4,o5]=some (.nx [e0,some (.pl (fnD t cs)),some (.ot (ZA wf (C++[p]))),some (.ol ((V++Zl7 wf p).map tupI)),some (.pl (tupI p)),o5']):=by
 have hdl:=O.ys p hc;obtain⟨o5',go⟩:=Zs4 ap e0 (some (.pl (fnD t cs))) (some (.ot (ZA wf (C++[p])))) (some (.pl (tupI p))) (wf p) V o5 (λy hy=>O.ps p hc y hy) (by omega);refine⟨o5',?_⟩;unfold ZbF;refine ZQ (P:=λq=>q=_) (r':=[e0,some (.pl (fnD t cs)),some (.ot (ZA wf C)),some (.ol (V.map tupI)),some (.pl (tupI p)),o5]) ?_ ?_
 ·rw[Zz0]
  simp
 ·have ht:=Zkx wf C p [e0,some (.pl (fnD t cs)),some (.ot (ZA wf C)),some (.ol (V.map tupI)),some (.pl (tupI p)),o5] 4 2 rfl rfl
  rw[decide_eq_false hp]at ht;unfold sIf;rw[ht];show Zt _ _ _=_;have hk:ZaT (tupI p)=some (Z8 p):=ZaA p;have hww:=ha p hc;have hcl:(ZA wf C).length<1000000:=by unfold ZA; rw[Zzr]; omega
  refine ZQ (P:=λq=>q=_) (r':=[e0,some (.pl (fnD t cs)),some (.ot (ZA wf (C++[p]))),some (.ol (V.map tupI)),some (.pl (tupI p)),o5]) ?_ ?_
  ·rw[<-ZuL hp]
   have hv:Zdc ap 1 (Zc (Za 4) Zm) [e0,some (.pl (fnD t cs)),some (.ot (ZA wf C)),some (.ol (V.map tupI)),some (.pl (tupI p)),o5]=some (.list ((wf p).map wyD)):=by unfold Zdc;show(match ZiI (fnD t cs)with | some (t,cs)=>_ | none=>none)=_;rw[ZjW];exact hww
   unfold ZfT;rw[hv];show(match ZaT (tupI p)with | some y=>_ | none=>none)=_;rw[hk];dsimp only;rw[if_pos (show _<big from hcl)];rfl
  ·have hlk:=Zg9 wf (C++[p]) p
   rw[if_pos (ZzT _ (ZzI.mpr rfl))]at hlk;have hi:Z4 (bOf (Zam (Zl 2) (Za 4))) [e0,some (.pl (fnD t cs)),some (.ot (ZA wf (C++[p]))),some (.ol (V.map tupI)),some (.pl (tupI p)),o5]=some ((wf p).map wyD):=by simp[hk,hlk]
   unfold ZaN;rw[hi];dsimp only;rw[if_pos (by rw[Zzr]; show _<1000000; omega)];exact go
theorem Zfm(B:List (List Int))(e0:Option HM.B):∀(fuel:Nat) (C W:List (List Int)) (o4 o5:Option HM.B),ZhD wf Ok B C W->(128-C.length)*81+W.length<fuel->(128-C.length)*81+W.length<60000 ->
  ∃C' o4' o5',Za4 (tV (op2 gGt (Zaz (Zl 3)) (eC (.int 0)))) (ZbF ap) fuel [e0,some (.pl (fnD t cs)),some (.ot (ZA wf C)),some (.ol (W.map tupI)),o4,o5]=some (.nx [e0,some (.pl (fnD t cs)),some (.ot (ZA wf C')),some (.ol []),o4',o5'])/\ZhD wf Ok B C' []
 | 0,C,W,o4,o5,I,h,_=>by omega
 | fuel+1,C,W,o4,o5,I,h,hW=>by
  have hlen:=O.cs C I.nd I.cr
  by_cases hw:W=[]
  ·subst hw
   refine⟨C,o4,o5,?_,I⟩;unfold Za4;have ht:(tV (op2 gGt (Zaz (Zl 3)) (eC (.int 0)))) [e0,some (.pl (fnD t cs)),some (.ot (ZA wf C)),some (.ol (([]:List (List Int)).map tupI)),o4,o5]=some false:=by simp
   rw[ht];rfl
  ·obtain⟨V,p,rfl⟩:∃V p,W=V++[p]:=⟨W.dropLast,W.getLast hw,(List.dropLast_concat_getLast hw).symm⟩
   rw[ZzL,ZAO]at h hW;have ht:(tV (op2 gGt (Zaz (Zl 3)) (eC (.int 0)))) [e0,some (.pl (fnD t cs)),some (.ot (ZA wf C)),some (.ol ((V++[p]).map tupI)),o4,o5]=some true:=by simp
   by_cases hp:p∈C
   ·obtain⟨C',o4',o5',g,J⟩:=Zfm B e0 fuel C V (some (.pl (tupI p))) o5 (I.old hp) (by omega) (by omega)
    refine⟨C',o4',o5',?_,J⟩;unfold Za4;rw[ht];dsimp only;rw[Zt4 e0 _ o4 o5 hp];exact g
   ·have hpc:=I.wr p (ZzT _ (ZzI.mpr rfl))
    have J0:=I.new O hp;have hl2:=O.cs _ J0.nd J0.cr;rw[ZzL,ZAO]at hl2;have hbl:=ZuC O hpc;obtain⟨q5,e⟩:=ZuZ O ha (V:=V) e0 o4 o5 hp hpc (by omega) (by omega);obtain⟨C',o4',o5',g,J⟩:=Zfm B e0 fuel (C++[p]) (V++Zl7 wf p) (some (.pl (tupI p))) q5 J0 (by rw[ZzL,ZzL,ZAO]; omega) (by rw[ZzL,ZzL,ZAO]; omega);refine⟨C',o4',o5',?_,J⟩;unfold Za4;rw[ht];dsimp only;rw[e];exact g
theorem Zrk{B:List (List Int)}(hB:∀c∈B,Ok c)(hl:B.length<=100):∃L,ZbW ap [.list (B.map tupI),fnD t cs]=some (.dict (Ze (ZA wf L)))/\ZhD wf Ok B L []:=by
 have I0:ZhD wf Ok B [] B:=⟨.nil,λc h=>(by simp at h),hB,λc h=>(by simp at h),λc h=>.beg h,λc h=>(by simp at h),λp h=>.inr h⟩;obtain⟨L,o4,o5,g,J⟩:=Zfm O ha B (some (.pl (.list (B.map tupI)))) 100000 [] B none none I0 (by simp; omega) (by simp; omega);refine⟨L,?_,J⟩;show Zax (Zdr ap [some (.pl (.list (B.map tupI))),some (.pl (fnD t cs)),none,none,none,none])=_;have e:Zdr ap [some (.pl (.list (B.map tupI))),some (.pl (fnD t cs)),none,none,none,none]=some (.rt (.dict (Ze (ZA wf L)))):=by unfold Zdr;refine ZQ (P:=λq=>q=_) (r':=[some (.pl (.list (B.map tupI))),some (.pl (fnD t cs)),some (.ot (ZA wf [])),none,none,none]) rfl ?_;refine ZQ (P:=λq=>q=_) (r':=[some (.pl (.list (B.map tupI))),some (.pl (fnD t cs)),some (.ot (ZA wf [])),some (.ol (B.map tupI)),none,none]) rfl ?_;refine ZQ (P:=λq=>q=_) g ?_;simp
 rw[e];rfl
end
theorem ZeA(n:Nat)(p:List Int):noF (n+1) (tupI p)=true:=by show(p.map dI).all (noF n)=true;rw[List.all_map];exact Zzz.mpr λx _=>by cases n<;>rfl
theorem Zwb(n:Nat)(i:Int):noF n (.int i)=true:=by cases n<;>rfl
theorem Zew{n:Nat}{ds:List D}(h:∀d∈ds,noF n d=true):noF (n+1) (.tuple ds)=true:=Zzz.mpr h
theorem Zok{n:Nat}{ds:List D}(h:∀d∈ds,noF n d=true):noF (n+1) (.list ds)=true:=Zzz.mpr h
theorem ZtV(n:Nat)(p:List Int × List Int):noF (n+2) (ZI p)=true:=Zew λd hd=>by
 rcases ZzH.mp hd with e | hd
 ·subst e; exact ZeA n _
 ·rw[ZzI.mp hd]; exact ZeA n _
theorem ZxB{n:Nat}{y:Wy}(h:noF (n+3) y.1=true):noF (n+4) (wyD y)=true:=Zew λd hd=>by
 rcases ZzH.mp hd with e | hd
 ·subst e; exact h
 ·rw[ZzI.mp hd]
  exact Zok λd hd=>by obtain⟨p,_,rfl⟩:=Zzx.mp hd;exact ZtV n p
theorem Zyq{wf:Wf}{n:Nat}{L:List (List Int)}(h:∀c∈L,∀y∈wf c,noF (n+3) y.1=true):noF (n+6) (.dict (Ze (ZA wf L)))=true:=by show(Ze (ZA wf L)).all _=true;refine Zzz.mpr λp hp=>?_;unfold Ze ZA at hp;rw[ZzO]at hp;obtain⟨c,hc,rfl⟩:=Zzx.mp hp;show noF (n+5) (.list ((wf c).map wyD))=true;exact Zok λd hd=>by obtain⟨y,hy,rfl⟩:=Zzx.mp hd;exact ZxB (h c hc y hy)
theorem Zye(w:Wk):noF 20 w.d=true:=by
 refine Zew λd hd=>?_;have h:∀x:List (List Int),∀d∈x.map tupI,noF 17 d=true:=λx d hd=>by obtain⟨p,_,rfl⟩:=Zzx.mp hd;exact ZeA 16 p
 have hd:=ZzH.mp hd;rcases hd with e | hd
 ·subst e; rfl
 rcases ZzH.mp hd with e | hd
 ·subst e
  exact Zew λd hd=>by obtain⟨x,_,rfl⟩:=Zzx.mp hd;exact Zew (h x)
 rcases ZzH.mp hd with e | hd
 ·subst e
  exact Zew λd hd=>by obtain⟨x,_,rfl⟩:=Zzx.mp hd;exact ZeA 17 x
 rcases ZzH.mp hd with e | hd
 ·subst e; exact ZeA 18 _
 ·rw[ZzI.mp hd]; exact ZeA 18 _
end HG5
namespace HG5
open PySem HM HG HG4
def oI:Option Int->D
 | some k=>.int k
 | none=>.none
abbrev Cb:=Wy->Tb->Option Int
def Zb3(cb:Cb)(ys:List Wy)(M:Tb):Option Int:=(ys.filterMap λy=>cb y M).min?
def Za0(wf:Wf)(cb:Cb)(L:List (List Int))(M:Tb):Tb:=L.filterMap λc=>if ZE M c then none else(Zb3 cb (wf c) M).map λk=>(c,k)
def ZbZ(T:Tb):Option Int:=(T.map (·.2)).min?
def Ze6(T:Tb):List (List Int):=(T.filter λp=>some p.2==ZbZ T).map (·.1)
def Zbh(found:List (List Int))(k:Int)(M:Tb):Tb:=found.foldl (λM c=>putD M c k) M
inductive ZiK(wf:Wf)(cb:Cb)(L:List (List Int)):Tb->Option Int->List (List Int)->Tb->Prop where
 | done {M:Tb} {k:Option Int}:ZiK wf cb L M k [] M
 | step {M R:Tb} {k:Int} {found:List (List Int)} (hf:found≠[]) (h:ZiK wf cb L (Zbh found k M) (ZbZ (Za0 wf cb L (Zbh found k M))) (Ze6 (Za0 wf cb L (Zbh found k M))) R):ZiK wf cb L M (some k) found R
theorem ZpC:∀os:List (Option Int),ZaP ((os.filter ZCd).map oI)=some (os.filterMap id)
 | []=>rfl
 | none::os=>ZpC os
 | some k::os=>by show(ZaP ((os.filter ZCd).map oI)).map (k::·)=_;rw[ZpC os];rfl
theorem ZiU{ap:AP}{t:Nat}{cs:List D}{cb:Cb}{ys:List Wy}{M:Tb}(hy:ys.length<1000)(ha:∀y∈ys,ap t cs [wyD y,.dict (Ze (encM M))]=some (oI (cb y M))) :
  ZaU ap [.list (ys.map wyD),.dict (Ze (encM M)),fnD t cs]=some (oI (Zb3 cb ys M)):=by
 show Zax (ZfO ap [some (.pl (.list (ys.map wyD))),some (.pl (.dict (Ze (encM M)))),some (.pl (fnD t cs)),none])=_;have hb:ys.length<big:=by show _<1000000; omega
 have e1:ZaJ ZZ (Zdc ap 3 (Zc (Za 0) (Zc (Za 2) Zm))) [some (.pl (.list (ys.map wyD))),some (.pl (.dict (Ze (encM M)))),some (.pl (fnD t cs)),none] (ys.map wyD)=some ((ys.map λy=>cb y M).map oI):=by
  rw[Zbj wyD (λy=>oI (cb y M)),ZzO]
  ·rfl
  ·intro y h
   show(match ZiI (fnD t cs)with | some (t,cs)=>_ | none=>none)=_;rw[ZjW];exact ha y h
 have e2:ZaJ (tV (op2 Zgb (Za 0) (eC .none))) (Za 0) [some (.pl (.list (ys.map wyD))),some (.pl (.dict (Ze (encM M)))),some (.pl (fnD t cs)),some (.pl (.list ((ys.map λy=>cb y M).map oI)))] ((ys.map λy=>cb y M).map oI)=some (((ys.map λy=>cb y M).filter ZCd).map oI):=by
  rw[ZbY oI ZCd oI]
  ·intro o _
   cases o<;>rfl
  ·intro o _ _
   rfl
 unfold ZfO;refine ZQ (P:=λq=>Zax q=_) (r':=[some (.pl (.list (ys.map wyD))),some (.pl (.dict (Ze (encM M)))),some (.pl (fnD t cs)),some (.ol ((ys.map λy=>cb y M).map oI))]) ?_ ?_
 ·unfold Z1 ZM
  show ZBi _ (if(ys.map wyD).length<big then _ else _)=_;rw[if_pos (by rw[Zzr]; exact hb),e1];rfl
 ·show Zax (ZBi Out.rt (Zgc _ [some (.pl (.list (ys.map wyD))),some (.pl (.dict (Ze (encM M)))),some (.pl (fnD t cs)),some (.pl (.list ((ys.map λy=>cb y M).map oI)))]))=_
  have e3:ZM (Z4 (bOf (Za 3))) (tV (op2 Zgb (Za 0) (eC .none))) (Za 0) [some (.pl (.list (ys.map wyD))),some (.pl (.dict (Ze (encM M)))),some (.pl (fnD t cs)),some (.pl (.list ((ys.map λy=>cb y M).map oI)))]=some (.ol (((ys.map λy=>cb y M).filter ZCd).map oI)):=by unfold ZM;show(if((ys.map λy=>cb y M).map oI).length<big then _ else none)=_;rw[if_pos (by rw[Zzr,Zzr]; exact hb),e2];rfl
  unfold Zgc;rw[e3];show Zax (ZBi Out.rt (match ZaP (((ys.map λy=>cb y M).filter ZCd).map oI)with | some ns=>some (match ns.min? with | some i=>Zz6 i | none=>.none) | none=>none))=_;rw[ZpC];show some (match((ys.map λy=>cb y M).filterMap id).min? with | some i=>Zz6 i | none=>.none)=_;unfold Zb3;rw[List.filterMap_map];show some (match(ys.filterMap λy=>cb y M).min? with | some i=>Zz6 i | none=>.none)=_;cases(ys.filterMap λy=>cb y M).min?<;>rfl
theorem Zuv{M:Tb}{c:List Int}{k:Int}(h:ZE M c=false):putD M c k=M++[(c,k)]:=by unfold putD;rw[if_neg];intro z;obtain⟨p,hp,e⟩:=ZAg.mp z;have e:=of_decide_eq_true e;unfold ZE Zg at h;rw[ZAY]at h;have:(M.find? λp=>decide (p.1=c)).isSome=true:=ZCF.mpr ⟨p,hp,decide_eq_true e⟩;rw[h]at this;cases this
theorem Zr2(M N:Tb)(c:List Int):ZE (M++N) c=(ZE M c||ZE N c):=by unfold ZE Zg;rw[ZDv,ZAY,ZAY,ZAY,Option.isSome_or]
theorem ZvR{M:Tb}{c:List Int}:ZE M c=true↔∃k,(c,k)∈M:=by
 unfold ZE Zg;rw[ZAY,ZCF]
 constructor
 ·rintro ⟨⟨c',k⟩,h,e⟩
  have e:=of_decide_eq_true e;exact⟨k,by rw[<-e]; exact h⟩
 ·rintro ⟨k,h⟩
  exact⟨_,h,decide_eq_true rfl⟩
theorem Zwi{wf:Wf}{cb:Cb}{L:List (List Int)}{M:Tb}{c:List Int}{k:Int}:(c,k)∈Za0 wf cb L M↔c∈L/\ZE M c=false/\Zb3 cb (wf c) M=some k:=by
 unfold Za0;rw[ZAA]
 constructor
 ·rintro ⟨c',h1,h2⟩
  split at h2
  ·cases h2
  ·rename_i hn
   obtain⟨k',h3,h4⟩:=Zzs.mp h2;cases h4;exact⟨h1,by simpa using hn,h3⟩
 ·rintro ⟨h1,h2,h3⟩
  exact⟨c,h1,by rw[h2,h3]; rfl⟩
section
variable{ap:AP}{wf:Wf}{L:List (List Int)}{t:Nat}{cs:List D}{cb:Cb}(hnd:L.Nodup)(hlen:L.length<=128)(hys:∀c∈L,(wf c).length<1000)(ha:∀c∈L,∀y∈wf c,∀M,ap t cs [wyD y,.dict (Ze (encM M))]=some (oI (cb y M)))
include hys ha
theorem ZqD{M:Tb}:∀(K:List (List Int)) (acc:Tb) (o4 o5:Option B),(∀c∈K,c∈L)->K.Nodup->(∀c∈K,ZE acc c=false)->Zbc o4=false->Zbc o5=false->acc.length+K.length<100000 ->
  ∃p4 p5,Zbc p4=false/\Zbc p5=false/\Z7 4 (Zab ap) (K.map tupI) [some (.hd (Ze (ZA wf L))),some (.pl (.dict (Ze (encM M)))),some (.pl (fnD t cs)),some (.ot (encM acc)),o4,o5] =
   some (.nx [some (.hd (Ze (ZA wf L))),some (.pl (.dict (Ze (encM M)))),some (.pl (fnD t cs)),some (.ot (encM (acc++Za0 wf cb K M))),p4,p5])
 | [],acc,o4,o5,_,_,_,h4,h5,_=>⟨o4,o5,h4,h5,by show some (Out.nx _)=_; rw[show Za0 wf cb [] M=[] from rfl,Zz8]⟩
 | c::K,acc,o4,o5,hK,hn,hacc,h4,h5,hl=>by
  rw[ZzG]at hl;have hc:=hK c (Zzt ..);have hk:ZaT (tupI c)=some (Z8 c):=ZaA c;have hlk:=Zcy M c;have hlr:=Zg9 wf L c;rw[if_pos hc]at hlr;have hlc:=ZiU (ap:=ap) (t:=t) (cs:=cs) (cb:=cb) (ys:=wf c) (M:=M) (hys c hc) λy hy=>ha c hc y hy M;have hcons:Za0 wf cb (c::K) M=(if ZE M c then[]else match Zb3 cb (wf c) M with | some k=>[(c,k)] | none=>[])++Za0 wf cb K M:=by
   unfold Za0;rw[ZAI];cases ZE M c with
   | true=>rfl
   | false=>cases Zb3 cb (wf c) M<;>rfl
  have step:∀(acc':Tb) (p5:Option B),Zbc p5=false->(∀x∈K,ZE acc' x=false)->acc'.length+K.length<100000->Zab ap [some (.hd (Ze (ZA wf L))),some (.pl (.dict (Ze (encM M)))),some (.pl (fnD t cs)),some (.ot (encM acc)),some (.pl (tupI c)),o5] =
     some (.nx [some (.hd (Ze (ZA wf L))),some (.pl (.dict (Ze (encM M)))),some (.pl (fnD t cs)),some (.ot (encM acc')),some (.pl (tupI c)),p5])->acc'++Za0 wf cb K M=acc++Za0 wf cb (c::K) M ->
    ∃p4 p5,Zbc p4=false/\Zbc p5=false/\Z7 4 (Zab ap) ((c::K).map tupI) [some (.hd (Ze (ZA wf L))),some (.pl (.dict (Ze (encM M)))),some (.pl (fnD t cs)),some (.ot (encM acc)),o4,o5] =
     some (.nx [some (.hd (Ze (ZA wf L))),some (.pl (.dict (Ze (encM M)))),some (.pl (fnD t cs)),some (.ot (encM (acc++Za0 wf cb (c::K) M))),p4,p5]):=λacc' p5 hp5 hx hl' e eq=>by
   obtain⟨q4,q5,g4,g5,ih⟩:=ZqD (M:=M) K acc' (some (.pl (tupI c))) p5 (λx hx=>hK x (Zzu _ hx)) (ZAh.mp hn).2 hx rfl hp5 hl';refine⟨q4,q5,g4,g5,?_⟩;rw[<-eq,<-ih,Zzw];show(match Zab ap [some (.hd (Ze (ZA wf L))),some (.pl (.dict (Ze (encM M)))),some (.pl (fnD t cs)),some (.ot (encM acc)),some (.pl (tupI c)),o5]with | some (.nx r')=>_ | some (.ct r')=>_ | some (.bk r')=>_ | some (.rt d)=>_ | none=>_)=_;rw[e]
  have hKa:∀x∈K,ZE acc x=false:=λx hx=>hacc x (Zzu _ hx);cases hq:Zg M c with
  | some k =>
   have hh:ZE M c=true:=by unfold ZE; rw[hq]; rfl
   rw[hq]at hlk;refine step acc o5 h5 hKa (by omega) ?_ (by rw[hcons,hh]; rfl);have ht:tV (Zct (Za 4) (Zl 1)) [some (.hd (Ze (ZA wf L))),some (.pl (.dict (Ze (encM M)))),some (.pl (fnD t cs)),some (.ot (encM acc)),some (.pl (tupI c)),o5]=some false:=by simp[dec_enc,hk,hlk]
   unfold Zab sIf;rw[ht];rfl
  | none =>
   have hh:ZE M c=false:=by unfold ZE; rw[hq]; rfl
   rw[hq]at hlk;have ht:tV (Zct (Za 4) (Zl 1)) [some (.hd (Ze (ZA wf L))),some (.pl (.dict (Ze (encM M)))),some (.pl (fnD t cs)),some (.ot (encM acc)),some (.pl (tupI c)),o5]=some true:=by simp[dec_enc,hk,hlk]
   have hca:Zo (ZaU ap) (Zc (Zam (Zl 0) (Za 4)) (Zc (Za 1) (Zc (Za 2) Zm))) [some (.hd (Ze (ZA wf L))),some (.pl (.dict (Ze (encM M)))),some (.pl (fnD t cs)),some (.ot (encM acc)),some (.pl (tupI c)),o5]=some (oI (Zb3 cb (wf c) M)):=by
    have hg:Zam (Zl 0) (Za 4) [some (.hd (Ze (ZA wf L))),some (.pl (.dict (Ze (encM M)))),some (.pl (fnD t cs)),some (.ot (encM acc)),some (.pl (tupI c)),o5]=some (.list ((wf c).map wyD)):=by simp[dec_enc,hk,hlr]
    unfold Zo Zc;rw[hg];exact hlc
   have hs5:ZW 5 (Zo (ZaU ap) (Zc (Zam (Zl 0) (Za 4)) (Zc (Za 1) (Zc (Za 2) Zm)))) [some (.hd (Ze (ZA wf L))),some (.pl (.dict (Ze (encM M)))),some (.pl (fnD t cs)),some (.ot (encM acc)),some (.pl (tupI c)),o5]=some (.nx [some (.hd (Ze (ZA wf L))),some (.pl (.dict (Ze (encM M)))),some (.pl (fnD t cs)),some (.ot (encM acc)),some (.pl (tupI c)),some (.pl (oI (Zb3 cb (wf c) M)))]):=by unfold ZW;rw[hca];rfl
   cases hle:Zb3 cb (wf c) M with
   | none=>rw[hle]at hs5;refine step acc (some (.pl .none)) rfl hKa (by omega) ?_ (by rw[hcons,hh,hle]; rfl);unfold Zab sIf;rw[ht];dsimp only;refine ZQ (P:=λq=>q=_) hs5 ?_;rfl
   | some k =>
    rw[hle]at hs5;have hput:=Zuv (k:=k) (hacc c (Zzt ..));have hpe:=ZiA acc c k;have hal:(encM acc).length<1000000:=by unfold encM; rw[Zzr]; omega
    refine step (acc++[(c,k)]) (some (.pl (.int k))) rfl (λx hx=>?_) (by rw[ZzL,ZAO]; omega) ?_ (by rw[hcons,hh,hle,ZAM]; rfl)
    ·rw[Zr2,hKa x hx,ZCK]
     cases hb:ZE [(c,k)] x with
     | false=>rfl
     | true=>obtain⟨k',hm⟩:=ZvR.mp hb;cases ZzI.mp hm;exact absurd hx (ZAh.mp hn).1
    ·unfold Zab sIf
     rw[ht];dsimp only;refine ZQ (P:=λq=>q=_) hs5 ?_;have h2:tV (op2 Zgb (Za 5) (eC .none)) [some (.hd (Ze (ZA wf L))),some (.pl (.dict (Ze (encM M)))),some (.pl (fnD t cs)),some (.ot (encM acc)),some (.pl (tupI c)),some (.pl (oI (some k)))]=some true:=rfl;rw[h2,<-hput,<-hpe];show(match ZaT (tupI c)with | some y=>_ | none=>none)=_;rw[hk];show(if(encM acc).length<big then _ else none)=_;rw[if_pos (show _<big from hal)];rfl
include hnd hlen
theorem Znh(M:Tb):ZbA ap [.dict (Ze (ZA wf L)),.dict (Ze (encM M)),fnD t cs]=some (encM (Za0 wf cb L M)):=by
 obtain⟨p4,p5,g4,g5,go⟩:=ZqD hys ha (M:=M) L [] none none (λ_ h=>h) hnd (λ_ _=>rfl) rfl rfl (by simp; omega);have hw:ZaO 0 [some (.hd (Ze (ZA wf L))),some (.pl (.dict (Ze (encM M)))),some (.pl (fnD t cs)),some (.ot (encM [])),none,none]=some (L.map tupI):=by show(Zff (Ze (ZA wf L))).map _=_;rw[dec_enc,<-ZmJ wf L];rfl
 have hf:ZaN 4 (ZaO 0) (Zab ap) [some (.hd (Ze (ZA wf L))),some (.pl (.dict (Ze (encM M)))),some (.pl (fnD t cs)),some (.ot (encM [])),none,none]=some (.nx [some (.hd (Ze (ZA wf L))),some (.pl (.dict (Ze (encM M)))),some (.pl (fnD t cs)),some (.ot (encM (Za0 wf cb L M))),p4,p5]):=by unfold ZaN;rw[hw];dsimp only;rw[if_pos (by rw[Zzr]; show _<1000000; omega),go];rfl
 have hh:Ze2 0 (ZaN 4 (ZaO 0) (Zab ap)) [some (.pl (.dict (Ze (ZA wf L)))),some (.pl (.dict (Ze (encM M)))),some (.pl (fnD t cs)),some (.ot (encM [])),none,none]=some (.nx [some (.pl (.dict (Ze (ZA wf L)))),some (.pl (.dict (Ze (encM M)))),some (.pl (fnD t cs)),some (.ot (encM (Za0 wf cb L M))),p4,p5]):=by
  show(match ZaN 4 (ZaO 0) (Zab ap) [some (.hd (Ze (ZA wf L))),some (.pl (.dict (Ze (encM M)))),some (.pl (fnD t cs)),some (.ot (encM [])),none,none]with | some (.nx r')=>_ | some (.rt d)=>_ | _=>none)=_;rw[hf];have a2:([none,some (B.pl (.dict (Ze (encM M)))),some (.pl (fnD t cs)),some (.ot (encM (Za0 wf cb L M))),p4,p5]:HM.Env).all (λq=>!Zbc q)=true:=by simp only[ZAF,ZDM,g4,g5];rfl
  show(if([none,some (B.pl (.dict (Ze (encM M)))),some (.pl (fnD t cs)),some (.ot (encM (Za0 wf cb L M))),p4,p5]:HM.Env).all (λq=>!Zbc q)=true then _ else _)=_;rw[if_pos a2];rfl
 unfold ZbA newOf;rw[if_pos (show([PyData.dict (Ze (ZA wf L)),PyData.dict (Ze (encM M)),fnD t cs]:List D).length=3 from rfl)];show(match Z1 3 fDt [some (.pl (.dict (Ze (ZA wf L)))),some (.pl (.dict (Ze (encM M)))),some (.pl (fnD t cs)),none,none,none]with | some (.nx r')=>ZkS (Ze2 0 (ZaN 4 (ZaO 0) (Zab ap))) (Zpn 3) r' | _=>none)=_;show ZkS (Ze2 0 (ZaN 4 (ZaO 0) (Zab ap))) (Zpn 3) [some (.pl (.dict (Ze (ZA wf L)))),some (.pl (.dict (Ze (encM M)))),some (.pl (fnD t cs)),some (.ot (encM [])),none,none]=_;unfold ZkS;rw[hh];rfl
end
end HG5
namespace HG5
open PySem HM HG HG4
theorem ZqH(ap:AP)(e0 e1 e2 e5 e7:Option B)(v:Int):∀(ms:List (List Int)) (M:Tb) (o:Option B),M.length+ms.length<100000->Zbc o=false ->
  ∃p,Zbc p=false/\Z7 6 (Zdz ap) (ms.map tupI) [e0,e1,e2,some (.ot (encM M)),some (.pl (dI v)),e5,o,e7]=some (.nx [e0,e1,e2,some (.ot (encM (Zbh ms v M))),some (.pl (dI v)),e5,p,e7])
 | [],M,o,_,h=>⟨o,h,rfl⟩
 | c::ms,M,o,hlen,_=>by
  rw[ZzG]at hlen;have hml:(encM M).length<1000000:=by unfold encM; rw[Zzr]; omega
  have hk:ZaT (tupI c)=some (Z8 c):=ZaA c;have hput:=ZiA M c v;have hpl:=ZjY c v M;have e:Zdz ap [e0,e1,e2,some (.ot (encM M)),some (.pl (dI v)),e5,some (.pl (tupI c)),e7]=some (.nx [e0,e1,e2,some (.ot (encM (putD M c v))),some (.pl (dI v)),e5,some (.pl (tupI c)),e7]):=by rw[<-hput];simp[Zdz,hk,hml]
  obtain⟨p,hp,ih⟩:=ZqH ap e0 e1 e2 e5 e7 v ms (putD M c v) (some (.pl (tupI c))) (by omega) rfl;refine⟨p,hp,?_⟩;show _=some (Out.nx [e0,e1,e2,some (.ot (encM (Zbh ms v (putD M c v)))),some (.pl (dI v)),e5,p,e7]);rw[Zzw,<-ih];show(match Zdz ap [e0,e1,e2,some (.ot (encM M)),some (.pl (dI v)),e5,some (.pl (tupI c)),e7]with | some (.nx r')=>_ | some (.ct r')=>_ | some (.bk r')=>_ | some (.rt d)=>_ | none=>_)=_;rw[e]
theorem Zjy(T:Tb):((encM T).map λp=>Zz1 (p.1.map ZaM))=(T.map (·.1)).map tupI:=by unfold encM;rw[ZzO,ZzO];refine ZAJ λp _=>?_;show Zz1 ((p.1.map ZBk).map ZaM)=Zz1 (p.1.map dI);rw[ZzO];rfl
def NdT(T:Tb):Prop:=(T.map (·.1)).Nodup
theorem ZqK{T:Tb}(h:NdT T){p:List Int × Int}(hp:p∈T):Zg T p.1=some p.2:=by
 induction T with
 | nil=>simp at hp
 | cons q T ih =>
  obtain⟨c,k⟩:=q;rw[Zbu];unfold NdT at h;rw[Zzw,ZAh]at h;rcases ZzH.mp hp with e | e
  ·subst e; rw[if_pos rfl]
  ·rw[if_neg λz=>h.1 (by rw[z]; exact Zzx.mpr ⟨p,e,rfl⟩)]
   exact ih h.2 e
theorem ZwL{wf:Wf}{cb:Cb}{M:Tb}:∀{L:List (List Int)},L.Nodup->NdT (Za0 wf cb L M):=by
 intro L h;unfold NdT;have:((Za0 wf cb L M).map (·.1)).Sublist L:=by
  unfold Za0;rw[List.map_filterMap]
  clear h
  induction L with
  | nil=>exact .slnil
  | cons c L ih =>
   rw[ZAI];cases ZE M c with
   | true=>exact ih.cons c
   | false=>cases Zb3 cb (wf c) M with
    | none=>exact ih.cons c
    | some k=>exact ih.cons₂ c
 exact h.sublist this
theorem ZqL{wf:Wf}{cb:Cb}{L:List (List Int)}{M:Tb}:(Za0 wf cb L M).length<=L.length:=ZDN ..
section
variable{T:Tb}(hT:NdT T)(hl:T.length<100000)
include hT hl
theorem ZsM(r:HM.Env)(h7:r[7]?=some (some (.hd (Ze (encM T))))):ZM (ZaO 7) ZZ (Zam (Zl 8) (Za 0)) r=some (.ol ((T.map (·.2)).map dI)):=by
 have hw:ZaO 7 r=some ((T.map (·.1)).map tupI):=by unfold ZaO;rw[h7];show(Zff (Ze (encM T))).map _=_;rw[dec_enc,<-Zjy T];rfl
 have hg:ZaJ ZZ (Zam (Zl 8) (Za 0)) r ((T.map (·.1)).map tupI)=some ((T.map (·.2)).map dI):=by rw[ZzO,ZzO];have:=Zbj (e:=Zam (Zl 8) (Za 0)) (r:=r) (λp:List Int × Int=>tupI p.1) (λp=>dI p.2) T (λp hp=>by have hk:ZaT (tupI p.1)=some (Z8 p.1):=ZaA p.1;have hlk:=Zcy T p.1;rw[ZqK hT hp]at hlk;simp[h7,dec_enc,hk,hlk]);exact this
 unfold ZM;rw[hw];dsimp only;rw[if_pos (by rw[Zzr,Zzr]; show _<1000000; omega),hg];rfl
theorem Zsq{k:Option Int}(r:HM.Env)(h7:r[7]?=some (some (.hd (Ze (encM T)))))(h4:r[4]?=some (some (.pl (oI k)))):ZM (ZaO 7) (tV (op2 gEq (Zam (Zl 8) (Za 0)) (Za 5))) (Za 0) r=some (.ol (((T.filter λp=>some p.2==k).map (·.1)).map tupI)):=by
 have hw:ZaO 7 r=some ((T.map (·.1)).map tupI):=by unfold ZaO;rw[h7];show(Zff (Ze (encM T))).map _=_;rw[dec_enc,<-Zjy T];rfl
 have hg:ZaJ (tV (op2 gEq (Zam (Zl 8) (Za 0)) (Za 5))) (Za 0) r ((T.map (·.1)).map tupI)=some (((T.filter λp=>some p.2==k).map (·.1)).map tupI):=by
  rw[ZzO,ZzO];have:=ZbY (c:=tV (op2 gEq (Zam (Zl 8) (Za 0)) (Za 5))) (e:=Za 0) (r:=r) (λp:List Int × Int=>tupI p.1) (λp=>some p.2==k) (λp=>tupI p.1) T (λp hp=>by
   have hk:ZaT (tupI p.1)=some (Z8 p.1):=ZaA p.1;have hlk:=Zcy T p.1;rw[ZqK hT hp]at hlk;have h1:Zam (Zl 8) (Za 0) (some (.pl (tupI p.1))::r)=some (.int p.2):=by simp[h7,dec_enc,hk,hlk]
   have h2:Za 5 (some (B.pl (tupI p.1))::r)=some (oI k):=by simp[h4]
   unfold tV op2;rw[h1,h2];cases k with
   | none=>show(match gEq (.int p.2) .none with | some (.bool b)=>some b | _=>none)=_;rw[ZgW (ZdI 1 _) (ZvO 1) (by decide) (by decide) (by simp)];rfl
   | some k =>
    show(match gEq (.int p.2) (.int k)with | some (.bool b)=>some b | _=>none)=_
    by_cases e:p.2=k
    ·rw[e,Zep (ZdI 1 _) (by decide)]
     simp
    ·rw[ZgW (ZdI 1 _) (ZdI 1 _) (by decide) (by decide) (by simpa using e)]
     simp[e]) (λp _ _=>by simp)
  exact this
 unfold ZM;rw[hw];dsimp only;rw[if_pos (by rw[Zzr,Zzr]; show _<1000000; omega),hg];rfl
end
section
variable{w:Wk}(hv:Wk.V w){ap:AP}{wf:Wf}{L:List (List Int)}{t:Nat}{cs:List D}{cb:Cb}(hnd:L.Nodup)(hlen:L.length<=128)(hcr:∀c∈L,Cr w.many c)(hys:∀c∈L,(wf c).length<1000)(ha:∀c∈L,∀y∈wf c,∀M,ap t cs [wyD y,.dict (Ze (encM M))]=some (oI (cb y M)))
include hnd hlen hys ha
theorem Zrp{M:Tb}{k:Int}{found:List (List Int)}{o6 o7:Option B}(h6:Zbc o6=false)(h7:Zbc o7=false)(hf:found.length<=128)(hM:M.length<50000) :
  ∃p6 p7,Zbc p6=false/\Zbc p7=false/\ZdA ap [some (.pl w.d),some (.pl (.dict (Ze (ZA wf L)))),some (.pl (fnD t cs)),some (.ot (encM M)),some (.pl (dI k)),some (.ol (found.map tupI)),o6,o7] =
   some (.nx [some (.pl w.d),some (.pl (.dict (Ze (ZA wf L)))),some (.pl (fnD t cs)),some (.ot (encM (Zbh found k M))),some (.pl (oI (ZbZ (Za0 wf cb L (Zbh found k M))))),some (.ol ((Ze6 (Za0 wf cb L (Zbh found k M))).map tupI)),p6,p7]):=by
 obtain⟨p6,hp6,e1⟩:=ZqH ap (some (.pl w.d)) (some (.pl (.dict (Ze (ZA wf L))))) (some (.pl (fnD t cs))) (some (.pl (.list (found.map tupI)))) o7 k found M o6 (by omega) h6;generalize hM':Zbh found k M=M' at *;have hnx:=Znh hnd hlen hys ha M';have hT:NdT (Za0 wf cb L M'):=ZwL hnd;have hTl:(Za0 wf cb L M').length<100000:=by have:=ZqL (wf:=wf) (cb:=cb) (L:=L) (M:=M'); omega
 generalize hO:Za0 wf cb L M'=T at *;refine⟨p6,some (.pl (.dict (Ze (encM T)))),hp6,rfl,?_⟩;unfold ZdA;refine ZQ (P:=λq=>q=_) (r':=[some (.pl w.d),some (.pl (.dict (Ze (ZA wf L)))),some (.pl (fnD t cs)),some (.ot (encM M')),some (.pl (dI k)),some (.pl (.list (found.map tupI))),p6,o7]) ?_ ?_
 ·unfold Zfi ZlE ZaN
  have hfb:found.length<1000000:=by omega
  simp[hfb];exact e1
 ·refine ZQ (P:=λq=>q=_) (r':=[some (.pl w.d),some (.pl (.dict (Ze (ZA wf L)))),some (.pl (fnD t cs)),some (.ot (encM M')),some (.pl (dI k)),some (.pl (.list (found.map tupI))),p6,some (.ot (encM T))]) ?_ ?_
  ·have hcl:ZjL (ZbA ap) (Zc (Za 1) (Zc (Zhf (Zl 3)) (Zc (Za 2) Zm))) [some (.pl w.d),some (.pl (.dict (Ze (ZA wf L)))),some (.pl (fnD t cs)),some (.ot (encM M')),some (.pl (dI k)),some (.pl (.list (found.map tupI))),p6,o7]=some (.ot (encM T)):=by
    unfold ZjL;show(match ZbA ap [.dict (Ze (ZA wf L)),.dict (Ze (encM M')),fnD t cs]with | some kvs=>if kvs.all (λp=>Zj1 p.2)then some (B.ot kvs)else none | none=>none)=_;rw[hnx];have hfl:(encM T).all (λp=>Zj1 p.2)=true:=by unfold encM;rw[List.all_map];exact Zzz.mpr λp _=>rfl
    dsimp only;rw[if_pos hfl]
   unfold Z1;rw[hcl];rfl
  ·have a1:∀x4 x5:D,([some (B.pl w.d),some (.pl (.dict (Ze (ZA wf L)))),some (.pl (fnD t cs)),some (.ot (encM M')),some (.pl x4),some (.pl x5),p6,some (.pl (.dict (Ze (encM T))))]:HM.Env).all (λq=>!Zbc q)=true:=λx4 x5=>by
    simp only[ZAF,ZDM,hp6];rfl
   have a2:∀x4:D,∀x5:B,Zbc (some x5)=false->([some (B.pl w.d),some (.pl (.dict (Ze (ZA wf L)))),some (.pl (fnD t cs)),some (.ot (encM M')),some (.pl x4),some x5,p6,none]:HM.Env).all (λq=>!Zbc q)=true:=λx4 x5 hx=>by simp only[ZAF,ZDM,hp6,hx];rfl
   have hv1:=ZsM hT hTl [some (.pl w.d),some (.pl (.dict (Ze (ZA wf L)))),some (.pl (fnD t cs)),some (.ot (encM M')),some (.pl (dI k)),some (.pl (.list (found.map tupI))),p6,some (.hd (Ze (encM T)))] rfl;have hm1:ZW 4 (Zgc (ZM (ZaO 7) ZZ (Zam (Zl 8) (Za 0)))) [some (.pl w.d),some (.pl (.dict (Ze (ZA wf L)))),some (.pl (fnD t cs)),some (.ot (encM M')),some (.pl (dI k)),some (.pl (.list (found.map tupI))),p6,some (.hd (Ze (encM T)))]=some (.nx [some (.pl w.d),some (.pl (.dict (Ze (ZA wf L)))),some (.pl (fnD t cs)),some (.ot (encM M')),some (.pl (oI (ZbZ T))),some (.pl (.list (found.map tupI))),p6,some (.hd (Ze (encM T)))]):=by
    have:Zgc (ZM (ZaO 7) ZZ (Zam (Zl 8) (Za 0))) [some (.pl w.d),some (.pl (.dict (Ze (ZA wf L)))),some (.pl (fnD t cs)),some (.ot (encM M')),some (.pl (dI k)),some (.pl (.list (found.map tupI))),p6,some (.hd (Ze (encM T)))]=some (oI (ZbZ T)):=by unfold Zgc;rw[hv1];show(match ZaP ((T.map (·.2)).map dI)with | some ns=>some (match ns.min? with | some i=>Zz6 i | none=>.none) | none=>none)=_;rw[ZbX];show some (match(T.map (·.2)).min? with | some i=>Zz6 i | none=>.none)=_;unfold ZbZ;cases(T.map (·.2)).min?<;>rfl
    unfold ZW;rw[this];rfl
   refine ZQ (P:=λq=>q=_) (r':=[some (.pl w.d),some (.pl (.dict (Ze (ZA wf L)))),some (.pl (fnD t cs)),some (.ot (encM M')),some (.pl (oI (ZbZ T))),some (.pl (.list (found.map tupI))),p6,some (.pl (.dict (Ze (encM T))))]) ?_ ?_
   ·show(if([some (B.pl w.d),some (.pl (.dict (Ze (ZA wf L)))),some (.pl (fnD t cs)),some (.ot (encM M')),some (.pl (dI k)),some (.pl (.list (found.map tupI))),p6,some (.pl (.dict (Ze (encM T))))]:HM.Env).all (λq=>!Zbc q)=true then _ else _)=_
    rw[if_pos (a1 _ _)];show(match ZW 4 _ [some (.pl w.d),some (.pl (.dict (Ze (ZA wf L)))),some (.pl (fnD t cs)),some (.ot (encM M')),some (.pl (dI k)),some (.pl (.list (found.map tupI))),p6,some (.hd (Ze (encM T)))]with | some (.nx r')=>_ | some (.rt d)=>_ | _=>none)=_;rw[hm1];show(if([some (B.pl w.d),some (.pl (.dict (Ze (ZA wf L)))),some (.pl (fnD t cs)),some (.ot (encM M')),some (.pl (oI (ZbZ T))),some (.pl (.list (found.map tupI))),p6,none]:HM.Env).all (λq=>!Zbc q)=true then _ else _)=_;rw[if_pos (a2 _ _ rfl)];rfl
   ·have hk1:=Zsq hT hTl (k:=ZbZ T) [some (.pl w.d),some (.pl (.dict (Ze (ZA wf L)))),some (.pl (fnD t cs)),some (.ot (encM M')),some (.pl (oI (ZbZ T))),some (.pl (.list (found.map tupI))),p6,some (.hd (Ze (encM T)))] rfl rfl
    have hm2:Z1 5 (ZM (ZaO 7) (tV (op2 gEq (Zam (Zl 8) (Za 0)) (Za 5))) (Za 0)) [some (.pl w.d),some (.pl (.dict (Ze (ZA wf L)))),some (.pl (fnD t cs)),some (.ot (encM M')),some (.pl (oI (ZbZ T))),some (.pl (.list (found.map tupI))),p6,some (.hd (Ze (encM T)))]=some (.nx [some (.pl w.d),some (.pl (.dict (Ze (ZA wf L)))),some (.pl (fnD t cs)),some (.ot (encM M')),some (.pl (oI (ZbZ T))),some (.ol ((Ze6 T).map tupI)),p6,some (.hd (Ze (encM T)))]):=by unfold Z1;rw[hk1];rfl
    show(if([some (B.pl w.d),some (.pl (.dict (Ze (ZA wf L)))),some (.pl (fnD t cs)),some (.ot (encM M')),some (.pl (oI (ZbZ T))),some (.pl (.list (found.map tupI))),p6,some (.pl (.dict (Ze (encM T))))]:HM.Env).all (λq=>!Zbc q)=true then _ else _)=_;rw[if_pos (a1 _ _)];show(match Z1 5 _ [some (.pl w.d),some (.pl (.dict (Ze (ZA wf L)))),some (.pl (fnD t cs)),some (.ot (encM M')),some (.pl (oI (ZbZ T))),some (.pl (.list (found.map tupI))),p6,some (.hd (Ze (encM T)))]with | some (.nx r')=>_ | some (.rt d)=>_ | _=>none)=_;rw[hm2];show(if([some (B.pl w.d),some (.pl (.dict (Ze (ZA wf L)))),some (.pl (fnD t cs)),some (.ot (encM M')),some (.pl (oI (ZbZ T))),some (.ol ((Ze6 T).map tupI)),p6,none]:HM.Env).all (λq=>!Zbc q)=true then _ else _)=_;rw[if_pos (a2 _ _ rfl)];rfl
omit hnd hlen hys ha in
theorem Zuk{M:Tb}{c:List Int}(h:c∈Ze6 (Za0 wf cb L M)):c∈L/\ZE M c=false:=by obtain⟨⟨c',k⟩,h1,rfl⟩:=Zzx.mp h;have:=Zwi.mp (Zz5.mp h1).1;exact⟨this.1,this.2.1⟩
omit hnd hlen hys ha in
theorem Ztp{T:Tb}(h:Ze6 T≠[]):∃k,ZbZ T=some k:=by
 cases hq:ZbZ T with
 | some k=>exact⟨k,rfl⟩
 | none=>refine absurd ?_ h;unfold ZbZ at hq;rw[ZEf]at hq;have:=ZDa.mp hq;subst this;rfl
theorem Zjx:∀(fuel n:Nat) (M:Tb) (k:Option Int) (found:List (List Int)) (o6 o7:Option B),Zbc o6=false->Zbc o7=false->(∀c∈found,c∈L/\ZE M c=false)->found.length<=128->M.length<=128*n->n<=(L.filter λc=>ZE M c).length->130<=n+fuel->(found≠[]->∃i,k=some i) ->
  ∃R p4 p5 p6 p7,Za4 (tV (op2 gGt (Zaz (Zl 5)) (eC (.int 0)))) (ZdA ap) fuel [some (.pl w.d),some (.pl (.dict (Ze (ZA wf L)))),some (.pl (fnD t cs)),some (.ot (encM M)),some (.pl (oI k)),some (.ol (found.map tupI)),o6,o7]=some (.nx [some (.pl w.d),some (.pl (.dict (Ze (ZA wf L)))),some (.pl (fnD t cs)),some (.ot (encM R)),p4,p5,p6,p7])/\ZiK wf cb L M k found R
 | 0,n,M,k,found,o6,o7,_,_,_,_,_,ht,hfu,_=>by have:=ZAq (λc=>ZE M c) L;omega
 | fuel+1,n,M,k,found,o6,o7,h6,h7,hfo,hfl,hM,ht,hfu,hks=>by
  have htl:=ZAq (λc=>ZE M c) L
  by_cases hf:found=[]
  ·subst hf
   refine⟨M,some (.pl (oI k)),some (.ol []),o6,o7,?_,.done⟩;unfold Za4;have e:(tV (op2 gGt (Zaz (Zl 5)) (eC (.int 0)))) [some (.pl w.d),some (.pl (.dict (Ze (ZA wf L)))),some (.pl (fnD t cs)),some (.ot (encM M)),some (.pl (oI k)),some (.ol (([]:List (List Int)).map tupI)),o6,o7]=some false:=by simp
   rw[e];rfl
  ·obtain⟨i,rfl⟩:=hks hf
   have e:(tV (op2 gGt (Zaz (Zl 5)) (eC (.int 0)))) [some (.pl w.d),some (.pl (.dict (Ze (ZA wf L)))),some (.pl (fnD t cs)),some (.ot (encM M)),some (.pl (oI (some i))),some (.ol (found.map tupI)),o6,o7]=some true:=by have:0<found.length:=ZC9.mpr hf;simp;omega
   obtain⟨p6,p7,g6,g7,ht1⟩:=Zrp hnd hlen hys ha (w:=w) (M:=M) (k:=i) (found:=found) h6 h7 hfl (by omega);have hml:(Zbh found i M).length<=M.length+found.length:=Zg8 i found M;have hlk:∀k,Zg (Zbh found i M) k=if k∈found then some i else Zg M k:=λk=>Zhe i k found M
   have hcnt:(L.filter λc=>ZE M c).length<(L.filter λc=>ZE (Zbh found i M) c).length:=by
    refine Zef (λx _ hx=>?_) ?_
    ·unfold ZE at hx ⊢
     rw[hlk];split
     ·rfl
     ·exact hx
    ·obtain⟨c,cs,rfl⟩:=ZDr hf
     refine⟨c,(hfo c (Zzt ..)).1,?_,(hfo c (Zzt ..)).2⟩;unfold ZE;rw[hlk,if_pos (Zzt ..)];rfl
   have hol:(Ze6 (Za0 wf cb L (Zbh found i M))).length<=128:=by
    have h1:(Ze6 (Za0 wf cb L (Zbh found i M))).length<=(Za0 wf cb L (Zbh found i M)).length:=by unfold Ze6;rw[Zzr];exact ZAq ..
    have h2:=ZqL (wf:=wf) (cb:=cb) (L:=L) (M:=Zbh found i M);omega
   obtain⟨R,q4,q5,q6,q7,g,J⟩:=Zjx fuel (n+1) (Zbh found i M) (ZbZ (Za0 wf cb L (Zbh found i M))) (Ze6 (Za0 wf cb L (Zbh found i M))) p6 p7 g6 g7 (λc hc=>Zuk hc) hol (by omega) (by omega) (by omega) Ztp;refine⟨R,q4,q5,q6,q7,?_,.step hf J⟩;unfold Za4;rw[e];dsimp only;show(match ZdA ap [some (.pl w.d),some (.pl (.dict (Ze (ZA wf L)))),some (.pl (fnD t cs)),some (.ot (encM M)),some (.pl (dI i)),some (.ol (found.map tupI)),o6,o7]with | some (.nx r')=>_ | some (.ct r')=>_ | some (.bk r')=>_ | some (.rt d)=>_ | none=>_)=_;rw[ht1];exact g
include hv hcr
theorem Zqm:∃R,Zdi ap [w.d,.dict (Ze (ZA wf L)),fnD t cs]=some (.dict (Ze (encM R)))/\ZiK wf cb L [] (some 0) (L.filter λc=>ZY w c) R:=by
 have hlb:L.length<1000000:=by omega
 have hfl:(L.filter λc=>ZY w c).length<=128:=ZAd (ZAq _ _) hlen;obtain⟨R,p4,p5,p6,p7,g,J⟩:=Zjx hnd hlen hys ha (w:=w) 100000 0 [] (some 0) (L.filter λc=>ZY w c) none none rfl rfl (λc hc=>⟨(Zz5.mp hc).1,rfl⟩) hfl (by simp) (ZAP _) (by omega) λ_=>⟨0,rfl⟩;refine⟨R,?_,J⟩;have hw:ZaO 1 [some (.pl w.d),some (.hd (Ze (ZA wf L))),some (.pl (fnD t cs)),some (.ot (encM [])),some (.pl (dI 0)),none,none,none]=some (L.map tupI):=by show(Zff (Ze (ZA wf L))).map _=_;rw[dec_enc,<-ZmJ wf L];rfl
 have hgo:∀r:HM.Env,r[0]?=some (some (.pl w.d))->ZaJ (tV (Zo ZbI (Zc (Za 1) (Zc (Za 0) Zm)))) (Za 0) r (L.map tupI)=some ((L.filter λc=>ZY w c).map tupI):=λr r0=>by
  rw[ZbY tupI (λc=>ZY w c) tupI]
  ·intro c hc
   have:=Zqj (w:=w) (c:=c) (by have:=(hcr c hc).len; have:=hv.m2; omega);simp[r0,this]
  ·intro c _ _
   simp
 have hc:ZM (ZaO 1) (tV (Zo ZbI (Zc (Za 1) (Zc (Za 0) Zm)))) (Za 0) [some (.pl w.d),some (.hd (Ze (ZA wf L))),some (.pl (fnD t cs)),some (.ot (encM [])),some (.pl (dI 0)),none,none,none]=some (.ol ((L.filter λc=>ZY w c).map tupI)):=by unfold ZM;rw[hw];dsimp only;rw[if_pos (by rw[Zzr]; exact hlb),hgo _ rfl];rfl
 have hh:Ze2 1 (Z1 5 (ZM (ZaO 1) (tV (Zo ZbI (Zc (Za 1) (Zc (Za 0) Zm)))) (Za 0))) [some (.pl w.d),some (.pl (.dict (Ze (ZA wf L)))),some (.pl (fnD t cs)),some (.ot (encM [])),some (.pl (dI 0)),none,none,none]=some (.nx [some (.pl w.d),some (.pl (.dict (Ze (ZA wf L)))),some (.pl (fnD t cs)),some (.ot (encM [])),some (.pl (dI 0)),some (.ol ((L.filter λc=>ZY w c).map tupI)),none,none]):=by show(match Z1 5 _ [some (.pl w.d),some (.hd (Ze (ZA wf L))),some (.pl (fnD t cs)),some (.ot (encM [])),some (.pl (dI 0)),none,none,none]with | some (.nx r')=>_ | some (.rt d)=>_ | _=>none)=_;unfold Z1;rw[hc];rfl
 show Zax (Zfv ap [some (.pl w.d),some (.pl (.dict (Ze (ZA wf L)))),some (.pl (fnD t cs)),none,none,none,none,none])=_;have e:Zfv ap [some (.pl w.d),some (.pl (.dict (Ze (ZA wf L)))),some (.pl (fnD t cs)),none,none,none,none,none]=some (.rt (.dict (Ze (encM R)))):=by unfold Zfv;refine ZQ (P:=λq=>q=_) (r':=[some (.pl w.d),some (.pl (.dict (Ze (ZA wf L)))),some (.pl (fnD t cs)),some (.ot (encM [])),none,none,none,none]) rfl ?_;refine ZQ (P:=λq=>q=_) (r':=[some (.pl w.d),some (.pl (.dict (Ze (ZA wf L)))),some (.pl (fnD t cs)),some (.ot (encM [])),some (.pl (dI 0)),none,none,none]) rfl ?_;refine ZQ (P:=λq=>q=_) hh ?_;refine ZQ (P:=λq=>q=_) g ?_;simp
 rw[e];rfl
end
end HG5
namespace HG5
open PySem HM HG
end HG5
namespace HG5
open PySem HM HG HG4
inductive Zon(w:Wk)(ls b:List Int):List Int->Prop where
 | beg {p:List Int} (h:p∈Zp w ls b):Zon w ls b p
 | step {c p:List Int} {d:Nat} (r:Zon w ls b c) (hd:d<w.deeds.length) (hc:Zap w c d=true) (h:p∈Zp w ls (Zw w c d)):Zon w ls b p
def ZcE(w:Wk)(ls c:List Int)(d:Int):Wy:=(dI d,Zv w ls (Zw w c d))
def wfV(w:Wk)(ls:List Int):Wf:=λc=>(doV w c).map (ZcE w ls c)
abbrev ZbR(w:Wk)(ls:List Int)(L:List (List Int)):List (List Ky × D):=ZA (wfV w ls) L
theorem ZtA(w:Wk)(ls c:List Int):Znn w ls c=.list ((wfV w ls c).map wyD):=by unfold Znn wfV;rw[ZzO];rfl
theorem Zzf(w:Wk)(ls c:List Int)(d:Int):wyP (ZcE w ls c d)=Zp w ls (Zw w c d):=rfl
abbrev OkC(w:Wk)(c:List Int):Prop:=Cr w.many c/\c≠[]
structure ApD(ap:AP):Prop where
 d0:∀ds,ap 0 [] ds=Zdj ds
 l1:∀cs ds,ap 1 cs ds=Zli 1 2 (Zo Za9 (Zc (Za 1) (Zc (Za 2) (Zc (Za 0) Zm)))) cs ds
section
variable{w:Wk}(hv:Wk.V w)(h7:w.many<=7){ls:List Int}(hl:Cr w.looks.length ls)
include hv h7
theorem Zyd:Zsb (wfV w ls) (OkC w):=by
 refine⟨λc hc y hy p hp=>?_,λc hc=>?_,λc hc y hy=>?_,λC hn hC=>?_⟩
 ·obtain⟨d,hd,rfl⟩:=Zzx.mp hy
  obtain⟨d0,d1,_⟩:=Zci hd;have:=Zey (ZcW hv hc.1 d0 d1) (show p∈Zp w ls (Zw w c d) from hp);exact⟨this.1,this.2.1⟩
 ·unfold wfV
  rw[Zzr];have:=ZjR w c;have:=hv.d2;omega
 ·obtain⟨d,hd,rfl⟩:=Zzx.mp hy
  obtain⟨d0,d1,_⟩:=Zci hd;have:=split_len (w:=w) (ls:=ls) (c:=Zw w c d);have:=(ZcW hv hc.1 d0 d1).len;show(Zv w ls (Zw w c d)).length<=8;omega
 ·have h1:=ZiO hn λc hc=>(hC c hc).1
  have h2:2 ^ w.many<=2 ^ 7:=ZC5 (by decide) h7;have h3:2 ^ 7=128:=rfl;omega
omit hv h7 in
theorem Zxu{b c:List Int}(r:Zl6 (wfV w ls) (Zp w ls b) c):Zon w ls b c:=by
 induction r with
 | beg h=>exact .beg h
 | @step c p y _ hy hp ih=>obtain⟨d,hd,rfl⟩:=Zzx.mp hy;obtain⟨d0,d1,d2⟩:=Zci hd;have e:((d.toNat:Nat):Int)=d:=ZCh d0;exact .step (d:=d.toNat) ih (by omega) (by rw[e]; exact d2) (by rw[e]; exact hp)
include hl
theorem Zl5{ap:AP}(A:ApD ap){b:List Int}(hb:Cr w.many b):∃L,ZcR ap [w.d,tupI ls,tupI b]=some (.dict (Ze (ZbR w ls L)))/\L.Nodup/\L.length<=128/\(∀c∈L,Cr w.many c/\c≠[])/\(∀c∈L,Zon w ls b c)/\ZbC w ls L/\∀p∈Zp w ls b,p∈L:=by
 have hp:=ZjF hv hl hb;have hsl:=split_len (w:=w) (ls:=ls) (c:=b);have hbl:=hb.len;have hci:=ZgP (Zv w ls b) (by omega);have hpl:(Zp w ls b).length<=100:=by unfold Zp; rw[Zzr]; omega
 have O:=Zyd hv h7 (ls:=ls);have ha:∀c,OkC w c->ap 1 [w.d,tupI ls] [tupI c]=some (.list ((wfV w ls c).map wyD)):=λc hc=>by rw[A.l1,<-ZtA];unfold Zli;rw[if_pos ⟨rfl,rfl,by rw[ZAF,ZeA 19]; rfl⟩];exact Zpx hv hl hc.1
 obtain⟨L,e,J⟩:=Zrk O ha (B:=Zp w ls b) (λc h=>⟨(Zey hb h).1,(Zey hb h).2.1⟩) hpl;refine⟨L,?_,J.nd,O.cs L J.nd J.cr,J.cr,λc hc=>Zxu (J.rc c hc),λc hc d hd can p hp=>?_,λp hp=>?_⟩
 ·show Zax (Zfb ap [some (.pl w.d),some (.pl (tupI ls)),some (.pl (tupI b))])=_
  have h1:Zo ZT (Zc (Zo Zbm (Zc (Za 0) (Zc (Za 1) (Zc (Za 2) Zm)))) Zm) [some (.pl w.d),some (.pl (tupI ls)),some (.pl (tupI b))]=some (.list ((Zp w ls b).map tupI)):=by unfold Zo Zc;show(match(match Zbm [w.d,tupI ls,tupI b]with | some x=>(Zm _).map (x::·) | none=>none)with | some ds=>ZT ds | none=>none)=_;rw[hp];exact hci
  have hn1:[w.d,tupI ls].all (noF 20)=true:=by rw[ZAF,ZAF,Zye,ZeA 19];rfl
  have hn2:noF 20 (.dict (Ze (ZbR w ls L)))=true:=Zyq (n:=14) λc _ y hy=>by obtain⟨d,_,rfl⟩:=Zzx.mp hy;exact Zwb _ _
  unfold Zfb ZF Zim;rw[h1];show Zax (ZBi Out.rt (if[w.d,tupI ls].all (noF 20)=true then(match ZbW ap [.list ((Zp w ls b).map tupI),fnD 1 [w.d,tupI ls]]with | some d=>if noF 20 d=true then some d else none | none=>none)else none))=_;rw[if_pos hn1,e];dsimp only;rw[if_pos hn2];rfl
 ·rcases J.cl c hc (ZcE w ls c d) (Zzx.mpr ⟨(d:Int),ZlO hd can,rfl⟩) p hp with h | h
  ·exact h
  ·simp at h
 ·rcases J.bg p hp with h | h
  ·exact h
  ·simp at h
end
def Zb2(ps:List (List Int))(M:Tb):Option Int:=if ps.all (ZE M)then(ps.filterMap λp=>Zg M p).max? else none
def cbD:Cb:=λy M=>(Zb2 (wyP y) M).map (·+1)
theorem ZiW{α β:Type}{f:α->Option β}:∀{xs:List α},((xs.filterMap f).length=xs.length↔xs.all (λx=>(f x).isSome)=true)
 | []=>by simp
 | x::xs=>by
  have ih:=ZiW (f:=f) (xs:=xs);have hl:(xs.filterMap f).length<=xs.length:=ZDN f xs;rw[ZAI,ZAF];cases h:f x with
  | none=>simp; omega
  | some y=>simpa using ih
theorem ZgO{g:Gs}(hg:g.length<1000)(h0:g≠[]){M:Tb}:Zae [.list (g.map ZI),.dict (Ze (encM M))]=some (oI (Zb2 (g.map (·.2)) M)):=by
 have hci:=ZgP g (by omega);have hlen:((g.map (·.2)).map tupI).length<big:=by rw[Zzr,Zzr]; show _<1000000; omega
 have h1:Z4 (bOf (Zo ZT (Zc (Za 0) Zm))) [some (.pl (.list (g.map ZI))),some (.pl (.dict (Ze (encM M)))),none]=some ((g.map (·.2)).map tupI):=by unfold Z4 bOf;show(match ZBi B.pl (ZT [.list (g.map ZI)])with | some x=>Zbo x | none=>none)=_;rw[hci];rfl
 have h2:ZaJ (tV (ZoM (Za 0) (Zl 2))) (Zam (Zl 2) (Za 0)) [some (.pl (.list (g.map ZI))),some (.pl (.dict (Ze (encM M)))),none] ((g.map (·.2)).map tupI)=some (((g.map (·.2)).filterMap λp=>Zg M p).map dI):=by
  rw[ZbY tupI (ZE M) (λp=>dI ((Zg M p).getD 0))]
  ·congr 1
   generalize g.map (·.2)=ps
   induction ps with
   | nil=>rfl
   | cons p ps ih =>
    rw[ZAS,ZAI];unfold ZE at ih ⊢;cases hq:Zg M p with
    | none=>rw[if_neg (by simp)]; exact ih
    | some k=>rw[if_pos (by rfl),Zzw,Zzw,ih,hq]; rfl
  ·intro p _
   have hk:ZaT (tupI p)=some (Z8 p):=ZaA p;simp[dec_enc,hk,Zcy,ZE]
  ·intro p _ hp
   have hk:ZaT (tupI p)=some (Z8 p):=ZaA p;unfold ZE at hp;obtain⟨k,hk'⟩:=ZzZ.mp hp;have hlk:=Zcy M p;rw[hk']at hlk;simp[dec_enc,hk,hlk,hk']
 have hfl:=ZiW (f:=λp=>Zg M p) (xs:=g.map (·.2));rw[Zzr]at hfl;have hall:(g.map (·.2)).all (λx=>(Zg M x).isSome)=(g.map (·.2)).all (ZE M):=rfl;rw[hall]at hfl;generalize hN:(g.map (·.2)).filterMap (λp=>Zg M p)=ns at *;show Zax (Zeh [some (.pl (.list (g.map ZI))),some (.pl (.dict (Ze (encM M)))),none])=_;unfold Zeh;refine ZQ (P:=λq=>Zax q=_) (r':=[some (.pl (.list (g.map ZI))),some (.pl (.dict (Ze (encM M)))),some (.ol (ns.map dI))]) ?_ ?_
 ·unfold Z1 ZM
  rw[h1];dsimp only;rw[if_pos hlen,h2];rfl
 ·have h3:op2 gEq (Zaz (Zl 2)) (Zaz (Zl 0)) [some (.pl (.list (g.map ZI))),some (.pl (.dict (Ze (encM M)))),some (.ol (ns.map dI))]=some (.bool (decide (ns.length=g.length))):=by
   show gEq (.int ((ns.map dI).length:Int)) (.int ((g.map ZI).length:Int))=_;rw[Zzr,Zzr]
   by_cases e:ns.length=g.length
   ·rw[e,Zep (ZdI 1 _) (by decide)]
    simp
   ·rw[ZgW (ZdI 1 _) (ZdI 1 _) (by decide) (by decide) (λz=>e (by injection z with z; omega))]
    simp[e]
  have h4:Ziv (Zl 2) [some (.pl (.list (g.map ZI))),some (.pl (.dict (Ze (encM M)))),some (.ol (ns.map dI))]=ns.max?.map λi=>Zz6 i:=by show(match ZaP (ns.map dI)with | some ns=>ns.max?.map λi=>Zz6 i | none=>none)=_;rw[ZbX]
  unfold ZF eIf tV;rw[h3];unfold Zb2;rw[hN]
  by_cases e:ns.length=g.length
  ·rw[if_pos (hfl.mp e),decide_eq_true e]
   show Zax (ZBi Out.rt (Ziv (Zl 2) _))=_;rw[h4];have hne:ns≠[]:=λz=>by rw[z]at e;exact h0 (ZB1 e.symm)
   cases hq:ns.max? with
   | none=>rw[ZCU]at hq; exact absurd hq hne
   | some m=>rfl
  ·rw[if_neg λz=>e (hfl.mpr z),decide_eq_false e]
   rfl
theorem ZkA{y:Wy}(hy:y.2.length<1000)(h0:y.2≠[])(M:Tb):Zdj [wyD y,.dict (Ze (encM M))]=some (oI (cbD y M)):=by
 have h:=ZgO hy h0 (M:=M);have h':Zae [.list (y.2.map ZI),.dict (Ze (encM M))]=some (oI (Zb2 (wyP y) M)):=h;show Zax (Zhg [some (.pl (wyD y)),some (.pl (.dict (Ze (encM M)))),none])=_;unfold Zhg cbD;refine ZQ (P:=λq=>Zax q=_) (r':=[some (.pl (wyD y)),some (.pl (.dict (Ze (encM M)))),some (.pl (oI (Zb2 (wyP y) M)))]) ?_ ?_
 ·unfold ZW Zo
  show ZBi _ (Zae [.list (y.2.map ZI),.dict (Ze (encM M))])=_;rw[h'];rfl
 ·cases Zb2 (wyP y) M<;>rfl
def ZfX(w:Wk)(ls:List Int)(L:List (List Int))(M:Tb):Prop:=∃t,Zfs w ls L t M/\ZaZ w ls L M=[]
theorem Zln{ps:List (List Int)}{M:Tb}{m:Int}(h:Zb2 ps M=some m):(∀p∈ps,∃k,Zg M p=some k/\k<=m)/\∃p∈ps,Zg M p=some m:=by
 unfold Zb2 at h;split at h
 ·rename_i ha
  obtain⟨m1,m2⟩:=ZCT.mp h;refine⟨λp hp=>?_,?_⟩
  ·have hh:=Zzz.mp ha p hp
   unfold ZE at hh;obtain⟨k,hk⟩:=ZzZ.mp hh;exact⟨k,hk,m2 _ (ZAA.mpr ⟨p,hp,hk⟩)⟩
  ·obtain⟨p,hp,e⟩:=ZAA.mp m1
   exact⟨p,hp,e⟩
 ·cases h
theorem Zik{ps:List (List Int)}{M:Tb}(h0:ps≠[])(h:Zb2 ps M=none):ps.all (ZE M)=false:=by
 cases hq:ps.all (ZE M)with
 | false=>rfl
 | true=>unfold Zb2 at h;rw[hq,if_pos rfl,ZCU]at h;obtain⟨p,r,rfl⟩:=ZDr h0;have hh:=Zzz.mp hq p (Zzt ..);unfold ZE at hh;obtain⟨k,hk⟩:=ZzZ.mp hh;rw[ZAI,hk]at h;cases h
section
variable{w:Wk}{ls:List Int}{L:List (List Int)}(hL:ZbC w ls L)(hne:∀c∈L,c≠[])
include hL hne
theorem ZrR{t:Nat}{M:Tb}(T:Zfs w ls L t M){c:List Int}(hc:c∈L)(hn:ZE M c=false):Zb3 cbD (wfV w ls c) M=if ZdN w ls c M then some ((t+1:Nat):Int)else none:=by
 have known:∀{p:List Int} {k:Int},Zg M p=some k->∃n:Nat,k=(n:Int)/\n<=t/\Win w ls n p=true:=λ{p k} h=>by
  rw[T.look]at h;split at h
  ·obtain⟨n,h1,h2,h3,_⟩:=Ze3 h
   exact⟨n,h1,h2,h3⟩
  ·cases h
 have val:∀y∈wfV w ls c,∀k,cbD y M=some k->k=((t+1:Nat):Int)/\ZdN w ls c M=true:=λy hy k hk=>by
  obtain⟨d,hd,rfl⟩:=Zzx.mp hy;obtain⟨d0,d1,d2⟩:=Zci hd;have e:((d.toNat:Nat):Int)=d:=ZCh d0;obtain⟨m,h1,h2⟩:=Zzs.mp hk;have h1:Zb2 (Zp w ls (Zw w c d)) M=some m:=h1;obtain⟨w1,p,hp,w2⟩:=Zln h1;obtain⟨n,rfl,hnt,_⟩:=known w2;refine⟨?_,ZAg.mpr ⟨d.toNat,ZzP.mpr (by omega),?_⟩⟩
  ·subst h2
   by_cases hlt:n<t
   ·-- then the crowd would be known already
    have hw:Win w ls (n+1) c=true:=by show(ZY w c||_)=true;rw[ZA2];refine .inr (ZAg.mpr ⟨d.toNat,ZzP.mpr (by omega),?_⟩);rw[e,d2,ZEj];refine Zzz.mpr λq hq=>?_;obtain⟨k,k1,k2⟩:=w1 q hq;obtain⟨n',rfl,_,hw'⟩:=known k1;exact Ze5 (by omega) hw'
    have:ZE M c=true:=by unfold ZE;rw[T.look,if_pos hc,ZcB];exact Ze5 (by omega) hw
    rw[hn]at this;cases this
   ·show(n:Int)+1=_
    omega
  ·rw[e,d2,ZEj]
   refine Zzz.mpr λq hq=>?_;obtain⟨k,k1,_⟩:=w1 q hq;unfold ZE;rw[k1];rfl
 have all_eq:∀k∈(wfV w ls c).filterMap (λy=>cbD y M),k=((t+1:Nat):Int)/\ZdN w ls c M=true:=λk hk=>by obtain⟨y,hy,e⟩:=ZAA.mp hk;exact val y hy k e
 unfold Zb3;cases hcan:ZdN w ls c M with
 | false =>
  have:(wfV w ls c).filterMap (λy=>cbD y M)=[]:=List.eq_nil_iff_forall_not_mem.mpr λk hk=>by have:=(all_eq k hk).2;rw[hcan]at this;cases this
  rw[this];rfl
 | true =>
  obtain⟨d,hd,hq⟩:=ZAg.mp hcan;rw[ZzK]at hq;have hd':=ZzP.mp hd;have hy:ZcE w ls c (d:Int)∈wfV w ls c:=Zzx.mpr ⟨(d:Int),ZlO hd' hq.1,rfl⟩;have hpn:Zp w ls (Zw w c d)≠[]:=Zen (Zjt (hne c hc) hq.1);have hk:∃k,cbD (ZcE w ls c d) M=some k:=by
   unfold cbD;cases hw:Zb2 (wyP (ZcE w ls c d)) M with
   | none=>have:=Zik hpn hw;rw[show(Zp w ls (Zw w c d)).all (ZE M)=true from hq.2]at this;cases this
   | some m=>exact⟨m+1,rfl⟩
  obtain⟨k,hk⟩:=hk;have hm:k∈(wfV w ls c).filterMap (λy=>cbD y M):=ZAA.mpr ⟨_,hy,hk⟩;cases hmin:((wfV w ls c).filterMap λy=>cbD y M).min? with
  | none=>rw[ZEf]at hmin; rw[hmin]at hm; simp at hm
  | some m=>have:=(ZBH.mp hmin).1;rw[(all_eq m this).1];rfl
theorem ZoI{t:Nat}{M:Tb}(T:Zfs w ls L t M):Za0 (wfV w ls) cbD L M=(ZaZ w ls L M).map λc=>(c,((t+1:Nat):Int)):=by
 unfold Za0 ZaZ;have key:∀K:List (List Int),(∀c∈K,c∈L)->(K.filterMap λc=>if ZE M c then none else(Zb3 cbD (wfV w ls c) M).map λk=>(c,k))=(K.filter λc=>!ZE M c&&ZdN w ls c M).map λc=>(c,((t+1:Nat):Int)):=by
  intro K
  induction K with
  | nil=>intro _; rfl
  | cons c K ih =>
   intro hK;have ih:=ih λx hx=>hK x (Zzu _ hx);rw[ZAI,ZAS];cases hh:ZE M c with
   | true=>simpa using ih
   | false =>
    have hle:=ZrR hL hne T (hK c (Zzt ..)) hh;rw[hle];cases hcan:ZdN w ls c M with
    | false=>simpa [hcan]using ih
    | true=>simpa [hcan]using ih
 exact key L λ_ h=>h
theorem Zv4{M R:Tb}{k:Option Int}{found:List (List Int)}(r:ZiK (wfV w ls) cbD L M k found R):∀t:Nat,(found=[]->Zfs w ls L t M/\ZaZ w ls L M=[])->(found≠[]->k=some (t:Int)/\Zfs w ls L t (Zbh found t M))->ZfX w ls L R:=by
 induction r with
 | done=>intro t h _; exact⟨t,h rfl⟩
 | @step M R k found hf _ ih =>
  intro t _ h;obtain⟨hk,T⟩:=h hf;cases hk;have ho:=ZoI hL hne T;have hmin:∀ms:List (List Int),Ze6 (ms.map λc=>(c,((t+1:Nat):Int)))=ms/\(ms≠[]->ZbZ (ms.map λc=>(c,((t+1:Nat):Int)))=some ((t+1:Nat):Int)):=λms=>by
   cases ms with
   | nil=>exact⟨rfl,λz=>absurd rfl z⟩
   | cons c ms =>
    have hO:ZbZ ((c::ms).map λc=>(c,((t+1:Nat):Int)))=some ((t+1:Nat):Int):=by unfold ZbZ;rw[ZzO];refine ZBH.mpr ⟨Zzx.mpr ⟨c,Zzt ..,rfl⟩,λb hb=>?_⟩;obtain⟨c',_,rfl⟩:=Zzx.mp hb;exact Int.le_refl _
    refine⟨?_,λ_=>hO⟩;unfold Ze6;rw[hO];have:∀xs:List (List Int),((xs.map λc=>(c,((t+1:Nat):Int))).filter λp=>some p.2==some ((t+1:Nat):Int)).map (·.1)=xs:=by
     intro xs
     induction xs with
     | nil=>rfl
     | cons x xs ih=>simp at ih ⊢; exact ih
    exact this _
  obtain⟨m1,m2⟩:=hmin (ZaZ w ls L (Zbh found t M));rw[ho,m1]at ih;refine ih (if ZaZ w ls L (Zbh found t M)=[]then t else t+1) (λe=>?_) λe=>?_
  ·rw[if_pos e]
   exact⟨T,e⟩
  ·rw[if_neg e]
   exact⟨m2 e,Zis hL T⟩
theorem Zub(hv:Wk.V w){R:Tb}(r:ZiK (wfV w ls) cbD L [] (some 0) (L.filter λc=>ZY w c) R):ZfX w ls L R:=by
 refine Zv4 hL hne r 0 (λe=>?_) λ_=>⟨rfl,Zij⟩;have T:Zfs w ls L 0 (M0 w L):=Zij;have e0:M0 w L=[]:=by unfold M0; rw[e]; rfl
 rw[e0]at T;refine⟨T,ZCJ.mpr λc hc h=>?_⟩;rw[ZzK]at h;obtain⟨d,hd,hq⟩:=ZAg.mp h.2;rw[ZzK]at hq;obtain⟨p,hp⟩:=List.exists_mem_of_ne_nil _ (Zen (w:=w) (ls:=ls) (Zjt (hne c hc) hq.1));have:=Zzz.mp hq.2 p hp;cases this
end
end HG5
namespace HG5
open PySem HM HG HG4
theorem ZfX.cost{w:Wk}{ls:List Int}{L:List (List Int)}{M:Tb}(F:ZfX w ls L M){c:List Int}{k:Int}(h:Zg M c=some k):c∈L/\∃n:Nat,k=(n:Int)/\Win w ls n c=true/\∀m,m<n->Win w ls m c=false:=by
 obtain⟨t,T,_⟩:=F;rw[T.look]at h;split at h
 ·rename_i hc
  obtain⟨n,h1,_,h2,h3⟩:=Ze3 h;exact⟨hc,n,h1,h2,h3⟩
 ·cases h
theorem ZfX.all{w:Wk}{ls:List Int}{L:List (List Int)}(hL:ZbC w ls L){M:Tb}(F:ZfX w ls L M){c:List Int}(hc:c∈L){n:Nat}(h:Win w ls n c=true):ZE M c=true:=by
 obtain⟨t,T,hm⟩:=F;have T':=Zis hL T;rw[hm]at T';have st:∀c∈L,Win w ls (t+1) c=true->Win w ls t c=true:=λc hc q=>by have e1:=T.look c;have e2:=T'.look c;rw[if_pos hc]at e1 e2;have e3:ZcH w ls t c=ZcH w ls (t+1) c:=e1.symm.trans e2;rw[<-ZcB,e3,ZcB];exact q
 have:=Zip hL st n c hc h;unfold ZE;rw[T.look,if_pos hc,ZcB];exact this
def Zzo(w:Wk)(ls:List Int)(P:List (List Int))(d:D):Prop:=(∃n:Nat,d=.int n/\(∀p∈P,Win w ls n p=true)/\∀m,m<n->¬∀p∈P,Win w ls m p=true)\/(d=.none/\∀n,¬∀p∈P,Win w ls n p=true)
end HG5
namespace HG6
open PySem HM
open HG
open HG5
def Zhh(ap:AP):SF :=
 (Zt (ZW 3 (Zo (ZaU ap) (Zc (Za 0) (Zc (Za 1) (Zc (Za 2) Zm)))))
  (ZF (eIx (ZM (Z4 (bOf (Za 0))) (tV (op2 gEq (Zdc ap 3 (Zc (Za 0) (Zc (Za 2) Zm))) (Za 4))) (Za 0)) (eC (.int 0)))))
def Zba(ap:AP):List D->Option D:=fnOf 3 4 (Zhh ap)
def ZbM(ap:AP):SF :=
 (sIf (tV (op2 gEq (Zam (Zl 1) (Za 5)) (eC (.int 0)))) (ZfT 4 (Za 5) (eC (.tuple [.str (ZAk "done")]))) (ZfT 4 (Za 5) (Zgh ap 3 (Zc (Zo (Zba ap) (Zc (Zam (Zl 0) (Za 5)) (Zc (eHd 1) (Zc (Za 2) Zm)))) (Zc (Zhf (Zl 4)) Zm)))))
def Zfw(ap:AP):SF :=
 (Zt (Z1 4 fDt)
  (Zt (Ze2 1 (ZaN 5 (ZaO 1) (ZbM ap)))
  (Zfi 4 (ZF (Za 4)))))
def Zd5(ap:AP):List D->Option D:=fnOf 4 6 (Zfw ap)
def Zq4:SF :=
 (ZF (Zaq (Zdb (Z4 (bOf (Za 0))) ZZ (ZcF (Zc (Za 0) (Zc (Zam (Zl 3) (Za 1)) Zm))))))
def Zb6:List D->Option D:=fnOf 2 2 Zq4
def Zh5:SF :=
 (ZF (ZcF (Zc (eC (.str (ZAk "do"))) (Zc (eIx (Zl 0) (eC (.int 0))) (Zc (Zo Zb6 (Zc (eIx (Zl 0) (eC (.int 1))) (Zc (Za 1) Zm))) Zm)))))
def ZdS:List D->Option D:=fnOf 2 2 Zh5
def Zg1(ap:AP):SF :=
 (Zt (ZrJ (Zo ZdP (Zc (Za 0) Zm)))
  (Zt (ZrJ (Zo ZbE (Zc (Za 0) (Zc (Za 1) Zm))))
  (Zt (ZW 2 (Zo Zbm (Zc (Za 0) (Zc (Za 1) (Zc (Zo Zdh (Zc (Za 0) Zm)) Zm)))))
  (Zt (ZW 3 (Zo (ZcR ap) (Zc (Za 0) (Zc (Za 1) (Zc (Zo Zdh (Zc (Za 0) Zm)) Zm)))))
  (Zt (ZW 4 (Zo (ZcS ap) (Zc (Za 0) (Zc (Za 3) Zm))))
  (Zt (sIf (tV (op2 ZkX (Zo Zae (Zc (Za 2) (Zc (Za 4) Zm))) (eC .none))) (ZF (eC .none)) Zan)
  (ZF (Zo Zb6 (Zc (Za 2) (Zc (Zo (Zd5 ap) (Zc (Za 3) (Zc (Za 4) (Zc (eC (fnD 0 [])) (Zc (eC (fnD 2 [])) Zm))))) Zm))))))))))
def Zes(ap:AP):List D->Option D:=fnOf 2 5 (Zg1 ap)
def ap:AP:=λt cs ds=>match t with
 | 0=>if cs.isEmpty then Zdj ds else none
 | 1=>Zli 1 2 (Zo Za9 (Zc (Za 1) (Zc (Za 2) (Zc (Za 0) Zm)))) cs ds
 | 2=>if cs.isEmpty then ZdS ds else none
 | _=>none
end HG6
namespace HG6
open PySem HM HG4
open HG
open HG5
structure Ord(M:Tb)(t:Int):Prop where
 nd:(M.map (·.1)).Nodup
 up:(M.map (·.2)).Pairwise (·<=·)
 lt:∀x∈M,x.2<t
theorem ZjZ(M:Tb)(c:List Int):ZE M c=true↔c∈M.map (·.1):=by
 unfold ZE
 induction M with
 | nil=>exact⟨λh=>(by cases h),λh=>(by simp at h)⟩
 | cons p M ih =>
  obtain⟨a,b⟩:=p;rw[Zbu,Zzw,ZzH]
  by_cases h:a=c
  ·rw[if_pos h]
   exact⟨λ_=>.inl h.symm,λ_=>rfl⟩
  ·rw[if_neg h,ih]
   exact⟨.inr,λz=>z.elim (λe=>absurd e.symm h) id⟩
theorem Zwl{M:Tb}{c:List Int}{v:Int}(h:c ∉ M.map (·.1)):putD M c v=M++[(c,v)]:=by unfold putD;rw[if_neg];intro z;obtain⟨p,hp,e⟩:=ZAg.mp z;exact h (Zzx.mpr ⟨p,hp,of_decide_eq_true e⟩)
theorem Zof(t:Int):∀(ms:List (List Int)) (M:Tb),ms.Nodup->(∀c∈ms,c ∉ M.map (·.1))->ms.foldl (λM c=>putD M c t) M=M++ms.map λc=>(c,t)
 | [],M,_,_=>by simp
 | c::ms,M,hn,h=>by
  obtain⟨n1,n2⟩:=ZAh.mp hn;rw[ZAv,Zwl (h c (Zzt ..)),Zof t ms _ n2 λx hx z=>?_]
  ·simp
  ·rw[Zz0]at z
   rcases ZzX.mp z with z | z
   ·exact h x (Zzu _ hx) z
   ·have e:x=c:=by simpa using z
    exact n1 (e▸hx)
theorem Ord.step{M:Tb}{t:Nat}(o:Ord M t){ms:List (List Int)}(hn:ms.Nodup)(h:∀c∈ms,c ∉ M.map (·.1)):Ord (ms.foldl (λM c=>putD M c (t:Int)) M) ((t+1:Nat):Int):=by
 rw[Zof _ _ _ hn h];refine⟨?_,?_,λx hx=>?_⟩
 ·rw[Zz0,ZzO]
  have e:ms.map ((λx:List Int × Int=>x.1)∘λc=>(c,(t:Int)))=ms:=by have:((λx:List Int × Int=>x.1)∘λc=>(c,(t:Int)))=id:=rfl;rw[this,List.map_id]
  rw[e,ZBc];exact⟨o.nd,hn,λa ha b hb e=>h b hb (e▸ha)⟩
 ·rw[Zz0,ZzO,ZCa]
  refine⟨o.up,?_,λa ha b hb=>?_⟩
  ·rw[ZCE]
   exact List.pairwise_of_forall λ_ _=>Int.le_refl _
  ·obtain⟨x,hx,rfl⟩:=Zzx.mp ha
   obtain⟨y,_,rfl⟩:=Zzx.mp hb;have:=o.lt x hx;show x.2<=(t:Int);omega
 ·rcases ZzX.mp hx with hx | hx
  ·have:=o.lt x hx
   omega
  ·obtain⟨y,_,rfl⟩:=Zzx.mp hx
   show(t:Int)<((t+1:Nat):Int);omega
def ZyW(w:Wk)(ls:List Int)(L:List (List Int))(M:Tb):Prop:=ZfX w ls L M/\(M.map (·.1)).Nodup/\(M.map (·.2)).Pairwise (·<=·)
section
variable{w:Wk}{ls:List Int}{L:List (List Int)}(hL:ZbC w ls L)(hne:∀c∈L,c≠[])(hnd:L.Nodup)
include hL hne hnd
theorem Zws{M R:Tb}{k:Option Int}{found:List (List Int)}(r:ZiK (wfV w ls) cbD L M k found R):∀t:Nat,Ord M t->found.Nodup->(∀c∈found,c ∉ M.map (·.1))->(found≠[]->k=some (t:Int)/\Zfs w ls L t (Zbh found t M))->(R.map (·.1)).Nodup/\(R.map (·.2)).Pairwise (·<=·):=by
 induction r with
 | done=>intro t o _ _ _; exact⟨o.nd,o.up⟩
 | @step M R k found hf _ ih =>
  intro t o hn hno h;obtain⟨hk,T⟩:=h hf;cases hk;have ho:=ZoI hL hne T;have hmin:∀ms:List (List Int),Ze6 (ms.map λc=>(c,((t+1:Nat):Int)))=ms/\(ms≠[]->ZbZ (ms.map λc=>(c,((t+1:Nat):Int)))=some ((t+1:Nat):Int)):=λms=>by
   cases ms with
   | nil=>exact⟨rfl,λz=>absurd rfl z⟩
   | cons c ms =>
    have hO:ZbZ ((c::ms).map λc=>(c,((t+1:Nat):Int)))=some ((t+1:Nat):Int):=by unfold ZbZ;rw[ZzO];refine ZBH.mpr ⟨Zzx.mpr ⟨c,Zzt ..,rfl⟩,λb hb=>?_⟩;obtain⟨c',_,rfl⟩:=Zzx.mp hb;exact Int.le_refl _
    refine⟨?_,λ_=>hO⟩;unfold Ze6;rw[hO];have:∀xs:List (List Int),((xs.map λc=>(c,((t+1:Nat):Int))).filter λp=>some p.2==some ((t+1:Nat):Int)).map (·.1)=xs:=by
     intro xs
     induction xs with
     | nil=>rfl
     | cons x xs ih=>simp at ih ⊢; exact ih
    exact this _
  obtain⟨m1,m2⟩:=hmin (ZaZ w ls L (Zbh found t M));rw[ho,m1]at ih;have o2:Ord (Zbh found t M) ((t+1:Nat):Int):=o.step hn hno;refine ih (t+1) o2 (hnd.filter _) (λc hc z=>?_) λe=>⟨m2 e,Zis hL T⟩;obtain⟨_,h2⟩:=Zz5.mp hc;rw[ZzK]at h2;rw[(ZjZ _ c).mpr z]at h2;cases h2.1
end
theorem ZrW{w:Wk}(hv:Wk.V w){ap:AP}(A:ApD ap){ls:List Int}{L:List (List Int)}(hnd:L.Nodup)(hcr:∀c∈L,Cr w.many c/\c≠[])(hlen:L.length<=128)(hL:ZbC w ls L):∃M,ZcS ap [w.d,.dict (Ze (ZbR w ls L))]=some (.dict (Ze (encM M)))/\ZiK (wfV w ls) cbD L [] (some 0) (L.filter λc=>ZY w c) M:=by
 have hys:∀c∈L,(wfV w ls c).length<1000:=λc hc=>by unfold wfV;rw[Zzr];have:=ZjR w c;have:=hv.d2;omega
 obtain⟨R,e,r⟩:=Zqm hv (ap:=ap) (wf:=wfV w ls) (t:=0) (cs:=[]) (cb:=cbD) hnd hlen (λc hc=>(hcr c hc).1) hys λc hc y hy M=>by
  rw[A.d0];obtain⟨d,hd,rfl⟩:=Zzx.mp hy;obtain⟨d0,d1,d2⟩:=Zci hd;refine ZkA ?_ ?_ M
  ·have:=split_len (w:=w) (ls:=ls) (c:=Zw w c d)
   have:=(ZcW hv (hcr c hc).1 d0 d1).len;have:=hv.m2;show(Zv w ls (Zw w c d)).length<1000;omega
  ·exact λz=>Zen (w:=w) (ls:=ls) (Zjt (hcr c hc).2 d2) (by unfold Zp; rw[show Zv w ls (Zw w c d)=[] from z]; rfl)
 refine⟨R,?_,r⟩;show Zax (Zgl ap [some (.pl w.d),some (.pl (.dict (Ze (ZbR w ls L))))])=_;unfold Zgl ZF Zo;show Zax (ZBi Out.rt (Zdi ap [w.d,.dict (Ze (ZA (wfV w ls) L)),fnD 0 []]))=_;rw[e];rfl
theorem ZrL{w:Wk}(hv:Wk.V w){ap:AP}(A:ApD ap){ls:List Int}{L:List (List Int)}(hnd:L.Nodup)(hcr:∀c∈L,Cr w.many c/\c≠[])(hlen:L.length<=128)(hL:ZbC w ls L):∃M,ZcS ap [w.d,.dict (Ze (ZbR w ls L))]=some (.dict (Ze (encM M)))/\ZyW w ls L M:=by obtain⟨M,e,r⟩:=ZrW hv A hnd hcr hlen hL;have hne:=λc hc=>(hcr c hc).2;obtain⟨n1,n2⟩:=Zws hL hne hnd r 0 ⟨.nil,.nil,λx h=>(by simp at h)⟩ (hnd.filter _) (λc _ z=>by simp at z) λ_=>⟨rfl,Zij⟩;exact⟨M,e,Zub hL hne hv r,n1,n2⟩
end HG6
namespace HG6
open PySem HM HG4
open HG
open HG5
def ZaF(f:List Int->D)(C:List (List Int)):List (List Ky × D):=C.map λc=>(Z8 c,f c)
theorem Zs6(f:List Int->D)(C:List (List Int))(k:List Int):Zg (ZaF f C) (Z8 k)=if k∈C then some (f k)else none:=by
 unfold Zg ZaF
 induction C with
 | nil=>rfl
 | cons c C ih =>
  rw[Zzw,ZAn]
  by_cases h:c=k
  ·subst h
   rw[if_pos (Zzt ..)];simp
  ·have h':decide ((Z8 c,f c).1=Z8 k)=false:=decide_eq_false λe=>h (Zek e)
   rw[h'];dsimp only;rw[ih]
   by_cases q:k∈C
   ·rw[if_pos q,if_pos (Zzu _ q)]
   ·rw[if_neg q,if_neg λz=>by
     rcases ZzH.mp z with e | e
     ·exact h e.symm
     ·exact q e]
theorem ZuD{f:List Int->D}{C:List (List Int)}{k:List Int}(h:k ∉ C):putD (ZaF f C) (Z8 k) (f k)=ZaF f (C++[k]):=by
 unfold putD;rw[if_neg]
 ·unfold ZaF
  rw[Zz0];rfl
 ·intro z
  obtain⟨p,hp,e⟩:=ZAg.mp z;unfold ZaF at hp;obtain⟨c,hc,rfl⟩:=Zzx.mp hp;have e:=Zek (of_decide_eq_true e);subst e;exact h hc
abbrev ZaH:D:=.tuple [.str (ZAk "done")]
abbrev doS:D:=.str (ZAk "do")
def Z5(S:List Int->D)(g:Gs):D:=.tuple (g.map λp=>.tuple [tupI p.1,S p.2])
section
variable(M:Tb)(w:Wk)(ls:List Int)
def okB(c:List Int)(k:Int)(d:Int):Bool:=cbD (ZcE w ls c d) M==some k
def Zaw(c:List Int)(k:Int):Int:=((doV w c).find? (okB M w ls c k)).getD 0
def ZdY:Nat->List Int->D
 | 0,_=>ZaH
 | n+1,c=>if Zg M c=some 0 then ZaH else .tuple [doS,dI (Zaw M w ls c ((Zg M c).getD 0)),Z5 (ZdY n) (Zv w ls (Zw w c (Zaw M w ls c ((Zg M c).getD 0))))]
def Zck(c:List Int):Nat:=((Zg M c).getD 0).toNat
def Zr(c:List Int):D:=ZdY M w ls (Zck M c) c
end
section
variable{M:Tb}{w:Wk}{ls:List Int}{L:List (List Int)}(hL:ZbC w ls L)(F:ZfX w ls L M)
include hL F
theorem Zwa{c:List Int}{n:Nat}{d:Int}(hd:d∈doV w c)(h:∀p∈Zp w ls (Zw w c d),Win w ls n p=true):Win w ls (n+1) c=true:=by
 obtain⟨d0,d1,d2⟩:=Zci hd;have e:((d.toNat:Nat):Int)=d:=ZCh d0;show(ZY w c||(ZzA w.deeds.length).any λd=>Zap w c d&&(Zp w ls (Zw w c d)).all λp=>Win w ls n p)=true;rw[ZA2]
 right
 refine ZAg.mpr ⟨d.toNat,ZzP.mpr (by omega),?_⟩;rw[e,ZzK];exact⟨d2,Zzz.mpr h⟩
omit hL in
theorem Zj0{c:List Int}{d:Int}{m:Int}(h:cbD (ZcE w ls c d) M=some m):∃n:Nat,m=((n+1:Nat):Int)/\(∀p∈Zp w ls (Zw w c d),∃j:Nat,j<=n/\Zg M p=some (j:Int))/\∃p∈Zp w ls (Zw w c d),Zg M p=some (n:Int):=by
 unfold cbD at h;cases hq:Zb2 (wyP (ZcE w ls c d)) M with
 | none=>rw[hq]at h; cases h
 | some m'=>rw[hq]at h;cases h;obtain⟨a1,p,hp,a2⟩:=Zln hq;obtain⟨_,n,rfl,_,_⟩:=F.cost a2;refine⟨n,(show(n:Int)+1=((n+1:Nat):Int) by omega),λq hq'=>?_,p,hp,a2⟩;obtain⟨k,b1,b2⟩:=a1 q hq';obtain⟨_,j,rfl,_,_⟩:=F.cost b1;exact⟨j,by omega,b1⟩
theorem Zot{c:List Int}{k:Nat}(hk:Zg M c=some ((k+1:Nat):Int)){d:Int}(hd:d∈doV w c){m:Int}(h:cbD (ZcE w ls c d) M=some m):((k+1:Nat):Int)<=m:=by
 obtain⟨n,rfl,h1,_⟩:=Zj0 F h;obtain⟨_,k',e,_,h2⟩:=F.cost hk;obtain rfl:k'=k+1:=by omega
 have hw:=Zwa hL F (n:=n) hd λp hp=>by
  obtain⟨j,hj,hl⟩:=h1 p hp;obtain⟨_,j',e,g1,_⟩:=F.cost hl;obtain rfl:j=j':=by omega
  exact Ze5 hj g1
 apply ZBO;intro z;rw[h2 (n+1) (by omega)]at hw;cases hw
theorem Zft{c:List Int}{k:Nat}(hk:Zg M c=some ((k+1:Nat):Int)):Zaw M w ls c ((k+1:Nat):Int)∈doV w c/\okB M w ls c ((k+1:Nat):Int) (Zaw M w ls c ((k+1:Nat):Int))=true/\(doV w c).find? (okB M w ls c ((k+1:Nat):Int))=some (Zaw M w ls c ((k+1:Nat):Int)):=by
 obtain⟨hc,n,e,h1,h2⟩:=F.cost hk;obtain rfl:n=k+1:=by omega
 have hw:(ZY w c||(ZzA w.deeds.length).any λd=>Zap w c d&&(Zp w ls (Zw w c d)).all λp=>Win w ls k p)=true:=h1;have ht:ZY w c=false:=h2 0 (by omega);rw[ht,ZCK]at hw;obtain⟨d,hd,hq⟩:=ZAg.mp hw;rw[ZzK]at hq;have hdo:=ZlO (ZzP.mp hd) hq.1;have hcn:c≠[]:=λz=>by rw[z]at ht; cases ht
 have hall:(wyP (ZcE w ls c d)).all (ZE M)=true:=Zzz.mpr λp hp=>F.all hL (hL c hc d (ZzP.mp hd) hq.1 p hp) (Zzz.mp hq.2 p hp);have hok:okB M w ls c ((k+1:Nat):Int) d=true:=by
  cases hcb:cbD (ZcE w ls c d) M with
  | none=>unfold cbD at hcb;rw[ZD4]at hcb;have:=Zik (Zen (w:=w) (ls:=ls) (Zjt hcn hq.1)) hcb;rw[show(Zp w ls (Zw w c d)).all (ZE M)=true from hall]at this;cases this
  | some m =>
   have h3:=Zot hL F hk hdo hcb;obtain⟨n,rfl,_,p,hp,hl⟩:=Zj0 F hcb;obtain⟨_,n',e,_,g2⟩:=F.cost hl;obtain rfl:n=n':=by omega
   have hwp:=Zzz.mp hq.2 p hp;have:n<=k:=by apply ZBO;intro z;rw[g2 k (by omega)]at hwp;cases hwp
   obtain rfl:n=k:=by omega
   unfold okB;rw[hcb];exact beq_self_eq_true _
 have hs:((doV w c).find? (okB M w ls c ((k+1:Nat):Int))).isSome=true:=ZCF.mpr ⟨d,hdo,hok⟩;obtain⟨d',hd'⟩:=ZzZ.mp hs;have ed:Zaw M w ls c ((k+1:Nat):Int)=d':=by unfold Zaw; rw[hd']; rfl
 rw[ed];exact⟨ZBo hd',ZC6 (p:=okB M w ls c ((k+1:Nat):Int)) hd',hd'⟩
theorem ZlU{c:List Int}{k:Nat}(hk:Zg M c=some ((k+1:Nat):Int)):cbD (ZcE w ls c (Zaw M w ls c ((k+1:Nat):Int))) M=some ((k+1:Nat):Int):=by obtain⟨_,h2,_⟩:=Zft hL F hk;unfold okB at h2;exact eq_of_beq h2
theorem Zu8{c:List Int}{k:Nat}(hk:Zg M c=some ((k+1:Nat):Int)):Zb3 cbD (wfV w ls c) M=some ((k+1:Nat):Int):=by obtain⟨h1,_,_⟩:=Zft hL F hk;have h2:=ZlU hL F hk;unfold Zb3;refine ZBH.mpr ⟨ZAA.mpr ⟨_,Zzx.mpr ⟨_,h1,rfl⟩,h2⟩,λb hb=>?_⟩;obtain⟨y,hy,hb⟩:=ZAA.mp hb;obtain⟨d,hd,rfl⟩:=Zzx.mp hy;exact Zot hL F hk hd hb
theorem ZeZ{c:List Int}{k:Nat}(hk:Zg M c=some ((k+1:Nat):Int)){p:List Int}(hp:p∈Zp w ls (Zw w c (Zaw M w ls c ((k+1:Nat):Int)))):∃j:Nat,j<=k/\Zg M p=some (j:Int):=by
 obtain⟨n,e,h1,_⟩:=Zj0 F (ZlU hL F hk);obtain rfl:n=k:=by omega
 exact h1 p hp
theorem Zr4{c:List Int}{k:Nat}(hk:Zg M c=some ((k+1:Nat):Int)):∃p∈Zp w ls (Zw w c (Zaw M w ls c ((k+1:Nat):Int))),Zg M p=some (k:Int):=by
 obtain⟨n,e,_,h1⟩:=Zj0 F (ZlU hL F hk);obtain rfl:n=k:=by omega
 exact h1
omit hL F in
theorem ZlB{S T:List Int->D}{g:Gs}(h:∀p∈g.map (·.2),S p=T p):Z5 S g=Z5 T g:=by unfold Z5;congr 1;refine ZAJ λp hp=>?_;rw[h p.2 (Zzx.mpr ⟨p,hp,rfl⟩)]
theorem Zqt:∀(k:Nat) (c:List Int),Zg M c=some (k:Int)->∀n,k<=n->ZdY M w ls n c=ZdY M w ls k c:=by
 intro k
 induction k using Nat.strongRecOn with
 | ind k ih =>
  intro c hk n hn;cases k with
  | zero =>
   cases n with
   | zero=>rfl
   | succ n=>show(if Zg M c=some 0 then ZaH else _)=ZaH;rw[if_pos (show Zg M c=some 0 from hk)]
  | succ k =>
   obtain⟨n,rfl⟩:∃m,n=m+1:=⟨n-1,by omega⟩;have hne:Zg M c≠some 0:=by
    rw[hk];intro e;injection e with e
    omega
   show(if Zg M c=some 0 then ZaH else _)=if Zg M c=some 0 then ZaH else _
   rw[if_neg hne,if_neg hne,hk];have:Z5 (ZdY M w ls n) (Zv w ls (Zw w c (Zaw M w ls c ((k+1:Nat):Int))))=Z5 (ZdY M w ls k) (Zv w ls (Zw w c (Zaw M w ls c ((k+1:Nat):Int)))):=ZlB λp hp=>by obtain⟨j,hj,hl⟩:=ZeZ hL F hk hp;rw[ih j (by omega) p hl n (by omega),ih j (by omega) p hl k hj]
   show Zz1 [_,_,Z5 (ZdY M w ls n) (Zv w ls (Zw w c (Zaw M w ls c ((k+1:Nat):Int))))]=Zz1 [_,_,Z5 (ZdY M w ls k) (Zv w ls (Zw w c (Zaw M w ls c ((k+1:Nat):Int))))];rw[this]
theorem Zmm{c:List Int}(hk:Zg M c=some 0):Zr M w ls c=ZaH:=by unfold Zr Zck;rw[hk];rfl
theorem ZmG{c:List Int}{k:Nat}(hk:Zg M c=some ((k+1:Nat):Int)):Zr M w ls c=.tuple [doS,dI (Zaw M w ls c ((k+1:Nat):Int)),Z5 (Zr M w ls) (Zv w ls (Zw w c (Zaw M w ls c ((k+1:Nat):Int))))]:=by
 have hne:Zg M c≠some 0:=by
  rw[hk];intro e;injection e with e
  omega
 have hcn:Zck M c=k+1:=by unfold Zck;rw[hk];show(((k+1:Nat):Int)).toNat=k+1;omega
 unfold Zr;rw[hcn];show(if Zg M c=some 0 then ZaH else _)=_;rw[if_neg hne,hk];have:Z5 (ZdY M w ls k) (Zv w ls (Zw w c (Zaw M w ls c ((k+1:Nat):Int))))=Z5 (λp=>ZdY M w ls (Zck M p) p) (Zv w ls (Zw w c (Zaw M w ls c ((k+1:Nat):Int)))):=ZlB λp hp=>by
  obtain⟨j,hj,hl⟩:=ZeZ hL F hk hp;have hcp:Zck M p=j:=by unfold Zck;rw[hl];rfl
  rw[hcp];exact Zqt hL F j p hl k hj
 show Zz1 [_,_,Z5 (ZdY M w ls k) (Zv w ls (Zw w c (Zaw M w ls c ((k+1:Nat):Int))))]=_;rw[this];rfl
end
theorem ZrM:∀(n m:Nat) (d:D),n<=m->Zed n d=true->Zed m d=true:=by
 intro n
 induction n with
 | zero=>intro m d h q;cases d<;>first | (cases q; done) | (cases m<;>rfl)
 | succ n ih =>
  intro m d h q;obtain⟨m,rfl⟩:∃k,m=k+1:=⟨m-1,by omega⟩;cases d with
  | tuple ds=>exact Zzz.mpr λx hx=>ih m x (by omega) (Zzz.mp (show ds.all (Zed n)=true from q) x hx)
  | none=>rfl
  | bool _=>rfl
  | int _=>rfl
  | str _=>rfl
  | _=>cases q
theorem Zrl(n:Nat)(ns:List Int):Zed (n+1) (tupI ns)=true:=Zzz.mpr λd hd=>by obtain⟨i,_,rfl⟩:=Zzx.mp hd;cases n<;>rfl
theorem ZrD{S:List Int->D}{n:Nat}(h:∀c,Zed (n+1) (S c)=true)(g:Gs):Zed (n+3) (Z5 S g)=true:=Zzz.mpr λd hd=>by
 obtain⟨p,_,rfl⟩:=Zzx.mp hd;refine Zzz.mpr λx hx=>?_;rcases ZzH.mp hx with e | hx
 ·rw[e]; exact Zrl n p.1
 ·rw[ZzI.mp hx]; exact h p.2
theorem Zrs(M:Tb)(w:Wk)(ls:List Int):∀(n:Nat) (c:List Int),Zed (3*n+1) (ZdY M w ls n c)=true:=by
 intro n
 induction n with
 | zero=>intro c; rfl
 | succ n ih =>
  intro c;show Zed (3*n+3+1) (if Zg M c=some 0 then ZaH else _)=true;split
  ·rfl
  ·refine Zzz.mpr λx hx=>?_
   rcases ZzH.mp hx with e | hx
   ·rw[e]; rfl
   ·rcases ZzH.mp hx with e | hx
    ·rw[e]; rfl
    ·rw[ZzI.mp hx]
     exact ZrD ih _
end HG6
namespace HG6
open PySem HM HG4
open HG
open HG5
theorem ZvN{M:Tb}{c:List Int}{k:Int}(h:Zg M c=some k):(c,k)∈M:=by
 unfold Zg at h;obtain⟨x,hx,e⟩:=Zzs.mp h;have h1:=ZBo hx;have h2:x.1=c:=by simpa using ZC6 hx
 have:x=(c,k):=by rw[<-h2,<-e]
 rw[<-this];exact h1
theorem ZvB{M:Tb}(nd:(M.map (·.1)).Nodup){c:List Int}{k:Int}(h:(c,k)∈M):Zg M c=some k:=by
 induction M with
 | nil=>simp at h
 | cons p M ih =>
  obtain⟨a,b⟩:=p;rw[Zzw]at nd;obtain⟨n1,n2⟩:=ZAh.mp nd;rw[Zbu];rcases ZzH.mp h with e | h
  ·injection e with e1 e2
   rw[if_pos e1.symm,e2]
  ·rw[if_neg λe=>n1 (by rw[show(a,b).1=c from e]; exact Zzx.mpr ⟨_,h,rfl⟩)]
   exact ih n2 h
theorem Zwq{M:Tb}(nd:(M.map (·.1)).Nodup)(up:(M.map (·.2)).Pairwise (·<=·)){pre post:List (List Int)}{c p:List Int}{k j:Int}(e:M.map (·.1)=pre++c::post)(hk:Zg M c=some k)(hj:Zg M p=some j)(hjk:j<k):p∈pre:=by
 obtain⟨A,B,rfl,eA,eB⟩:=List.map_eq_append_iff.mp e;obtain⟨x,B',rfl,ex,eB'⟩:=List.map_eq_cons_iff.mp eB;have hx:Zg (A++x::B') c=some x.2:=ZvB nd (by rw[<-ex]; exact ZzT _ (Zzt ..));rw[hk]at hx;cases hx;rcases ZzX.mp (ZvN hj)with h | h
 ·rw[<-eA]
  exact Zzx.mpr ⟨_,h,rfl⟩
 ·rcases ZzH.mp h with h | h
  ·rw[<-h]at hjk
   exact absurd hjk (Int.lt_irrefl _)
  ·rw[Zz0,ZCa]at up
   have h2:=(ZAc.mp (show(x.2::B'.map (·.2)).Pairwise (·<=·) from up.2.1)).1 j (Zzx.mpr ⟨_,h,rfl⟩);omega
theorem Zlq{S:List Int->D}{P:List (List Int)}{g:Gs}(hg:g.length<1000000)(h:∀p∈g.map (·.2),p∈P):Zb6 [.list (g.map ZI),.dict (Ze (ZaF S P))]=some (Z5 S g):=by
 have e:=Zet (c:=ZZ) (e:=ZcF (Zc (Za 0) (Zc (Zam (Zl 3) (Za 1)) Zm))) (r:=[some (.pl (.list (g.map ZI))),some (.pl (.dict (Ze (ZaF S P))))]) (λp:List Int × List Int=>tupI p.1) (λp=>tupI p.2) (λ_=>true) (λp=>Zz1 [tupI p.1,S p.2]) g (λ_ _=>rfl) (λp hp _=>by have hk:ZaT (tupI p.2)=some (Z8 p.2):=ZaA p.2;have hlk:=Zs6 S P p.2;rw[if_pos (h p.2 (Zzx.mpr ⟨p,hp,rfl⟩))]at hlk;simp[dec_enc,hk,hlk]);rw[ZBe.mpr λ_ _=>rfl]at e;have hi:Z4 (bOf (Za 0)) [some (.pl (.list (g.map ZI))),some (.pl (.dict (Ze (ZaF S P))))]=some (g.map ZI):=rfl;show Zax (ZF (Zaq (Zdb (Z4 (bOf (Za 0))) ZZ (ZcF (Zc (Za 0) (Zc (Zam (Zl 3) (Za 1)) Zm))))) [some (.pl (.list (g.map ZI))),some (.pl (.dict (Ze (ZaF S P))))])=_;have hf:Zdb (Z4 (bOf (Za 0))) ZZ (ZcF (Zc (Za 0) (Zc (Zam (Zl 3) (Za 1)) Zm))) [some (.pl (.list (g.map ZI))),some (.pl (.dict (Ze (ZaF S P))))]=some (.ol (g.map λp=>Zz1 [tupI p.1,S p.2])):=by unfold Zdb;rw[hi];dsimp only;rw[if_pos (show(g.map ZI).length<big by rw[Zzr]; exact hg)];refine(congrArg (ZBi _) e).trans ?_;rfl
 unfold ZF Zaq;rw[hf];rfl
theorem Zqf{ap:AP}{t:Nat}{cs:List D}{cb:Cb}{ys:List Wy}{M:Tb}(hy:ys.length<1000)(ha:∀y∈ys,ap t cs [wyD y,.dict (Ze (encM M))]=some (oI (cb y M))){k:Int}(hk:Zb3 cb ys M=some k){y:Wy}(hf:ys.find? (λy=>cb y M==some k)=some y) :
  Zba ap [.list (ys.map wyD),.dict (Ze (encM M)),fnD t cs]=some (wyD y):=by
 have h1:=ZiU (t:=t) (cs:=cs) hy ha;rw[hk]at h1;have hb:ys.length<big:=by show _<1000000; omega
 show Zax (Zhh ap [some (.pl (.list (ys.map wyD))),some (.pl (.dict (Ze (encM M)))),some (.pl (fnD t cs)),none])=_;unfold Zhh;refine ZQ (P:=λq=>Zax q=_) (r':=[some (.pl (.list (ys.map wyD))),some (.pl (.dict (Ze (encM M)))),some (.pl (fnD t cs)),some (.pl (.int k))]) ?_ ?_
 ·have:Zo (ZaU ap) (Zc (Za 0) (Zc (Za 1) (Zc (Za 2) Zm))) [some (.pl (.list (ys.map wyD))),some (.pl (.dict (Ze (encM M)))),some (.pl (fnD t cs)),none]=some (.int k):=h1
  unfold ZW;rw[this];rfl
 ·have e1:ZaJ (tV (op2 gEq (Zdc ap 3 (Zc (Za 0) (Zc (Za 2) Zm))) (Za 4))) (Za 0) [some (.pl (.list (ys.map wyD))),some (.pl (.dict (Ze (encM M)))),some (.pl (fnD t cs)),some (.pl (.int k))] (ys.map wyD)=some ((ys.filter λy=>cb y M==some k).map wyD):=by
   rw[ZbY wyD (λy=>cb y M==some k) wyD]
   ·intro y h
    have hc:Zdc ap 3 (Zc (Za 0) (Zc (Za 2) Zm)) (some (.pl (wyD y))::[some (.pl (.list (ys.map wyD))),some (.pl (.dict (Ze (encM M)))),some (.pl (fnD t cs)),some (.pl (.int k))])=some (oI (cb y M)):=by show(match ZiI (fnD t cs)with | some (t,cs)=>_ | none=>none)=_;rw[ZjW];exact ha y h
    unfold tV op2;rw[hc];show(match gEq (oI (cb y M)) (.int k)with | some (.bool b)=>some b | _=>none)=_;cases hq:cb y M with
    | none=>rfl
    | some m =>
     show(match gEq (.int m) (.int k)with | some (.bool b)=>some b | _=>none)=_
     by_cases e:m=k
     ·subst e
      rw[Zep (ZdI 1 _) (by decide)];simp
     ·rw[ZgW (ZdI 1 _) (ZdI 1 _) (by decide) (by decide) (λz=>e (by injection z))]
      simp[e]
   ·intro y _ _
    rfl
  have e2:ZM (Z4 (bOf (Za 0))) (tV (op2 gEq (Zdc ap 3 (Zc (Za 0) (Zc (Za 2) Zm))) (Za 4))) (Za 0) [some (.pl (.list (ys.map wyD))),some (.pl (.dict (Ze (encM M)))),some (.pl (fnD t cs)),some (.pl (.int k))]=some (.ol ((ys.filter λy=>cb y M==some k).map wyD)):=by unfold ZM;show(if(ys.map wyD).length<big then _ else none)=_;rw[if_pos (by rw[Zzr]; exact hb),e1];rfl
  rw[ZC7]at hf;obtain⟨hyk,as,bs,rfl,hno⟩:=hf;have hfl:((as++y::bs).filter λy=>cb y M==some k)=y::bs.filter λy=>cb y M==some k:=by rw[List.filter_append,ZCJ.mpr (λx hx=>by have:=hno x hx; simpa using this),ZBs,ZAS,if_pos hyk]
  rw[hfl]at e2;have e3:eIx (ZM (Z4 (bOf (Za 0))) (tV (op2 gEq (Zdc ap 3 (Zc (Za 0) (Zc (Za 2) Zm))) (Za 4))) (Za 0)) (eC (.int 0)) [some (.pl (.list ((as++y::bs).map wyD))),some (.pl (.dict (Ze (encM M)))),some (.pl (fnD t cs)),some (.pl (.int k))]=some (wyD y):=by unfold eIx;rw[e2];exact ZcX (ds:=wyD y::(bs.filter λy=>cb y M==some k).map wyD) (j:=0) rfl
  unfold ZF;rw[e3];rfl
section
variable{w:Wk}(hv:Wk.V w){ls:List Int}{L:List (List Int)}{M:Tb}(hcr:∀c∈L,Cr w.many c/\c≠[])(hlen:L.length<=128)(hL:ZbC w ls L)(F:ZfX w ls L M)(nd:(M.map (·.1)).Nodup)(up:(M.map (·.2)).Pairwise (·<=·))
include hlen hL F
theorem Zwf{c:List Int}{k:Nat}(h:Zg M c=some (k:Int)):k<=128:=by
 obtain⟨hc,n,e,h1,h2⟩:=F.cost h;have:=Zl8 hL hc h1;obtain rfl:k=n:=by omega
 by_cases hn:k<=L.length
 ·omega
 ·rw[h2 L.length (by omega)]at this
  cases this
theorem Zuu(c:List Int):Zck M c<=128:=by
 unfold Zck;cases h:Zg M c with
 | none=>exact ZAP _
 | some v=>obtain⟨_,n,rfl,_,_⟩:=F.cost h;have:=Zwf hlen hL F h;show((n:Int)).toNat<=128;omega
theorem ZrA(c:List Int):Zed 400 (Zr M w ls c)=true :=
 ZrM _ _ _ (by have:=Zuu hlen hL F c; omega) (Zrs M w ls (Zck M c) c)
structure _root_.HG6.ApP(ap:AP):Prop where
 d:ApD ap
 d2:∀ds,ap 2 [] ds=ZdS ds
include hv hcr nd up
theorem ZrV{ap:AP}(A:ApP ap){pre post:List (List Int)}{c:List Int}(e:M.map (·.1)=pre++c::post)(hpl:pre.length<1000000) :
  ZbM ap [some (.pl (.dict (Ze (ZbR w ls L)))),some (.hd (Ze (encM M))),some (.pl (fnD 0 [])),some (.pl (fnD 2 [])),some (.ot (ZaF (Zr M w ls) pre)),some (.pl (tupI c))]=some (.nx [some (.pl (.dict (Ze (ZbR w ls L)))),some (.hd (Ze (encM M))),some (.pl (fnD 0 [])),some (.pl (fnD 2 [])),some (.ot (ZaF (Zr M w ls) (pre++[c]))),some (.pl (tupI c))]):=by
 have hcm:c∈M.map (·.1):=by rw[e]; exact ZzT _ (Zzt ..)
 have hh:=(ZjZ M c).mpr hcm;unfold ZE at hh;obtain⟨v,hv'⟩:=ZzZ.mp hh;obtain⟨hcl,n,rfl,_,_⟩:=F.cost hv';have hnp:c ∉ pre:=λz=>by rw[e]at nd;exact(ZBc.mp nd).2.2 c z c (Zzt ..) rfl
 have hk:ZaT (tupI c)=some (Z8 c):=ZaA c;have hlk:=Zcy M c;rw[hv']at hlk;have hel:(ZaF (Zr M w ls) pre).length<1000000:=by unfold ZaF; rw[Zzr]; exact hpl
 have hput:=ZuD (f:=Zr M w ls) hnp;cases n with
 | zero =>
  have hs:=Zmm (ls:=ls) hL F (c:=c) hv';rw[<-hput,hs];have hz:tV (op2 gEq (Zam (Zl 1) (Za 5)) (eC (.int 0))) [some (.pl (.dict (Ze (ZbR w ls L)))),some (.hd (Ze (encM M))),some (.pl (fnD 0 [])),some (.pl (fnD 2 [])),some (.ot (ZaF (Zr M w ls) pre)),some (.pl (tupI c))]=some true:=by simp[dec_enc,hk,hlk]
  unfold ZbM sIf;rw[hz];simp[hk,hel]
 | succ k =>
  have hs:=ZmG (ls:=ls) hL F (c:=c) hv';have hto:=ZrA (w:=w) (ls:=ls) hlen hL F c;obtain⟨hd,_,hfind⟩:=Zft hL F hv';have hmin:=Zu8 hL F hv';have hparts:=λp hp=>ZeZ hL F hv' (p:=p) hp;have hcc:=(hcr c hcl).1;obtain⟨d0,d1,d2⟩:=Zci hd;have hsl:=split_len (w:=w) (ls:=ls) (c:=Zw w c (Zaw M w ls c ((k+1:Nat):Int)));have hll:=(ZcW hv hcc d0 d1).len;have hm2:=hv.m2;have hpo:=Zlq (S:=Zr M w ls) (P:=pre) (g:=Zv w ls (Zw w c (Zaw M w ls c ((k+1:Nat):Int)))) (by omega) λp hp=>by obtain⟨j,hj,hl⟩:=hparts p hp;exact Zwq nd up e hv' hl (by omega)
  have hlw:=Zg9 (wfV w ls) L c;rw[if_pos hcl]at hlw;have hbw:Zba ap [.list ((wfV w ls c).map wyD),.dict (Ze (encM M)),fnD 0 []]=some (wyD (ZcE w ls c (Zaw M w ls c ((k+1:Nat):Int)))):=by
   refine Zqf (cb:=cbD) (k:=((k+1:Nat):Int)) ?_ (λy hy=>?_) hmin ?_
   ·unfold wfV
    rw[Zzr];have:=ZjR w c;have:=hv.d2;omega
   ·rw[A.d.d0]
    obtain⟨d,hd,rfl⟩:=Zzx.mp hy;obtain⟨e0,e1,e2⟩:=Zci hd;refine ZkA ?_ ?_ M
    ·have:=split_len (w:=w) (ls:=ls) (c:=Zw w c d)
     have:=(ZcW hv hcc e0 e1).len;show(Zv w ls (Zw w c d)).length<1000;omega
    ·exact λz=>Zen (w:=w) (ls:=ls) (Zjt (hcr c hcl).2 e2) (by unfold Zp; rw[show Zv w ls (Zw w c d)=[] from z]; rfl)
   ·unfold wfV
    rw[ZEe];have hfind':(doV w c).find? ((λy=>cbD y M==some ((k+1:Nat):Int))∘ZcE w ls c)=some (Zaw M w ls c ((k+1:Nat):Int)):=hfind;rw[hfind'];rfl
  rw[<-hput,hs];rw[hs]at hto;generalize Zaw M w ls c ((k+1:Nat):Int)=d at *;have hz:tV (op2 gEq (Zam (Zl 1) (Za 5)) (eC (.int 0))) [some (.pl (.dict (Ze (ZbR w ls L)))),some (.hd (Ze (encM M))),some (.pl (fnD 0 [])),some (.pl (fnD 2 [])),some (.ot (ZaF (Zr M w ls) pre)),some (.pl (tupI c))]=some false:=by
   have hb:(((k+1:Nat):Int)==0)=false:=by rw[beq_eq_false_iff_ne]; omega
   generalize ((k+1:Nat):Int)=k1 at hb hlk;simp[dec_enc,hk,hlk,hb]
  have hst:ZdS [wyD (ZcE w ls c d),.dict (Ze (ZaF (Zr M w ls) pre))]=some (.tuple [doS,dI d,Z5 (Zr M w ls) (Zv w ls (Zw w c d))]):=by show Zax (Zh5 [some (.pl (wyD (ZcE w ls c d))),some (.pl (.dict (Ze (ZaF (Zr M w ls) pre))))])=_;have h1:Zo Zb6 (Zc (eIx (Zl 0) (eC (.int 1))) (Zc (Za 1) Zm)) [some (.pl (wyD (ZcE w ls c d))),some (.pl (.dict (Ze (ZaF (Zr M w ls) pre))))]=some (Z5 (Zr M w ls) (Zv w ls (Zw w c d))):=hpo;have h2:eIx (Zl 0) (eC (.int 0)) [some (.pl (wyD (ZcE w ls c d))),some (.pl (.dict (Ze (ZaF (Zr M w ls) pre))))]=some (dI d):=rfl;unfold Zh5;generalize Zo Zb6 (Zc (eIx (Zl 0) (eC (.int 1))) (Zc (Za 1) Zm))=E at h1 ⊢;generalize eIx (Zl 0) (eC (.int 0))=E2 at h2 ⊢;simp[h1,h2,Zax]
  have hw2:Zo (Zba ap) (Zc (Zam (Zl 0) (Za 5)) (Zc (eHd 1) (Zc (Za 2) Zm))) [some (.pl (.dict (Ze (ZbR w ls L)))),some (.hd (Ze (encM M))),some (.pl (fnD 0 [])),some (.pl (fnD 2 [])),some (.ot (ZaF (Zr M w ls) pre)),some (.pl (tupI c))]=some (wyD (ZcE w ls c d)):=by simp[dec_enc,hk,hlw,hbw]
  have hval:Zgh ap 3 (Zc (Zo (Zba ap) (Zc (Zam (Zl 0) (Za 5)) (Zc (eHd 1) (Zc (Za 2) Zm)))) (Zc (Zhf (Zl 4)) Zm)) [some (.pl (.dict (Ze (ZbR w ls L)))),some (.hd (Ze (encM M))),some (.pl (fnD 0 [])),some (.pl (fnD 2 [])),some (.ot (ZaF (Zr M w ls) pre)),some (.pl (tupI c))]=some (.tuple [doS,dI d,Z5 (Zr M w ls) (Zv w ls (Zw w c d))]):=by
   have ha:Zc (Zo (Zba ap) (Zc (Zam (Zl 0) (Za 5)) (Zc (eHd 1) (Zc (Za 2) Zm)))) (Zc (Zhf (Zl 4)) Zm) [some (.pl (.dict (Ze (ZbR w ls L)))),some (.hd (Ze (encM M))),some (.pl (fnD 0 [])),some (.pl (fnD 2 [])),some (.ot (ZaF (Zr M w ls) pre)),some (.pl (tupI c))]=some [wyD (ZcE w ls c d),.dict (Ze (ZaF (Zr M w ls) pre))]:=by generalize Zo (Zba ap) (Zc (Zam (Zl 0) (Za 5)) (Zc (eHd 1) (Zc (Za 2) Zm)))=E at hw2 ⊢;simp[hw2]
   unfold Zgh;show(match ZiI (fnD 2 [])with | some (t,cs)=>_ | none=>none)=_;rw[ZjW];dsimp only;rw[ha];dsimp only;rw[A.d2,hst];dsimp only;rw[if_pos hto]
  unfold ZbM sIf;rw[hz];generalize Zgh ap 3 (Zc (Zo (Zba ap) (Zc (Zam (Zl 0) (Za 5)) (Zc (eHd 1) (Zc (Za 2) Zm)))) (Zc (Zhf (Zl 4)) Zm))=E at hval ⊢;simp[hval,hk,hel]
theorem Zpl{ap:AP}(A:ApP ap):∀(post pre:List (List Int)) (q5:Option B),M.map (·.1)=pre++post->pre.length+post.length<1000000->Zbc q5=false ->
  ∃p5,Zbc p5=false/\Z7 5 (ZbM ap) (post.map tupI) [some (.pl (.dict (Ze (ZbR w ls L)))),some (.hd (Ze (encM M))),some (.pl (fnD 0 [])),some (.pl (fnD 2 [])),some (.ot (ZaF (Zr M w ls) pre)),q5]=some (.nx [some (.pl (.dict (Ze (ZbR w ls L)))),some (.hd (Ze (encM M))),some (.pl (fnD 0 [])),some (.pl (fnD 2 [])),some (.ot (ZaF (Zr M w ls) (pre++post))),p5])
 | [],pre,q5,_,_,h5=>⟨q5,h5,by rw[ZBf,Zz8]; rfl⟩
 | c::post,pre,q5,e,hl,h5=>by rw[ZzG]at hl;have e1:=ZrV hv hcr hlen hL F nd up A e (by omega);obtain⟨r5,g5,ih⟩:=Zpl A post (pre++[c]) (some (.pl (tupI c))) (by rw[e]; simp) (by rw[ZzL,ZAO]; omega) rfl;refine⟨r5,g5,?_⟩;rw[show pre++c::post=(pre++[c])++post by simp,<-ih,Zzw];show(match ZbM ap [some (.pl (.dict (Ze (ZbR w ls L)))),some (.hd (Ze (encM M))),some (.pl (fnD 0 [])),some (.pl (fnD 2 [])),some (.ot (ZaF (Zr M w ls) pre)),some (.pl (tupI c))]with | some (.nx r')=>_ | some (.ct r')=>_ | some (.bk r')=>_ | some (.rt d)=>_ | none=>_)=_;rw[e1]
theorem Zqo{ap:AP}(A:ApP ap)(hML:M.length<1000000):Zd5 ap [.dict (Ze (ZbR w ls L)),.dict (Ze (encM M)),fnD 0 [],fnD 2 []]=some (.dict (Ze (ZaF (Zr M w ls) (M.map (·.1))))):=by
 obtain⟨p5,g5,hgo⟩:=Zpl hv hcr hlen hL F nd up A (M.map (·.1)) [] none rfl (by simp; exact hML) rfl;rw[ZBs]at hgo;show Zax (Zfw ap [some (.pl (.dict (Ze (ZbR w ls L)))),some (.pl (.dict (Ze (encM M)))),some (.pl (fnD 0 [])),some (.pl (fnD 2 [])),none,none])=_;have e:Zfw ap [some (.pl (.dict (Ze (ZbR w ls L)))),some (.pl (.dict (Ze (encM M)))),some (.pl (fnD 0 [])),some (.pl (fnD 2 [])),none,none]=some (.rt (.dict (Ze (ZaF (Zr M w ls) (M.map (·.1)))))):=by
  unfold Zfw;refine ZQ (P:=λq=>q=_) (r':=[some (.pl (.dict (Ze (ZbR w ls L)))),some (.pl (.dict (Ze (encM M)))),some (.pl (fnD 0 [])),some (.pl (fnD 2 [])),some (.ot (ZaF (Zr M w ls) [])),none]) rfl ?_;refine ZQ (P:=λq=>q=_) (r':=[some (.pl (.dict (Ze (ZbR w ls L)))),some (.pl (.dict (Ze (encM M)))),some (.pl (fnD 0 [])),some (.pl (fnD 2 [])),some (.ot (ZaF (Zr M w ls) (M.map (·.1)))),p5]) ?_ (by simp);have hw:ZaO 1 [some (.pl (.dict (Ze (ZbR w ls L)))),some (.hd (Ze (encM M))),some (.pl (fnD 0 [])),some (.pl (fnD 2 [])),some (.ot (ZaF (Zr M w ls) [])),none]=some ((M.map (·.1)).map tupI):=by show(Zff (Ze (encM M))).map _=_;rw[dec_enc,<-Zjy M];rfl
  have hs:ZaN 5 (ZaO 1) (ZbM ap) [some (.pl (.dict (Ze (ZbR w ls L)))),some (.hd (Ze (encM M))),some (.pl (fnD 0 [])),some (.pl (fnD 2 [])),some (.ot (ZaF (Zr M w ls) [])),none]=some (.nx [some (.pl (.dict (Ze (ZbR w ls L)))),some (.hd (Ze (encM M))),some (.pl (fnD 0 [])),some (.pl (fnD 2 [])),some (.ot (ZaF (Zr M w ls) (M.map (·.1)))),p5]):=by unfold ZaN;rw[hw];dsimp only;rw[if_pos (by rw[Zzr,Zzr]; exact hML)];exact hgo
  have a2:([some (B.pl (.dict (Ze (ZbR w ls L)))),none,some (.pl (fnD 0 [])),some (.pl (fnD 2 [])),some (.ot (ZaF (Zr M w ls) (M.map (·.1)))),p5]:HM.Env).all (λq=>!Zbc q)=true:=by simp only[ZAF,ZDM,g5];rfl
  show(match ZaN 5 (ZaO 1) (ZbM ap) [some (.pl (.dict (Ze (ZbR w ls L)))),some (.hd (Ze (encM M))),some (.pl (fnD 0 [])),some (.pl (fnD 2 [])),some (.ot (ZaF (Zr M w ls) [])),none]with | some (.nx r')=>_ | some (.rt d)=>_ | _=>none)=_;rw[hs];show(if([some (B.pl (.dict (Ze (ZbR w ls L)))),none,some (.pl (fnD 0 [])),some (.pl (fnD 2 [])),some (.ot (ZaF (Zr M w ls) (M.map (·.1)))),p5]:HM.Env).all (λq=>!Zbc q)=true then _ else _)=_;rw[if_pos a2];rfl
 rw[e];rfl
end
end HG6
namespace HG6
open PySem HM HG4
open HG
open HG5
section
variable{w:Wk}(hv:Wk.V w)(h7:w.many<=7){ls:List Int}(hl:Cr w.looks.length ls)
include hv h7 hl
theorem Zte{ap:AP}(A:ApP ap):∃L M,L.length<=128/\L.Nodup/\(∀c∈L,Cr w.many c/\c≠[])/\ZbC w ls L/\ZfX w ls L M/\(∀p∈Zp w ls w.beg,p∈L)/\Zes ap [w.d,tupI ls]=some (if(Zp w ls w.beg).all (ZE M)then Z5 (Zr M w ls) (Zv w ls w.beg)else .none):=by
 obtain⟨L,hco,hnd,hlen,hcr,_,hL,hbg⟩:=Zl5 hv h7 hl A.d hv.bc;obtain⟨M,hde,F,nd,up⟩:=ZrL hv A.d hnd hcr hlen hL;refine⟨L,M,hlen,hnd,hcr,hL,F,hbg,?_⟩;have hMl:M.length<=128:=by
  have h1:(M.map (·.1)).length<=L.length:=ZAH nd λc hc=>by have hh:=(ZjZ M c).mpr hc;unfold ZE at hh;obtain⟨k,hk⟩:=ZzZ.mp hh;exact(F.cost hk).1
  rw[Zzr]at h1;omega
 have hst:=Zqo hv hcr hlen hL F nd up A (by omega);have hpa:=ZjF hv hl hv.bc;have hsl:=split_len (w:=w) (ls:=ls) (c:=w.beg);have hbl:=hv.bc.len;have hsn:Zv w ls w.beg≠[]:=λe=>Zen (w:=w) (ls:=ls) hv.b1 (by unfold Zp; rw[e]; rfl);have hmo:=ZgO (g:=Zv w ls w.beg) (M:=M) (by omega) hsn;have hc1:=ZrI hv;have hc2:=ZkR hv hl;have hb:=Zqh w;have hall:(Zp w ls w.beg).all (ZE M)=((Zv w ls w.beg).map (·.2)).all (ZE M):=rfl;rw[hall];show Zax (Zg1 ap [some (.pl w.d),some (.pl (tupI ls)),none,none,none])=_;cases hq:((Zv w ls w.beg).map (·.2)).all (ZE M)with
 | false =>
  have hmo:Zae [.list ((Zv w ls w.beg).map ZI),.dict (Ze (encM M))]=some .none:=by rw[hmo];unfold Zb2;rw[hq];rfl
  simp[Zg1,hc1,hc2,hb,hco,hde,hpa,hmo,Zax]
 | true =>
  rw[if_pos rfl];have hne:((Zv w ls w.beg).map (·.2))≠[]:=λe=>hsn (ZDa.mp e);obtain⟨m,hm⟩:∃m,Zb2 ((Zv w ls w.beg).map (·.2)) M=some m:=by
   cases q:Zb2 ((Zv w ls w.beg).map (·.2)) M with
   | none=>have:=Zik hne q; rw[hq]at this; cases this
   | some m=>exact⟨m,rfl⟩
  rw[hm]at hmo;have hmo:Zae [.list ((Zv w ls w.beg).map ZI),.dict (Ze (encM M))]=some (.int m):=hmo;have hpo:=Zlq (S:=Zr M w ls) (P:=M.map (·.1)) (g:=Zv w ls w.beg) (by omega) λp hp=>(ZjZ M p).mp (Zzz.mp hq p hp);simp[Zg1,hc1,hc2,hb,hco,hde,hpa,hmo,hst,hpo,Zax]
end
theorem Zy5:ApP ap:=⟨⟨λ_=>rfl,λ_ _=>rfl⟩,λ_=>rfl⟩
end HG6
namespace HG66
open PySem HM
open HG
open HG5
open HG6
def ZdB(R:List D->Option D):SF :=
 (Zt (ZW 7 (eIx (bOf (eIx (Zl 3) (Za 6))) (eC (.int 1))))
  (Zt (ZW 8 (eC (.int 0)))
  (Zt (sIf (tV (op2 ZeY (Za 7) (ZcF (Zc (eC (.str (ZAk "done"))) Zm)))) (Zt (sIf (tOr (Zb7 (tV (ZdM (Za 7) .tuple))) (tOr (tV (op2 gNe (Zaz (Zl 7)) (eC (.int 3)))) (tOr (tV (op2 gNe (eIx (Zl 7) (eC (.int 0))) (eC (.str (ZAk "do"))))) (Zb7 (tV (Zo Zce (Zc (eIx (Zl 7) (eC (.int 1))) Zm))))))) (ZF (eC (.int (-1)))) Zan)
  (Zt (ZW 9 (eC .none))
  (Zt (sIf (tV (ZfH gLe gLt (eC (.int 0)) (eIx (Zl 7) (eC (.int 1))) (Zaz (bOf (eIx (Zl 0) (eC (.int 1))))))) (ZW 9 (Zo ZaY (Zc (Za 0) (Zc (eIx (bOf (eIx (Zl 4) (Za 6))) (eC (.int 1))) (Zc (eIx (Zl 7) (eC (.int 1))) Zm))))) Zan)
  (Zt (sIf (tV (op2 ZkX (Za 9) (eC .none))) (ZF (eC (.int (-1)))) Zan)
  (ZW 8 (op2 Zbk (eC (.int 1)) (Zo R (Zc (Za 0) (Zc (Za 1) (Zc (Za 9) (Zc (eIx (Zl 7) (eC (.int 2))) Zm))))))))))) Zan)
  (Zt (sIf (ZhC (tV (op2 gEq (Za 8) (eC (.int 0)))) (tOr (tV (op2 ZeY (Za 7) (ZcF (Zc (eC (.str (ZAk "done"))) Zm)))) (Zb7 (tV (Zo ZaD (Zc (Za 0) (Zc (eIx (bOf (eIx (Zl 4) (Za 6))) (eC (.int 1))) Zm))))))) (ZF (eC (.int (-1)))) Zan)
  (ZW 5 (op2 Zr8 (Za 5) (Za 8)))))))
def Zd6(R:List D->Option D):SF :=
 (Zt (ZW 4 (Zo Zak (Zc (Za 0) (Zc (Za 1) (Zc (Za 2) Zm)))))
  (Zt (sIf (tOr (Zb7 (tV (ZdM (Za 3) .tuple))) (tV (op2 gNe (eOf (ZM (Z4 (bOf (Za 3))) ZZ (eIx (Zl 0) (eC (.int 0))))) (eOf (ZM (Z4 (bOf (Za 4))) ZZ (eIx (Zl 0) (eC (.int 0)))))))) (ZF (eC (.int (-1)))) Zan)
  (Zt (ZW 5 (eC (.int 0)))
  (Zt (ZaN 6 (Zb8 (Zaz (Zl 4))) (ZdB R))
  (ZF (Za 5))))))
def ZaV:Nat->List D->Option D
 | 0=>fnOf 4 10 Zjz
 | n+1=>fnOf 4 10 (Zd6 (ZaV n))
def ZnB(ap:AP):SF :=
 (Zt (ZW 1 (Zo Za7 (Zc (Za 0) (Zc (eC (.int 1)) Zm))))
  (Zt (ZW 2 (Zo ZcQ (Zc (Za 1) (Zc (Zo Zao (Zc (Za 0) (Zc (eC (.int 0)) Zm))) Zm))))
  (Zt (ZW 3 (Zo Zcq (Zc (Za 1) (Zc (Za 2) Zm))))
  (Zt (ZW 4 (Zo (Zes ap) (Zc (Za 1) (Zc (Za 2) Zm))))
  (Zt (sIf (tV (op2 ZkX (Za 3) (eC .none))) (ZF (op2 ZkX (Za 4) (eC .none))) Zan)
  (ZF (ZgI (ZdM (Za 4) .tuple) (op2 gEq (Zo (ZaV 40) (Zc (Za 1) (Zc (Za 2) (Zc (eIx (Zl 1) (eC (.int 3))) (Zc (Za 4) Zm))))) (Za 3)))))))))
def Zgm(ap:AP):List D->Option D:=fnOf 1 5 (ZnB ap)
end HG66
namespace HG66
open PySem HM HG4
open HG
open HG5
open HG6
theorem ZkP:ZaH.canLay0=true:=by decide +kernel
theorem ZtE:doS.canLay0=true:=by decide +kernel
theorem ZlA:Zag ZaH=true:=by decide +kernel
theorem Zu9:Zag doS=true:=by decide +kernel
theorem Zui:ZAr ZaH ZaH=true:=by decide +kernel
theorem ZvA:ZAr doS doS=true:=by decide +kernel
theorem lay_ints(ns:List Int):(tupI ns).canLay0=true:=(ZhU 1 _ (Zdn 0 ns)).1
theorem Zps{S:List Int->D}(h:∀c,(S c).canLay0=true)(g:Gs):(Z5 S g).canLay0=true:=ZcY λd hd=>by
 obtain⟨p,_,rfl⟩:=Zzx.mp hd;exact ZcY λx hx=>by
  rcases ZzH.mp hx with e | hx
  ·rw[e]; exact lay_ints p.1
  ·rw[ZzI.mp hx]; exact h p.2
theorem ZoH(M:Tb)(w:Wk)(ls:List Int):∀(n:Nat) (c:List Int),(ZdY M w ls n c).canLay0=true
 | 0,c=>ZkP
 | n+1,c=>by
  show(if Zg M c=some 0 then ZaH else _:D).canLay0=true;split
  ·exact ZkP
  ·exact ZcY λx hx=>by
    rcases ZzH.mp hx with e | hx
    ·rw[e]; exact ZtE
    ·rcases ZzH.mp hx with e | hx
     ·rw[e]; rfl
     ·rw[ZzI.mp hx]; exact Zps (ZoH M w ls n) _
theorem ZwM(d x:D):ZAr (.tuple [doS,d,x]) ZaH=false:=rfl
abbrev er(w:Wk)(ls:List Int)(b:List Int)(S:List Int->D)(g:Gs)(a i:Nat)(q7 q8 q9:Option B):HM.Env:=[some (.pl w.d),some (.pl (tupI ls)),some (.pl (tupI b)),some (.pl (Z5 S g)),some (.pl (.list (g.map ZI))),some (.pl (dN a)),some (.pl (dN i)),q7,q8,q9]
section
variable{w:Wk}(hv:Wk.V w)(h7:w.many<=7){ls:List Int}(hl:Cr w.looks.length ls){L:List (List Int)}{M:Tb}(hcr:∀c∈L,Cr w.many c/\c≠[])(hlen:L.length<=128)(hL:ZbC w ls L)(F:ZfX w ls L M)
include hv h7 hL F
theorem Zs7{R:List D->Option D}{b:List Int}{g:Gs}{i:Nat}{kp:List Int × List Int}(hi:g[i]?=some kp)(hcp:Cr w.many kp.2){j:Nat}(hj:Zg M kp.2=some (j:Int))(hR:∀k,j=k+1->R [w.d,tupI ls,tupI (Zw w kp.2 (Zaw M w ls kp.2 ((k+1:Nat):Int))),Z5 (Zr M w ls) (Zv w ls (Zw w kp.2 (Zaw M w ls kp.2 ((k+1:Nat):Int))))]=some (dN k))(a:Nat)(q7 q8 q9:Option B) :
  ∃p7 p8 p9,ZdB R (er w ls b (Zr M w ls) g a i q7 q8 q9)=some (.nx (er w ls b (Zr M w ls) g (max a j) i p7 p8 p9)):=by
 have h3:∀q7 q8 q9,eIx (bOf (eIx (Zl 3) (Za 6))) (eC (.int 1)) (er w ls b (Zr M w ls) g a i q7 q8 q9)=some (Zr M w ls kp.2):=λq7 q8 q9=>by have e:atD (g.map λp=>Zz1 [tupI p.1,Zr M w ls p.2]) (i:Int)=some (.tuple [tupI kp.1,Zr M w ls kp.2]):=ZcX (by rw[ZzR,hi]; rfl);simp[Z5,e]
 have h4:∀q7 q8 q9,eIx (bOf (eIx (Zl 4) (Za 6))) (eC (.int 1)) (er w ls b (Zr M w ls) g a i q7 q8 q9)=some (tupI kp.2):=λq7 q8 q9=>by have e:atD (g.map ZI) (i:Int)=some (ZI kp):=ZcX (by rw[ZzR,hi]; rfl);simp[e,ZI]
 obtain⟨k,p⟩:=kp;dsimp only at *;have hlp:=hcp.len;have hth:=Zjq hv (c:=p) (by omega);have hmax:∀q7 q9,ZW 5 (op2 Zr8 (Za 5) (Za 8)) (er w ls b (Zr M w ls) g a i q7 (some (.pl (dN j))) q9)=some (.nx (er w ls b (Zr M w ls) g (max a j) i q7 (some (.pl (dN j))) q9)):=λq7 q9=>by
  have e:(if(j:Int) > (a:Int)then(j:Int)else(a:Int))=((max a j:Nat):Int):=by split<;>omega
  show some (Out.nx [_,_,_,_,_,some (.pl (.int (if(j:Int) > (a:Int)then(j:Int)else(a:Int)))),_,_,_,_])=_;rw[e]
 unfold ZdB;cases j with
 | zero =>
  obtain⟨_,n,en,w1,_⟩:=F.cost hj;obtain rfl:n=0:=by omega
  have ht:ZY w p=true:=w1;rw[ht]at hth;rw[Zmm hL F (show Zg M p=some 0 from hj)]at h3;refine⟨some (.pl ZaH),some (.pl (dN 0)),q9,?_⟩;refine ZQ (P:=λq=>q=_) (r':=er w ls b (Zr M w ls) g a i (some (.pl ZaH)) q8 q9) (by unfold ZW; rw[h3]; rfl) ?_;refine ZQ (P:=λq=>q=_) (r':=er w ls b (Zr M w ls) g a i (some (.pl ZaH)) (some (.pl (dN 0))) q9) rfl ?_;have hne:tV (op2 ZeY (Za 7) (ZcF (Zc (eC (.str (ZAk "done"))) Zm))) (er w ls b (Zr M w ls) g a i (some (.pl ZaH)) (some (.pl (dN 0))) q9)=some false:=by
   have hg:ZeY ZaH ZaH=some (.bool false):=by unfold ZeY;rw[ZkP,ZlA,Zui];rfl
   show(match ZeY ZaH ZaH with | some (.bool b)=>some b | _=>none)=_;rw[hg]
  refine ZQ (P:=λq=>q=_) (r':=er w ls b (Zr M w ls) g a i (some (.pl ZaH)) (some (.pl (dN 0))) q9) (by unfold sIf; rw[hne]; rfl) ?_;have hcall:Zo ZaD (Zc (Za 0) (Zc (eIx (bOf (eIx (Zl 4) (Za 6))) (eC (.int 1))) Zm)) (er w ls b (Zr M w ls) g a i (some (.pl ZaH)) (some (.pl (dN 0))) q9)=some (.bool true):=by have:=h4 (some (.pl ZaH)) (some (.pl (dN 0))) q9;generalize eIx (bOf (eIx (Zl 4) (Za 6))) (eC (.int 1))=E at this ⊢;simp[this,hth]
  have hif:ZhC (tV (op2 gEq (Za 8) (eC (.int 0)))) (tOr (tV (op2 ZeY (Za 7) (ZcF (Zc (eC (.str (ZAk "done"))) Zm)))) (Zb7 (tV (Zo ZaD (Zc (Za 0) (Zc (eIx (bOf (eIx (Zl 4) (Za 6))) (eC (.int 1))) Zm)))))) (er w ls b (Zr M w ls) g a i (some (.pl ZaH)) (some (.pl (dN 0))) q9)=some false:=by unfold ZhC tOr Zb7;rw[hne];unfold tV at *;rw[hcall];rfl
  refine ZQ (P:=λq=>q=_) (r':=er w ls b (Zr M w ls) g a i (some (.pl ZaH)) (some (.pl (dN 0))) q9) (by unfold sIf; rw[hif]; rfl) ?_;exact hmax _ _
 | succ k =>
  have hRk:=hR k rfl;obtain⟨hd,_,_⟩:=Zft hL F hj;rw[ZmG hL F hj]at h3;have hlay:=Zps (S:=Zr M w ls) (λc=>ZoH M w ls _ c) (Zv w ls (Zw w p (Zaw M w ls p ((k+1:Nat):Int))));obtain⟨d0,d1,d2⟩:=Zci hd;have hled:=Zin hv h7 hcp d0 d1;unfold Zoc at hled;rw[if_pos d2]at hled;generalize Zaw M w ls p ((k+1:Nat):Int)=d at *;generalize Z5 (Zr M w ls) (Zv w ls (Zw w p d))=X at *;refine⟨some (.pl (.tuple [doS,dI d,X])),some (.pl (dN (k+1))),some (.pl (tupI (Zw w p d))),?_⟩;refine ZQ (P:=λq=>q=_) (r':=er w ls b (Zr M w ls) g a i (some (.pl (.tuple [doS,dI d,X]))) q8 q9) (by unfold ZW; rw[h3]; rfl) ?_;refine ZQ (P:=λq=>q=_) (r':=er w ls b (Zr M w ls) g a i (some (.pl (.tuple [doS,dI d,X]))) (some (.pl (dN 0))) q9) rfl ?_;have hne:∀q8 q9,tV (op2 ZeY (Za 7) (ZcF (Zc (eC (.str (ZAk "done"))) Zm))) (er w ls b (Zr M w ls) g a i (some (.pl (.tuple [doS,dI d,X]))) q8 q9)=some true:=λq8 q9=>by
   have hl3:(Zz1 [doS,dI d,X]).canLay0=true:=ZcY λx hx=>by
    rcases ZzH.mp hx with e | hx
    ·rw[e]; exact ZtE
    ·rcases ZzH.mp hx with e | hx
     ·rw[e]; rfl
     ·rw[ZzI.mp hx]; exact hlay
   have hg:ZeY (.tuple [doS,dI d,X]) ZaH=some (.bool true):=by unfold ZeY;rw[hl3,ZlA,ZwM];rfl
   show(match ZeY (.tuple [doS,dI d,X]) ZaH with | some (.bool b)=>some b | _=>none)=_;rw[hg]
  have hin:sIf (tOr (Zb7 (tV (ZdM (Za 7) .tuple))) (tOr (tV (op2 gNe (Zaz (Zl 7)) (eC (.int 3)))) (tOr (tV (op2 gNe (eIx (Zl 7) (eC (.int 0))) (eC (.str (ZAk "do"))))) (Zb7 (tV (Zo Zce (Zc (eIx (Zl 7) (eC (.int 1))) Zm))))))) (ZF (eC (.int (-1)))) Zan (er w ls b (Zr M w ls) g a i (some (.pl (.tuple [doS,dI d,X]))) (some (.pl (dN 0))) q9)=some (.nx (er w ls b (Zr M w ls) g a i (some (.pl (.tuple [doS,dI d,X]))) (some (.pl (dN 0))) q9)):=by
   have t1:Zb7 (tV (ZdM (Za 7) .tuple)) (er w ls b (Zr M w ls) g a i (some (.pl (.tuple [doS,dI d,X]))) (some (.pl (dN 0))) q9)=some false:=rfl;have t2:tV (op2 gNe (Zaz (Zl 7)) (eC (.int 3))) (er w ls b (Zr M w ls) g a i (some (.pl (.tuple [doS,dI d,X]))) (some (.pl (dN 0))) q9)=some false:=rfl;have t3:tV (op2 gNe (eIx (Zl 7) (eC (.int 0))) (eC (.str (ZAk "do")))) (er w ls b (Zr M w ls) g a i (some (.pl (.tuple [doS,dI d,X]))) (some (.pl (dN 0))) q9)=some false:=by
    have hg:gNe doS doS=some (.bool false):=by unfold gNe;rw[Zu9,ZvA];rfl
    show(match gNe doS doS with | some (.bool b)=>some b | _=>none)=_;rw[hg]
   have t4:Zb7 (tV (Zo Zce (Zc (eIx (Zl 7) (eC (.int 1))) Zm))) (er w ls b (Zr M w ls) g a i (some (.pl (.tuple [doS,dI d,X]))) (some (.pl (dN 0))) q9)=some false:=rfl;have ho:∀(x y:TF) (r:HM.Env),x r=some false->y r=some false->tOr x y r=some false:=λx y r h1 h2=>by unfold tOr;rw[h1];exact h2
   unfold sIf;rw[ho _ _ _ t1 (ho _ _ _ t2 (ho _ _ _ t3 t4))];rfl
  have hch:tV (ZfH gLe gLt (eC (.int 0)) (eIx (Zl 7) (eC (.int 1))) (Zaz (bOf (eIx (Zl 0) (eC (.int 1)))))) (er w ls b (Zr M w ls) g a i (some (.pl (.tuple [doS,dI d,X]))) (some (.pl (dN 0))) (some (.pl .none)))=some true:=by have i0:=Zzd w;simp[i0,-Zbo];simp[d0,d1]
  have hl9:Zo ZaY (Zc (Za 0) (Zc (eIx (bOf (eIx (Zl 4) (Za 6))) (eC (.int 1))) (Zc (eIx (Zl 7) (eC (.int 1))) Zm))) (er w ls b (Zr M w ls) g a i (some (.pl (.tuple [doS,dI d,X]))) (some (.pl (dN 0))) (some (.pl .none)))=some (tupI (Zw w p d)):=by have:=h4 (some (.pl (.tuple [doS,dI d,X]))) (some (.pl (dN 0))) (some (.pl .none));generalize eIx (bOf (eIx (Zl 4) (Za 6))) (eC (.int 1))=E at this ⊢;simp[this,hled]
  have h8:op2 Zbk (eC (.int 1)) (Zo R (Zc (Za 0) (Zc (Za 1) (Zc (Za 9) (Zc (eIx (Zl 7) (eC (.int 2))) Zm))))) (er w ls b (Zr M w ls) g a i (some (.pl (.tuple [doS,dI d,X]))) (some (.pl (dN 0))) (some (.pl (tupI (Zw w p d)))))=some (dN (k+1)):=by have hc:Zo R (Zc (Za 0) (Zc (Za 1) (Zc (Za 9) (Zc (eIx (Zl 7) (eC (.int 2))) Zm)))) (er w ls b (Zr M w ls) g a i (some (.pl (.tuple [doS,dI d,X]))) (some (.pl (dN 0))) (some (.pl (tupI (Zw w p d)))))=some (dN k):=hRk;unfold op2;rw[hc];show some (Zz6 (1+(k:Int)))=some (Zz6 ((k+1:Nat):Int));rw[show(1:Int)+(k:Int)=((k+1:Nat):Int) by omega]
  refine ZQ (P:=λq=>q=_) (r':=er w ls b (Zr M w ls) g a i (some (.pl (.tuple [doS,dI d,X]))) (some (.pl (dN (k+1)))) (some (.pl (tupI (Zw w p d))))) ?_ ?_
  ·unfold sIf at hin ⊢
   rw[hne];dsimp only;refine ZQ (P:=λq=>q=_) hin ?_;refine ZQ (P:=λq=>q=_) (r':=er w ls b (Zr M w ls) g a i (some (.pl (.tuple [doS,dI d,X]))) (some (.pl (dN 0))) (some (.pl .none))) rfl ?_;refine ZQ (P:=λq=>q=_) (r':=er w ls b (Zr M w ls) g a i (some (.pl (.tuple [doS,dI d,X]))) (some (.pl (dN 0))) (some (.pl (tupI (Zw w p d))))) (by rw[hch]; unfold ZW; dsimp only; rw[hl9]; rfl) ?_;refine ZQ (P:=λq=>q=_) (r':=er w ls b (Zr M w ls) g a i (some (.pl (.tuple [doS,dI d,X]))) (some (.pl (dN 0))) (some (.pl (tupI (Zw w p d))))) rfl ?_;unfold ZW;rw[h8];rfl
  ·have hif:ZhC (tV (op2 gEq (Za 8) (eC (.int 0)))) (tOr (tV (op2 ZeY (Za 7) (ZcF (Zc (eC (.str (ZAk "done"))) Zm)))) (Zb7 (tV (Zo ZaD (Zc (Za 0) (Zc (eIx (bOf (eIx (Zl 4) (Za 6))) (eC (.int 1))) Zm)))))) (er w ls b (Zr M w ls) g a i (some (.pl (.tuple [doS,dI d,X]))) (some (.pl (dN (k+1)))) (some (.pl (tupI (Zw w p d)))))=some false:=by
    have hz:tV (op2 gEq (Za 8) (eC (.int 0))) (er w ls b (Zr M w ls) g a i (some (.pl (.tuple [doS,dI d,X]))) (some (.pl (dN (k+1)))) (some (.pl (tupI (Zw w p d)))))=some false:=rfl;unfold ZhC;rw[hz]
   refine ZQ (P:=λq=>q=_) (r':=er w ls b (Zr M w ls) g a i (some (.pl (.tuple [doS,dI d,X]))) (some (.pl (dN (k+1)))) (some (.pl (tupI (Zw w p d))))) (by unfold sIf; rw[hif]; rfl) ?_;exact hmax _ _
end
end HG66
namespace HG66
open PySem HM HG4
open HG
open HG5
open HG6
theorem ZgJ{M:Tb}{c:List Int}{j:Nat}(h:Zg M c=some (j:Int)):Zck M c=j:=by unfold Zck;rw[h];rfl
section
variable{w:Wk}(hv:Wk.V w)(h7:w.many<=7){ls:List Int}(hl:Cr w.looks.length ls){L:List (List Int)}{M:Tb}(hL:ZbC w ls L)(F:ZfX w ls L M)
include hv h7 hL F
theorem ZqF{R:List D->Option D}{b:List Int}{g:Gs}(hcg:∀x∈g,Cr w.many x.2)(hg:∀x∈g,∃j:Nat,Zg M x.2=some (j:Int)/\∀k,j=k+1->R [w.d,tupI ls,tupI (Zw w x.2 (Zaw M w ls x.2 ((k+1:Nat):Int))),Z5 (Zr M w ls) (Zv w ls (Zw w x.2 (Zaw M w ls x.2 ((k+1:Nat):Int))))]=some (dN k)) :
  ∀(is:List Nat) (a:Nat) (q6 q7 q8 q9:Option B),(∀i∈is,i<g.length)->∃m p6 p7 p8 p9,Z7 6 (ZdB R) (is.map dN) [some (.pl w.d),some (.pl (tupI ls)),some (.pl (tupI b)),some (.pl (Z5 (Zr M w ls) g)),some (.pl (.list (g.map ZI))),some (.pl (dN a)),q6,q7,q8,q9]=some (.nx [some (.pl w.d),some (.pl (tupI ls)),some (.pl (tupI b)),some (.pl (Z5 (Zr M w ls) g)),some (.pl (.list (g.map ZI))),some (.pl (dN m)),p6,p7,p8,p9])/\a<=m/\(∀i∈is,∀x,g[i]?=some x->Zck M x.2<=m)/\(m=a\/∃x∈g,Zck M x.2=m)
 | [],a,q6,q7,q8,q9,_=>⟨a,q6,q7,q8,q9,rfl,ZzB _,λi hi=>(by cases hi),.inl rfl⟩
 | i::is,a,q6,q7,q8,q9,his=>by
  have hlt:=his i (Zzt ..);have hx:g[i]?=some g[i]:=ZzD hlt;have hm:g[i]∈g:=ZA4 hlt;obtain⟨j,hj,hR⟩:=hg _ hm;have hcn:=ZgJ hj;obtain⟨p7,p8,p9,e1⟩:=Zs7 hv h7 hL F (b:=b) hx (hcg _ hm) hj hR a q7 q8 q9;obtain⟨m,r6,r7,r8,r9,ih,h1,h2,h3⟩:=ZqF hcg hg (b:=b) is (max a j) (some (.pl (dN i))) p7 p8 p9 λx hx=>his x (Zzu _ hx);refine⟨m,r6,r7,r8,r9,?_,by omega,λt ht x ex=>?_,?_⟩
  ·rw[<-ih,Zzw]
   show(match ZdB R (er w ls b (Zr M w ls) g a i q7 q8 q9)with | some (.nx r')=>_ | some (.ct r')=>_ | some (.bk r')=>_ | some (.rt d)=>_ | none=>_)=_;rw[e1]
  ·rcases ZzH.mp ht with e | ht
   ·subst e
    rw[hx]at ex;injection ex with ex
    rw[<-ex,hcn];omega
   ·exact h2 t ht x ex
  ·rcases h3 with h3 | h3
   ·by_cases q:a<=j
    ·exact .inr ⟨_,hm,by rw[hcn]; omega⟩
    ·exact .inl (by omega)
   ·exact .inr h3
include hl
theorem body{R:List D->Option D}{b:List Int}(hb:Cr w.many b)(hp:∀p∈Zp w ls b,∃j:Nat,Zg M p=some (j:Int)/\∀k,j=k+1->R [w.d,tupI ls,tupI (Zw w p (Zaw M w ls p ((k+1:Nat):Int))),Z5 (Zr M w ls) (Zv w ls (Zw w p (Zaw M w ls p ((k+1:Nat):Int))))]=some (dN k)) :
  ∃m:Nat,fnOf 4 10 (Zd6 R) [w.d,tupI ls,tupI b,Z5 (Zr M w ls) (Zv w ls b)]=some (dN m)/\(∀p∈Zp w ls b,Zck M p<=m)/\(m=0\/∃p∈Zp w ls b,Zck M p=m):=by
 have hsp:=ZdJ hv hl hb;have hsl:=split_len (w:=w) (ls:=ls) (c:=b);have hbl:=hb.len;have hm2:=hv.m2;have hmem:∀x∈Zv w ls b,x.2∈Zp w ls b:=λx hx=>Zzx.mpr ⟨x,hx,rfl⟩;have hmem':∀p∈Zp w ls b,∃x∈Zv w ls b,x.2=p:=λp hpm=>Zzx.mp hpm;have hcg:∀x∈Zv w ls b,Cr w.many x.2:=λx hx=>(Zey hb (hmem x hx)).1;have hg:=λx hx=>hp _ (hmem x hx);obtain⟨m,p6,p7,p8,p9,e,_,h2,h3⟩:=ZqF hv h7 hL F (b:=b) hcg hg (ZzA (Zv w ls b).length) 0 none none none none λi hi=>ZzP.mp hi;refine⟨m,?_,λp hpm=>?_,?_⟩
 ·generalize Zv w ls b=g at *
  have hgl:g.length<1000000:=by omega
  show Zax (Zd6 R [some (.pl w.d),some (.pl (tupI ls)),some (.pl (tupI b)),some (.pl (Z5 (Zr M w ls) g)),none,none,none,none,none,none])=_;unfold Zd6;refine ZQ (P:=λq=>Zax q=_) (r':=[some (.pl w.d),some (.pl (tupI ls)),some (.pl (tupI b)),some (.pl (Z5 (Zr M w ls) g)),some (.pl (.list (g.map ZI))),none,none,none,none,none]) (by simp[hsp]) ?_;have c3:eOf (ZM (Z4 (bOf (Za 3))) ZZ (eIx (Zl 0) (eC (.int 0)))) [some (.pl w.d),some (.pl (tupI ls)),some (.pl (tupI b)),some (.pl (Z5 (Zr M w ls) g)),some (.pl (.list (g.map ZI))),none,none,none,none,none]=some (.list (g.map λx=>tupI x.1)):=by have hc:=Zbj (e:=eIx (Zl 0) (eC (.int 0))) (r:=[some (.pl w.d),some (.pl (tupI ls)),some (.pl (tupI b)),some (.pl (Z5 (Zr M w ls) g)),some (.pl (.list (g.map ZI))),none,none,none,none,none]) (λp:List Int × List Int=>Zz1 [tupI p.1,Zr M w ls p.2]) (λp=>tupI p.1) g λ_ _=>rfl;have hi:Z4 (bOf (Za 3)) [some (.pl w.d),some (.pl (tupI ls)),some (.pl (tupI b)),some (.pl (Z5 (Zr M w ls) g)),some (.pl (.list (g.map ZI))),none,none,none,none,none]=some (g.map λp=>Zz1 [tupI p.1,Zr M w ls p.2]):=rfl;unfold eOf ZM;rw[hi];dsimp only;rw[if_pos (show(g.map λp=>Zz1 [tupI p.1,Zr M w ls p.2]).length<big by rw[Zzr]; exact hgl),hc];rfl
  have c4:eOf (ZM (Z4 (bOf (Za 4))) ZZ (eIx (Zl 0) (eC (.int 0)))) [some (.pl w.d),some (.pl (tupI ls)),some (.pl (tupI b)),some (.pl (Z5 (Zr M w ls) g)),some (.pl (.list (g.map ZI))),none,none,none,none,none]=some (.list (g.map λx=>tupI x.1)):=by have hc:=Zbj (e:=eIx (Zl 0) (eC (.int 0))) (r:=[some (.pl w.d),some (.pl (tupI ls)),some (.pl (tupI b)),some (.pl (Z5 (Zr M w ls) g)),some (.pl (.list (g.map ZI))),none,none,none,none,none]) ZI (λp=>tupI p.1) g λ_ _=>rfl;have hi:Z4 (bOf (Za 4)) [some (.pl w.d),some (.pl (tupI ls)),some (.pl (tupI b)),some (.pl (Z5 (Zr M w ls) g)),some (.pl (.list (g.map ZI))),none,none,none,none,none]=some (g.map ZI):=rfl;unfold eOf ZM;rw[hi];dsimp only;rw[if_pos (show(g.map ZI).length<big by rw[Zzr]; exact hgl),hc];rfl
  have hgn:gNe (.list (g.map λx=>tupI x.1)) (.list (g.map λx=>tupI x.1))=some (.bool false):=ZuN (n:=2) (Zty λd hd=>by obtain⟨x,_,rfl⟩:=Zzx.mp hd;exact Zdn 0 x.1) (by decide);refine ZQ (P:=λq=>Zax q=_) (r':=[some (.pl w.d),some (.pl (tupI ls)),some (.pl (tupI b)),some (.pl (Z5 (Zr M w ls) g)),some (.pl (.list (g.map ZI))),none,none,none,none,none]) ?_ ?_
  ·have t1:Zb7 (tV (ZdM (Za 3) .tuple)) [some (.pl w.d),some (.pl (tupI ls)),some (.pl (tupI b)),some (.pl (Z5 (Zr M w ls) g)),some (.pl (.list (g.map ZI))),none,none,none,none,none]=some false:=rfl
   unfold sIf tOr;rw[t1];unfold tV op2;dsimp only;rw[c3,c4];dsimp only;rw[hgn];rfl
  ·refine ZQ (P:=λq=>Zax q=_) (r':=[some (.pl w.d),some (.pl (tupI ls)),some (.pl (tupI b)),some (.pl (Z5 (Zr M w ls) g)),some (.pl (.list (g.map ZI))),some (.pl (dN 0)),none,none,none,none]) rfl ?_
   have hok:okR (g.length:Int)=true:=ZcZ hgl;have hi:Zb8 (Zaz (Zl 4)) [some (.pl w.d),some (.pl (tupI ls)),some (.pl (tupI b)),some (.pl (Z5 (Zr M w ls) g)),some (.pl (.list (g.map ZI))),some (.pl (dN 0)),none,none,none,none]=some ((ZzA g.length).map dN):=by simp[hok,Zaa]
   refine ZQ (P:=λq=>Zax q=_) (r':=[some (.pl w.d),some (.pl (tupI ls)),some (.pl (tupI b)),some (.pl (Z5 (Zr M w ls) g)),some (.pl (.list (g.map ZI))),some (.pl (dN m)),p6,p7,p8,p9]) ?_ rfl;unfold ZaN;rw[hi];dsimp only;rw[if_pos (by rw[Zzr,ZBw]; exact hgl)];exact e
 ·obtain⟨x,hx,rfl⟩:=hmem' p hpm
  obtain⟨i,hi,e⟩:=ZBz hx;exact h2 i (ZzP.mpr hi) x (by rw[ZzD hi,e])
 ·rcases h3 with h3 | ⟨x,hx,e⟩
  ·exact .inl h3
  ·exact .inr ⟨x.2,hmem x hx,e⟩
theorem Zwo:∀(n:Nat) (b:List Int),Cr w.many b->(∀p∈Zp w ls b,∃j:Nat,j<=n/\Zg M p=some (j:Int)) ->
  ∃m:Nat,ZaV (n+1) [w.d,tupI ls,tupI b,Z5 (Zr M w ls) (Zv w ls b)]=some (dN m)/\(∀p∈Zp w ls b,Zck M p<=m)/\(m=0\/∃p∈Zp w ls b,Zck M p=m):=by
 intro n
 induction n with
 | zero=>?_
 | succ n ih=>?_
 all_goals
  intro b hb hp
 case zero=>exact body hv h7 hl hL F hb (R:=ZaV 0) λp hpm=>by obtain⟨j,hj,e⟩:=hp p hpm;exact⟨j,e,λk ek=>by omega⟩
 case succ =>
  exact body hv h7 hl hL F hb (R:=ZaV (n+1)) λp hpm=>by
   obtain⟨j,hj,e⟩:=hp p hpm;refine⟨j,e,λk ek=>?_⟩;subst ek;obtain⟨hd,_,_⟩:=Zft hL F e;obtain⟨d0,d1,_⟩:=Zci hd;have hcp:=(Zey hb hpm).1;obtain⟨m,e1,h1,h2⟩:=ih _ (ZcW hv hcp d0 d1) λq hq=>by obtain⟨t,ht,et⟩:=ZeZ hL F e hq;exact⟨t,by omega,et⟩
   obtain⟨q,hq,eq⟩:=Zr4 hL F e;have a1:=h1 q hq;rw[ZgJ eq]at a1;have a2:m<=k:=by
    rcases h2 with h2 | ⟨r,hr,er⟩
    ·omega
    ·obtain⟨t,ht,et⟩:=ZeZ hL F e hr
     rw[ZgJ et]at er;omega
   rw[e1,show m=k by omega]
end
end HG66
namespace HG66
open PySem HM HG4
open HG
open HG5
open HG6
section
variable{w:Wk}(hv:Wk.V w)(h5:w.many<=5){ls:List Int}(hl:Cr w.looks.length ls)
include hv h5 hl
theorem Zu3:∃e:D,Zes ap [w.d,tupI ls]=some e/\((e=.none/\Few w ls .none)\/(Ziy .tuple e=true/\∃m:Nat,ZaV 40 [w.d,tupI ls,tupI w.beg,e]=some (dN m)/\Few w ls (dN m)/\∃ds,e=.tuple ds)):=by
 have h7:w.many<=7:=by omega
 obtain⟨L,M,_,hnd,hcr,hL,F,hbg,he⟩:=Zte hv h7 hl Zy5;have hl32:L.length<=32:=by have h1:=ZiO hnd λc hc=>(hcr c hc).1;have h2:2 ^ w.many<=2 ^ 5:=ZC5 (by decide) h5;have h3:2 ^ 5=32:=rfl;omega
 refine⟨_,he,?_⟩;cases hq:(Zp w ls w.beg).all (ZE M)with
 | false=>refine .inl ⟨rfl,.inr ⟨rfl,λn hn=>?_⟩⟩;have:(Zp w ls w.beg).all (ZE M)=true:=Zzz.mpr λp h=>F.all hL (hbg p h) (hn p h);rw[hq]at this;cases this
 | true =>
  rw[if_pos rfl];have hk:∀p∈Zp w ls w.beg,∃j:Nat,j<=32/\Zg M p=some (j:Int)/\Win w ls j p=true/\∀t,t<j->Win w ls t p=false:=λp hp=>by
   have hh:=Zzz.mp hq p hp;unfold ZE at hh;obtain⟨k,hk⟩:=ZzZ.mp hh;obtain⟨hc,n,rfl,g1,g2⟩:=F.cost hk;refine⟨n,?_,hk,g1,g2⟩
   by_cases hn:n<=L.length
   ·omega
   ·have:=Zl8 hL hc g1
    rw[g2 L.length (by omega)]at this;cases this
  obtain⟨m,e1,h1,h2⟩:=Zwo hv h7 hl hL F 39 w.beg hv.bc λp hp=>by obtain⟨j,hj,e,_⟩:=hk p hp;exact⟨j,by omega,e⟩
  refine .inr ⟨rfl,m,e1,.inl ⟨m,rfl,λp hp=>?_,λt ht hw=>?_⟩,_,rfl⟩
  ·obtain⟨j,_,e,g1,_⟩:=hk p hp
   have:=h1 p hp;rw[ZgJ e]at this;exact Ze5 this g1
  ·rcases h2 with h2 | ⟨p,hp,ep⟩
   ·omega
   ·obtain⟨j,_,e,_,g2⟩:=hk p hp
    rw[ZgJ e]at ep;have:=hw p hp;rw[g2 t (by omega)]at this;cases this
end
theorem ZkU(ns:List Int)(h:ns.length<=63):Zgm ap [.list (ns.map dI)]=some (.bool true):=by
 have hv:=Wk.Ok.v (ZwB ns 1);have h5:(wkV ns 1).many<=5:=by have:(wkV ns 1).many=ZU ns 1:=rfl;have:=(ZjX ns 1).2;omega
 have hw:=ZuE ns 1 h;have hc0:=ZeC ns 0;have hlk:=ZuH hv (ZB ns 0);have hl:=ZwS (wkV ns 1).looks.length (ZB ns 0);generalize wkV ns 1=w at *;generalize lkV w.looks.length (ZB ns 0)=ls at *;obtain⟨d,e2,f2⟩:=Znc hv (by omega) hl;obtain⟨e,e3,f3⟩:=Zu3 hv h5 hl;have hw':Za7 [.list (ns.map dI),.int 1]=some w.d:=hw;have hc':Zao [.list (ns.map dI),.int 0]=some (.int (ZB ns 0)):=hc0;show Zax (ZnB ap [some (.pl (.list (ns.map dI))),none,none,none,none])=_;unfold ZnB;refine ZQ (P:=λq=>Zax q=_) (r':=[some (.pl (.list (ns.map dI))),some (.pl w.d),none,none,none]) (by simp[hw']) ?_;refine ZQ (P:=λq=>Zax q=_) (r':=[some (.pl (.list (ns.map dI))),some (.pl w.d),some (.pl (tupI ls)),none,none]) (by simp[hc',hlk]) ?_;refine ZQ (P:=λq=>Zax q=_) (r':=[some (.pl (.list (ns.map dI))),some (.pl w.d),some (.pl (tupI ls)),some (.pl d),none]) (by simp[e2]) ?_;refine ZQ (P:=λq=>Zax q=_) (r':=[some (.pl (.list (ns.map dI))),some (.pl w.d),some (.pl (tupI ls)),some (.pl d),some (.pl e)]) (by simp[e3]) ?_;rcases f3 with⟨rfl,f3⟩ | ⟨_,m,e4,f3,ds,rfl⟩
 ·obtain rfl:=f2.unique f3
  rfl
 ·obtain rfl:=f2.unique f3
  refine ZQ (P:=λq=>Zax q=_) (r':=[some (.pl (.list (ns.map dI))),some (.pl w.d),some (.pl (tupI ls)),some (.pl (dN m)),some (.pl (.tuple ds))]) rfl ?_;have hg:gEq (.int (m:Int)) (.int (m:Int))=some (.bool true):=Zep (ZdI 1 _) (by decide);have hcl:Zo (ZaV 40) (Zc (Za 1) (Zc (Za 2) (Zc (eIx (Zl 1) (eC (.int 3))) (Zc (Za 4) Zm)))) [some (.pl (.list (ns.map dI))),some (.pl w.d),some (.pl (tupI ls)),some (.pl (dN m)),some (.pl (.tuple ds))]=some (dN m):=e4;generalize Zo (ZaV 40) (Zc (Za 1) (Zc (Za 2) (Zc (eIx (Zl 1) (eC (.int 3))) (Zc (Za 4) Zm))))=E at hcl ⊢;have ho:op2 gEq E (Za 3) [some (.pl (.list (ns.map dI))),some (.pl w.d),some (.pl (tupI ls)),some (.pl (dN m)),some (.pl (.tuple ds))]=some (.bool true):=by unfold op2;rw[hcl];exact hg
  generalize op2 gEq E (Za 3)=E' at ho ⊢;simp[ho,Zax]
end HG66
namespace HT
open PySem PySem.Spec PyProof.Rows L2 HP HM
open HG
open HG4
open HG5
open HG6
open HG66
def top(i:Nat):Stmt:=PySem.Challenge.pw_halfseen_k06_plans_found.main.body.getD i (.Pass ⟨0,0,0,0⟩)
abbrev Zgn:Stmt:=top 9
abbrev Zja:Stmt:=top 10
abbrev Zgo:Stmt:=top 11
abbrev Zf1:Stmt:=top 12
abbrev Zf2:Stmt:=top 13
abbrev ZeN:Stmt:=top 14
abbrev ZeO:Stmt:=top 15
abbrev Zhi:Stmt:=top 16
abbrev Zgp:Stmt:=top 17
abbrev Zhj:Stmt:=top 18
abbrev Zhk:Stmt:=top 19
abbrev Zhl:Stmt:=top 20
abbrev Zh6:Stmt:=top 21
abbrev Zh7:Stmt:=top 22
abbrev Zei:Stmt:=top 23
abbrev Zf3:Stmt:=top 24
abbrev ZdT:Stmt:=top 26
abbrev Zd9:Stmt:=top 27
abbrev Zjb:Stmt:=top 28
abbrev Zg2:Stmt:=top 29
abbrev Zfx:Stmt:=top 30
abbrev ZcT:Stmt:=top 33
abbrev ZeP:Stmt:=top 34
abbrev Zda:Stmt:=top 35
abbrev ZfP:Stmt:=top 36
abbrev Zdk:Stmt:=top 37
abbrev Zfy:Stmt:=top 38
abbrev Zhm:Stmt:=top 39
abbrev Zc5:Stmt:=top 40
abbrev ZeQ:Stmt:=top 41
abbrev Z2:Stmt:=top 42
abbrev Zfz:Stmt:=top 43
abbrev Zgq:Stmt:=top 44
abbrev Zf4:Stmt:=top 45
abbrev Zf5:Stmt:=top 46
abbrev Zjc:Stmt:=top 47
abbrev Zhn:Stmt:=top 49
abbrev Zh8:Stmt:=top 50
abbrev Zgr:Stmt:=top 51
abbrev ZeR:Stmt:=top 52
abbrev Zho:Stmt:=top 53
abbrev Zhp:Stmt:=top 54
abbrev ZeS:Stmt:=top 55
abbrev ZeT:Stmt:=top 56
abbrev Zh9:Stmt:=top 57
abbrev ZdC:Stmt:=top 58
abbrev ZdU:Stmt:=top 59
abbrev ZeU:Stmt:=top 60
abbrev Zgs:Stmt:=top 61
abbrev ZcG:Stmt:=top 62
abbrev Zea:Stmt:=top 63
abbrev Zdl:Stmt:=top 64
abbrev Zgt:Stmt:=top 65
structure Txt(K:Zzp)(mg:Str->Option Value):Prop where
 n_len:mg "len" = none
 n_tuple:mg "tuple" = none
 n_list:mg "list" = none
 n_set:mg "set" = none
 n_sorted:mg "sorted" = none
 n_range:mg "range" = none
 n_all:mg "all" = none
 n_isinstance:mg "isinstance" = none
 n_int:mg "int" = none
 n_bool:mg "bool" = none
 n_max:mg "max" = none
 n_min:mg "min" = none
 c_MOST_STATES:∃t,mg "MOST_STATES" = some (.int 8 t)
 c_MOST_DEEDS:∃t,mg "MOST_DEEDS" = some (.int 5 t)
 c_MOST_LOOKS:∃t,mg "MOST_LOOKS" = some (.int 4 t)
 c_MOST_SEEN:∃t,mg "MOST_SEEN" = some (.int 9 t)
 c_DONE:∃a,mg "DONE" = some (.ref a)/\ZoK K a [.str "done"]
section
variable[FX]{P:Program}{w:World}{K:Zzp}{mg:Str->Option Value}{base:Heap}{k:Nat}
theorem ZnC:Zx ["_law_script","_law_k"] ["_law_script","_law_k"] (Zf Zhn):=⟨rfl,rfl,rfl,by decide +kernel,rfl,by decide +kernel,by decide +kernel⟩
theorem ZnD(T:Txt K mg){f:Addr}{fd:FuncData}(Fn:Fun K "_law_cell" "_law_cell" Zhn f fd)(hm:mg "_law_cell" = some (.ref f))(hb:Binds K fd ["_law_script","_law_k"] []):Callee P w K mg base (k+1) "_law_cell" Zao :=
 Zu Fn ZnC hm hb λcdv A outer s H E hr=>by
  have hu:=ZK hr;exact(Zh (Zar (Z9 cLt (Zb 1) (Zbl T.n_len (Zq 0))) (Zj (Zz (ZJ (Zq 0) (Zb 1)))) ZV)
  (Zj (Zz Zi)))
theorem ZpI:Zx ["_law_cell_here","_law_prime","_law_many"] ["_law_cell_here","_law_prime","_law_many"] (Zf Zh8):=⟨rfl,rfl,rfl,by decide +kernel,rfl,by decide +kernel,by decide +kernel⟩
theorem ZpJ(T:Txt K mg){f:Addr}{fd:FuncData}(Fn:Fun K "_law_mix" "_law_mix" Zh8 f fd)(hm:mg "_law_mix" = some (.ref f))(hb:Binds K fd ["_law_cell_here","_law_prime","_law_many"] []):Callee P w K mg base (k+1) "_law_mix" ZO :=
 Zu Fn ZpI hm hb λcdv A outer s H E hr=>by have hu:=ZK hr;exact(Zj (Zz (ZN oMod (ZN oMod (ZN Zfq (Zb 0) Zi) (Zb 1)) (Zb 2))))
theorem ZfQ:Zx ["_law_cell_here","_law_many","_law_least","_law_found"] ["_law_cell_here","_law_many","_law_least"] (Zf ZeR):=⟨rfl,rfl,rfl,by decide +kernel,rfl,by decide +kernel,by decide +kernel⟩
theorem ZmL(T:Txt K mg)(ZP:Callee P w K mg base k "_law_mix" ZO){f:Addr}{fd:FuncData}(Fn:Fun K "_law_crowd" "_law_crowd" ZeR f fd)(hm:mg "_law_crowd" = some (.ref f))(hb:Binds K fd ["_law_cell_here","_law_many","_law_least"] []):Callee P w K mg base (k+1) "_law_crowd" ZbL :=
 Zu Fn ZfQ hm hb λcdv A outer s H E hr=>by
  have hu:=ZK hr;exact(Zh (ZeG 3 ZfQ.nd rfl rfl (N:=["_law_state","_law_cell_here","_law_many","_law_least","_law_found"]) (ZG (sc:=Zf ZeR) (XN:=["_law_cell_here","_law_many","_law_least","_law_found"])) (ZbK T.n_range (Zb 1)) (λ_ _ _ _ _=>(ZcM (Z9 cLt (Zn ZP hr (Zd (ZN ZbS (ZN ZbS (Zb 1) (ZN Zfq (ZN Zfq Zi (Zb 0)) (Zb 0))) (ZN Zfq Zi (Zb 0))) (Zd Zi (Zd Zi Zk)))) Zi))) (λ_ _ _ _ _=>(Zb 0)))
  (Zh (Zar (Z9 cLt (Zbl T.n_len (Zq 3)) (Zb 2)) (Zj (Zat 3 ZfQ.nd (Zcu (Zd (Zn ZP hr (Zd (Zb 0) (Zd Zi (Zd (Zb 1) Zk)))) Zk)))) ZV)
  (Zj (Zz (Zaj T.n_tuple (Zq 3))))))
theorem ZcU:Zx ["_law_cell_here","_law_many","_law_found","_law_state","_law_seed","_law_way","_law_row"] ["_law_cell_here","_law_many"] (Zf Zho):=⟨rfl,rfl,rfl,by decide +kernel,rfl,by decide +kernel,by decide +kernel⟩
theorem ZnE(T:Txt K mg)(ZP:Callee P w K mg base k "_law_mix" ZO){f:Addr}{fd:FuncData}(Fn:Fun K "_law_deed" "_law_deed" Zho f fd)(hm:mg "_law_deed" = some (.ref f))(hb:Binds K fd ["_law_cell_here","_law_many"] []):Callee P w K mg base (k+1) "_law_deed" Zde :=
 Zu Fn ZcU hm hb λcdv A outer s H E hr=>by
  have hu:=ZK hr;exact(Zh (Zat 2 ZcU.nd (Zcu Zk))
  (Zh (Za5 3 ZcU.nd rfl rfl (ZbK T.n_range (Zb 1)) (Zh (ZL 4 ZcU.nd (ZN ZbS (ZN ZbS (Zb 0) (ZN Zfq (ZN Zfq Zi (Zb 3)) (Zb 3))) (ZN Zfq Zi (Zb 3))))
  (Zh (ZL 5 ZcU.nd (Zn ZP hr (Zd (Zb 4) (Zd Zi (Zd Zi Zk)))))
  (Zh (Zat 6 ZcU.nd (ZtL (Zn ZP hr (Zd (Zb 4) (Zd Zi (Zd (Zb 1) Zk)))) ZcK))
  (Zh (Zar (Z9 cLt (Zb 5) Zi) (Zj (ZeF hu 6 (Zn ZP hr (Zd (Zb 4) (Zd Zi (Zd (Zb 1) Zk)))) ZcK)) ZV)
  (Zh (Zeq 2 (Zaj T.n_tuple (ZaX (ZgZ T.n_sorted rfl (Zq 6)))))
  (Zj (Zar (Z9 (cEq hr) (Zb 5) Zi) (Zj (Zvr 2 ZiX (Zc7 Zk))) ZV))))))))
  (Zj (Zz (Zaj T.n_tuple (Zq 2))))))
theorem Zcg:Zx ["_law_cell_here","_law_many","_law_left","_law_right","_law_state","_law_ahead","_law_behind","_law_slips"] ["_law_cell_here","_law_many"] (Zf Zhp):=⟨rfl,rfl,rfl,by decide +kernel,rfl,by decide +kernel,by decide +kernel⟩
theorem ZnF(T:Txt K mg)(ZP:Callee P w K mg base k "_law_mix" ZO){f:Addr}{fd:FuncData}(Fn:Fun K "_law_walk" "_law_walk" Zhp f fd)(hm:mg "_law_walk" = some (.ref f))(hb:Binds K fd ["_law_cell_here","_law_many"] []):Callee P w K mg base (k+1) "_law_walk" Zdf :=
 Zu Fn Zcg hm hb λcdv A outer s H E hr=>by
  have hu:=ZK hr;exact(Zh (Zat 2 Zcg.nd (Zcu Zk))
  (Zh (Zat 3 Zcg.nd (Zcu Zk))
  (Zh (Za5 4 Zcg.nd rfl rfl (ZbK T.n_range (Zb 1)) (Zh (ZL 5 Zcg.nd (Zsd T.n_max rfl (ZN Zt8 (Zb 4) Zi) Zi))
  (Zh (ZL 6 Zcg.nd (Zwu T.n_min rfl (ZN ZbS (Zb 4) Zi) (ZN Zt8 (Zb 1) Zi)))
  (Zh (ZL 7 Zcg.nd (ZhJ (cEq hr) (Zn ZP hr (Zd (ZN ZbS (Zb 0) (ZN Zfq Zi (Zb 4))) (Zd Zi (Zd Zi Zk)))) Zi))
  (Zh (Zeq 2 (Zaj T.n_tuple (ZaX (Zi0 T.n_sorted T.n_set rfl (ZaX (Zk6 (ZaX (Zcu (Zd (Zb 5) Zk))) (ZaX (Zwv (ZaX (Zcu (Zd (Zb 4) Zk))) (ZtK T.n_int (Zb 7))))))))))
  (Zj (Zeq 3 (Zc7 (Zd (Zb 6) Zk)))))))))
  (Zj (Zz (Zc7 (Zd (Zaj T.n_tuple (Zq 2)) (Zd (Zaj T.n_tuple (Zq 3)) Zk))))))))
theorem Zac:Zx ["_law_script","_law_at","_law_cell_here","_law_many","_law_deeds","_law_k","_law_looks_here","_law_seed","_law_most","_law_begin","_law_goal"] ["_law_script","_law_at"] (Zf ZeS):=⟨rfl,rfl,rfl,by decide +kernel,rfl,by decide +kernel,by decide +kernel⟩
theorem ZmM(T:Txt K mg)(Zbb:Callee P w K mg base k "_law_cell" Zao)(ZeV:Callee P w K mg base k "_law_crowd" ZbL)(ZP:Callee P w K mg base k "_law_mix" ZO)(Zhq:Callee P w K mg base k "_law_deed" Zde)(Zhr:Callee P w K mg base k "_law_walk" Zdf){f:Addr}{fd:FuncData}(Fn:Fun K "_law_works" "_law_works" ZeS f fd)(hm:mg "_law_works" = some (.ref f))(hb:Binds K fd ["_law_script","_law_at"] []):Callee P w K mg base (k+1) "_law_works" Za7 :=
 Zu Fn Zac hm hb λcdv A outer s H E hr=>by
  have hu:=ZK hr;exact(Zh (ZL 2 Zac.nd (Zn Zbb hr (Zd (Zb 0) (Zd (Zb 1) Zk))))
  (Zh (ZL 3 Zac.nd (ZN ZbS Zi (Zn ZP hr (Zd (Zb 2) (Zd Zi (Zd Zi Zk))))))
  (Zh (Zar (Z9 cGt (Zbl T.n_len (Zq 0)) Zi) (Zj (ZL 3 Zac.nd (ZN ZbS Zi (Zn ZP hr (Zd (Zb 2) (Zd Zi (Zd Zi Zk))))))) ZV)
  (Zh (Zat 4 Zac.nd (Zcu Zk))
  (Zh (Za5 5 Zac.nd rfl rfl (ZbK T.n_range (ZN ZbS Zi (Zn ZP hr (Zd (Zb 2) (Zd Zi (Zd Zi Zk)))))) (Zj (Zeq 4 (Zn Zhq hr (Zd (ZN ZbS (Zn Zbb hr (Zd (Zb 0) (Zd (ZN ZbS (ZN ZbS (Zb 1) Zi) (Zb 5)) Zk))) (ZN Zfq Zi (Zb 5))) (Zd (Zb 3) Zk))))))
  (Zh (Zar (Z9 (cEq hr) (Zn ZP hr (Zd (Zb 2) (Zd Zi (Zd Zi Zk)))) Zi) (Zj (Zat 4 Zac.nd (Zk6 (ZaX (ZiZ T.n_list (ZaI (Zn Zhr hr (Zd (Zn Zbb hr (Zd (Zb 0) (Zd (ZN ZbS (Zb 1) Zi) Zk))) (Zd (Zb 3) Zk)))))) (ZaX (Zww (Zq 4) ZvU (ZvP Zi)))))) ZV)
  (Zh (Zat 6 Zac.nd (Zcu Zk))
  (Zh (Za5 5 Zac.nd rfl rfl (ZbK T.n_range (Zn ZP hr (Zd (Zb 2) (Zd Zi (Zd Zi Zk))))) (Zh (ZL 7 Zac.nd (ZN ZbS (Zn Zbb hr (Zd (Zb 0) (Zd (ZN ZbS (ZN ZbS (Zb 1) Zi) (Zb 5)) Zk))) (ZN Zfq Zi (Zb 5))))
  (Zh (ZL 8 Zac.nd (ZN ZbS Zi (Zn ZP hr (Zd (Zb 7) (Zd Zi (Zd Zi Zk))))))
  (Zj (Zeq 6 (Zaj T.n_tuple (ZaX (Zau rfl rfl (N:=["_law_state","_law_script","_law_at","_law_cell_here","_law_many","_law_deeds","_law_k","_law_looks_here","_law_seed","_law_most","_law_begin","_law_goal"]) (ZG (sc:=Zf ZeS) (XN:=["_law_script","_law_at","_law_cell_here","_law_many","_law_deeds","_law_k","_law_looks_here","_law_seed","_law_most","_law_begin","_law_goal"])) (ZbK T.n_range (Zb 3)) (λ_ _ _ _ _=>Za2) (λ_ _ _ _ _=>(Zn ZP hr (Zd (ZN ZbS (Zb 8) (ZN Zfq (ZN Zfq Zi (Zb 0)) (Zb 0))) (Zd Zi (Zd (Zb 9) Zk)))))))))))))
  (Zh (ZL 9 Zac.nd (Zn ZeV hr (Zd (Zn Zbb hr (Zd (Zb 0) (Zd (ZN ZbS (Zb 1) Zi) Zk))) (Zd (Zb 3) (Zd Zi Zk)))))
  (Zh (Zar (Z9 (cEq hr) (Zn ZP hr (Zd (Zb 2) (Zd Zi (Zd Zi Zk)))) Zi) (Zj (ZL 9 Zac.nd (ZpG T.n_tuple T.n_range rfl (Zb 3)))) ZV)
  (Zh (ZL 10 Zac.nd (Zn ZeV hr (Zd (Zn Zbb hr (Zd (Zb 0) (Zd (ZN ZbS (Zb 1) Zi) Zk))) (Zd (Zb 3) (Zd Zi Zk)))))
  (Zj (Zz (Zc7 (Zd (Zb 3) (Zd (Zaj T.n_tuple (Zq 4)) (Zd (Zaj T.n_tuple (Zq 6)) (Zd (Zb 9) (Zd (Zb 10) Zk)))))))))))))))))))
theorem ZmN:Zx ["_law_works_here","_law_cell_here"] ["_law_works_here","_law_cell_here"] (Zf ZeT):=⟨rfl,rfl,rfl,by decide +kernel,rfl,by decide +kernel,by decide +kernel⟩
theorem ZmO(T:Txt K mg)(ZP:Callee P w K mg base k "_law_mix" ZO){f:Addr}{fd:FuncData}(Fn:Fun K "_law_looks" "_law_looks" ZeT f fd)(hm:mg "_law_looks" = some (.ref f))(hb:Binds K fd ["_law_works_here","_law_cell_here"] []):Callee P w K mg base (k+1) "_law_looks" ZcQ :=
 Zu Fn ZmN hm hb λcdv A outer s H E hr=>by have hu:=ZK hr;exact(Zj (Zz (Zaj T.n_tuple (ZaX (Zau rfl rfl (N:=["_law_look","_law_works_here","_law_cell_here"]) (ZG (sc:=Zf ZeT) (XN:=["_law_works_here","_law_cell_here"])) (ZbK T.n_range (Zbl T.n_len (ZaI (ZJ (Zq 0) Zi)))) (λ_ _ _ _ _=>(ZcM (Z9 cGt (Zn ZP hr (Zd (ZN ZbS (Zb 2) (ZN Zfq Zi (Zb 0))) (Zd Zi (Zd Zi Zk)))) Zi))) (λ_ _ _ _ _=>(Zb 0)))))))
theorem Zeb:Zx ["_law_works_here","_law_looks_here","_law_crowd_here","_law_found","_law_state","_law_seen"] ["_law_works_here","_law_looks_here","_law_crowd_here"] (Zf ZdC):=⟨rfl,rfl,rfl,by decide +kernel,rfl,by decide +kernel,by decide +kernel⟩
theorem ZmP(T:Txt K mg){f:Addr}{fd:FuncData}(Fn:Fun K "_law_split" "_law_split" ZdC f fd)(hm:mg "_law_split" = some (.ref f))(hb:Binds K fd ["_law_works_here","_law_looks_here","_law_crowd_here"] []):Callee P w K mg base (k+1) "_law_split" Zak :=
 Zu Fn Zeb hm hb λcdv A outer s H E hr=>by
  have hu:=ZK hr;exact(Zh (Zat 3 Zeb.nd Zsf)
  (Zh (Za5 4 Zeb.nd rfl rfl (ZS (Zb 2)) (Zh (ZL 5 Zeb.nd (Zaj T.n_tuple (ZaX (Zau rfl rfl (N:=["_law_look","_law_works_here","_law_looks_here","_law_crowd_here","_law_found","_law_state","_law_seen"]) (ZG (sc:=Zf ZdC) (XN:=["_law_works_here","_law_looks_here","_law_crowd_here","_law_found","_law_state","_law_seen"])) (ZS (Zb 1)) (λ_ _ _ _ _=>Za2) (λ_ _ _ _ _=>(ZJ (ZaI (ZJ (ZaI (ZJ (Zq 1) Zi)) (Zb 0))) (Zb 5)))))))
  (Zh (Zar (ZtM hu (Zb 5) (Zq 3)) (Zj (Zsh hu 3 (Zb 5))) ZV)
  (Zj (ZtN hu 3 (Zb 5) (Zb 4))))))
  (Zj (Zz (ZdO (Zau rfl rfl (N:=["_law_seen","_law_works_here","_law_looks_here","_law_crowd_here","_law_found","_law_state"," "]) (ZG (sc:=Zf ZdC) (XN:=["_law_works_here","_law_looks_here","_law_crowd_here","_law_found","_law_state","_law_seen"])) (ZS (ZdO (ZgZ T.n_sorted rfl (Zq 3)))) (λ_ _ _ _ _=>Za2) (λ_ _ _ _ _=>(Zc7 (Zd (Zb 0) (Zd (Zaj T.n_tuple (Zsg hu 4 (Zb 0))) Zk))))))))))
theorem ZfA:Zx ["_law_works_here","_law_crowd_here","_law_deed_here","_law_found","_law_state"] ["_law_works_here","_law_crowd_here","_law_deed_here"] (Zf Zh9):=⟨rfl,rfl,rfl,by decide +kernel,rfl,by decide +kernel,by decide +kernel⟩
theorem ZpK(T:Txt K mg){f:Addr}{fd:FuncData}(Fn:Fun K "_law_led" "_law_led" Zh9 f fd)(hm:mg "_law_led" = some (.ref f))(hb:Binds K fd ["_law_works_here","_law_crowd_here","_law_deed_here"] []):Callee P w K mg base (k+1) "_law_led" ZaY :=
 Zu Fn ZfA hm hb λcdv A outer s H E hr=>by
  have hu:=ZK hr;exact(Zh (Zat 3 ZfA.nd (Zcu Zk))
  (Zh (Za5 4 ZfA.nd rfl rfl (ZS (Zb 1)) (Zh (Zar (Z9 (cEq hr) (ZJ (ZaI (ZJ (ZaI (ZJ (Zq 0) Zi)) (Zb 2))) (Zb 4)) (Zc7 Zk)) (Zj (Zz ZbD)) ZV)
  (Zj (Zat 3 ZfA.nd (Zk6 (Zq 3) (ZaX (ZiZ T.n_list (ZaI (ZJ (ZaI (ZJ (ZaI (ZJ (Zq 0) Zi)) (Zb 2))) (Zb 4))))))))))
  (Zj (Zz (Zaj T.n_tuple (ZaX (Zi0 T.n_sorted T.n_set rfl (Zq 3))))))))
theorem Zca:Zx ["_law_works_here","_law_looks_here","_law_found","_law_at","_law_deed_here","_law_other","_law_some"] ["_law_works_here","_law_looks_here"] (Zf ZdU):=⟨rfl,rfl,rfl,by decide +kernel,rfl,by decide +kernel,by decide +kernel⟩
theorem ZpL(T:Txt K mg)(Zaf:Callee P w K mg base k "_law_split" Zak)(Zbr:Callee P w K mg base k "_law_led" ZaY){f:Addr}{fd:FuncData}(Fn:Fun K "_law_all" "_law_all" ZdU f fd)(hm:mg "_law_all" = some (.ref f))(hb:Binds K fd ["_law_works_here","_law_looks_here"] []):Callee P w K mg base (k+1) "_law_all" ZeL :=
 Zu Fn Zca hm hb λcdv A outer s H E hr=>by
  have hu:=ZK hr;exact(Zh (Zat 2 Zca.nd (ZkB rfl rfl (N:=["_law_seen","_law_part","_law_works_here","_law_looks_here","_law_found","_law_at","_law_deed_here","_law_other","_law_some"]) (ZG (sc:=Zf ZdU) (XN:=["_law_works_here","_law_looks_here","_law_found","_law_at","_law_deed_here","_law_other","_law_some"])) (ZS (Zn Zaf hr (Zd (Zb 0) (Zd (Zb 1) (Zd (ZJ (Zq 0) Zi) Zk))))) (λ_ _ _ _ _=>Za2) (λ_ _ _ _ _=>(Zb 1))))
  (Zh (ZL 3 Zca.nd Zi)
  (Zh (ZkC 100000 rfl (Z9 cLt (Zb 3) (Zbl T.n_len (Zq 2))) (Zh (Za5 4 Zca.nd rfl rfl (ZbK T.n_range (Zbl T.n_len (ZaI (ZJ (Zq 0) Zi)))) (Zh (ZL 5 Zca.nd (Zn Zbr hr (Zd (Zb 0) (Zd (ZJ (Zq 2) (Zb 3)) (Zd (Zb 4) Zk)))))
  (Zj (Zar (Z9 Zno (Zb 5) ZbD) (Zh (Zkj 6 Zca.nd rfl rfl (N:=["_law_seen","_law_part","_law_works_here","_law_looks_here","_law_found","_law_at","_law_deed_here","_law_other","_law_some"]) (ZG (sc:=Zf ZdU) (XN:=["_law_works_here","_law_looks_here","_law_found","_law_at","_law_deed_here","_law_other","_law_some"])) (ZS (Zn Zaf hr (Zd (Zb 0) (Zd (Zb 1) (Zd (Zb 5) Zk))))) (λ_ _ _ _ _=>Za2) (λ_ _ _ _ _=>(Zb 1)))
  (Zj (Zdt 6 (Zat 2 Zca.nd (Zk6 (Zq 2) (ZaX (Zau rfl rfl (N:=["_law_part","_law_works_here","_law_looks_here","_law_found","_law_at","_law_deed_here","_law_other","_law_some"]) (ZG (sc:=Zf ZdU) (XN:=["_law_works_here","_law_looks_here","_law_found","_law_at","_law_deed_here","_law_other","_law_some"])) (ZS (Zb 6)) (λ_ _ _ _ _=>(ZcM (Zsj hr (Zb 0) (Zq 3)))) (λ_ _ _ _ _=>(Zb 0))))))))) ZV))))
  (Zj (ZL 3 Zca.nd (ZN ZbS (Zb 3) Zi)))))
  (Zj (Zdt 2 (Zz (Zb 2)))))))
theorem ZmQ:Zx ["_law_works_here","_law_crowd_here"] ["_law_works_here","_law_crowd_here"] (Zf ZeU):=⟨rfl,rfl,rfl,by decide +kernel,rfl,by decide +kernel,by decide +kernel⟩
theorem ZmR(T:Txt K mg){f:Addr}{fd:FuncData}(Fn:Fun K "_law_there" "_law_there" ZeU f fd)(hm:mg "_law_there" = some (.ref f))(hb:Binds K fd ["_law_works_here","_law_crowd_here"] []):Callee P w K mg base (k+1) "_law_there" ZaD :=
 Zu Fn ZmQ hm hb λcdv A outer s H E hr=>by have hu:=ZK hr;exact(Zj (Zz (ZhJ (cEq hr) (ZdO (Zau rfl rfl (N:=["_law_state","_law_works_here","_law_crowd_here"]) (ZG (sc:=Zf ZeU) (XN:=["_law_works_here","_law_crowd_here"])) (ZS (Zb 1)) (λ_ _ _ _ _=>(ZcM (Zsi (Zb 0) (ZaI (ZJ (Zq 1) Zi))))) (λ_ _ _ _ _=>(Zb 0)))) (ZdO (Zcu Zk)))))
theorem ZdD:Zx ["_law_works_here","_law_looks_here","_law_crowd_here","_law_costs_here","_law_deed_here","_law_other"] ["_law_works_here","_law_looks_here","_law_crowd_here","_law_costs_here"] (Zf ZcG):=⟨rfl,rfl,rfl,by decide +kernel,rfl,by decide +kernel,by decide +kernel⟩
theorem Zjd(T:Txt K mg)(Zbr:Callee P w K mg base k "_law_led" ZaY)(Zaf:Callee P w K mg base k "_law_split" Zak){f:Addr}{fd:FuncData}(Fn:Fun K "_law_can_within" "_law_can_within" ZcG f fd)(hm:mg "_law_can_within" = some (.ref f))(hb:Binds K fd ["_law_works_here","_law_looks_here","_law_crowd_here","_law_costs_here"] []):Callee P w K mg base (k+1) "_law_can_within" Zb1 :=
 Zu Fn ZdD hm hb λcdv A outer s H E hr=>by
  have hu:=ZK hr;exact(Zh (Za5 4 ZdD.nd rfl rfl (ZbK T.n_range (Zbl T.n_len (ZaI (ZJ (Zq 0) Zi)))) (Zh (ZL 5 ZdD.nd (Zn Zbr hr (Zd (Zb 0) (Zd (Zb 2) (Zd (Zb 4) Zk)))))
  (Zj (Zar (Z9 Zno (Zb 5) ZbD) (Zj (Zar (Z9 (cEq hr) (ZdO (ZkB rfl rfl (N:=["_law_seen","_law_part","_law_works_here","_law_looks_here","_law_crowd_here","_law_costs_here","_law_deed_here","_law_other"]) (ZG (sc:=Zf ZcG) (XN:=["_law_works_here","_law_looks_here","_law_crowd_here","_law_costs_here","_law_deed_here","_law_other"])) (ZS (Zn Zaf hr (Zd (Zb 0) (Zd (Zb 1) (Zd (Zb 5) Zk))))) (λ_ _ _ _ _=>(ZcM (Zg0 hu (Zb 1) (Zq 5)))) (λ_ _ _ _ _=>(Zb 1)))) (ZdO (Zcu Zk))) (Zj (Zz ZcK)) ZV)) ZV))))
  (Zj (Zz ZcK)))
theorem Zbz:Zx ["_law_works_here","_law_looks_here","_law_crowds","_law_costs_here","_law_crowd_here","_law_turn","_law_more"] ["_law_works_here","_law_looks_here"] (Zf Zgs):=⟨rfl,rfl,rfl,by decide +kernel,rfl,by decide +kernel,by decide +kernel⟩
theorem ZmS(T:Txt K mg)(Zia:Callee P w K mg base k "_law_all" ZeL)(ZbN:Callee P w K mg base k "_law_there" ZaD)(Zd0:Callee P w K mg base k "_law_can_within" Zb1){f:Addr}{fd:FuncData}(Fn:Fun K "_law_costs" "_law_costs" Zgs f fd)(hm:mg "_law_costs" = some (.ref f))(hb:Binds K fd ["_law_works_here","_law_looks_here"] []):Callee P w K mg base (k+1) "_law_costs" Zdy :=
 Zu Fn Zbz hm hb λcdv A outer s H E hr=>by
  have hu:=ZK hr;exact(Zh (ZL 2 Zbz.nd (Zn Zia hr (Zd (Zb 0) (Zd (Zb 1) Zk))))
  (Zh (Zat 3 Zbz.nd Zk7)
  (Zh (Za5 4 Zbz.nd rfl rfl (ZS (Zb 2)) (Zj (Zar (ZbB (Zn ZbN hr (Zd (Zb 0) (Zd (Zb 4) Zk)))) (Zj (ZeF hu 3 (Zb 4) Zi)) ZV)))
  (Zh (Za5 5 Zbz.nd rfl rfl (Zse T.n_range Zi (ZN ZbS (Zbl T.n_len (Zq 2)) Zi)) (Zh (Zat 6 Zbz.nd (Zcu Zk))
  (Zh (Za5 4 Zbz.nd rfl rfl (ZS (Zb 2)) (Zj (Zar (ZiY (Zsc (Zg0 hu (Zb 4) (Zq 3)) (Zqw (ZbB (ZtQ Zd0 hr (Zfa (Zb 0) (Zfa (Zb 1) (Zfa (Zb 4) (ZkD (Zq 3) (Zny Zk)))))))))) (Zj (Zeq 6 (Zb 4))) ZV)))
  (Zj (Zdt 6 (Za5 4 Zbz.nd rfl rfl (ZS (Zb 6)) (Zj (ZeF hu 3 (Zb 4) (Zb 5)))))))))
  (Zj (Zdt 3 (Zz (Zb 3))))))))
theorem Zfc:Zx ["_law_works_here","_law_looks_here","_law_costs_here","_law_some"] ["_law_works_here","_law_looks_here"] (Zf Zea):=⟨rfl,rfl,rfl,by decide +kernel,rfl,by decide +kernel,by decide +kernel⟩
theorem ZlG(T:Txt K mg)(Zgu:Callee P w K mg base k "_law_costs" Zdy)(Zaf:Callee P w K mg base k "_law_split" Zak){f:Addr}{fd:FuncData}(Fn:Fun K "_law_fewest" "_law_fewest" Zea f fd)(hm:mg "_law_fewest" = some (.ref f))(hb:Binds K fd ["_law_works_here","_law_looks_here"] []):Callee P w K mg base (k+1) "_law_fewest" Zcq :=
 Zu Fn Zfc hm hb λcdv A outer s H E hr=>by
  have hu:=ZK hr;exact(Zh (ZL 2 Zfc.nd (Zn Zgu hr (Zd (Zb 0) (Zd (Zb 1) Zk))))
  (Zh (Zkj 3 Zfc.nd rfl rfl (N:=["_law_seen","_law_part","_law_works_here","_law_looks_here","_law_costs_here","_law_some"]) (ZG (sc:=Zf Zea) (XN:=["_law_works_here","_law_looks_here","_law_costs_here","_law_some"])) (ZS (Zn Zaf hr (Zd (Zb 0) (Zd (Zb 1) (Zd (ZJ (Zq 0) Zi) Zk))))) (λ_ _ _ _ _=>Za2) (λ_ _ _ _ _=>(ZtP hu (Zq 4) (Zb 1) Zi ⟨rfl,rfl,rfl,rfl⟩)))
  (Zh (Zar (Z9 (cEq hr) (ZlF T.n_max rfl (Zq 3)) Zi) (Zj (Zz ZbD)) ZV)
  (Zj (Zz (ZlF T.n_max rfl (Zq 3)))))))
theorem ZmT:Zx ["thing","least","most"] ["thing","least","most"] (Zf Zgn):=⟨rfl,rfl,rfl,by decide +kernel,rfl,by decide +kernel,by decide +kernel⟩
theorem ZmU(T:Txt K mg){f:Addr}{fd:FuncData}(Fn:Fun K "is_number" "is_number" Zgn f fd)(hm:mg "is_number" = some (.ref f))(hb:Binds K fd ["thing","least","most"] []):Callee P w K mg base (k+1) "is_number" Za6 :=
 Zu Fn ZmT hm hb λcdv A outer s H E hr=>by
  have hu:=ZK hr;exact(Zh (Zar (ZiY (ZgY (ZbB (Zkh T.n_isinstance T.n_bool (Zb 0))) (ZhK (ZcL (ZbB (Zk5 T.n_isinstance T.n_int (Zb 0))))))) (Zj (Zz ZcK)) ZV)
  (Zj (Zz (Znu cLe cLe (Zb 1) (Zb 0) (Zb 2)))))
theorem Zec:Zx ["thing","many","least","number"] ["thing","many"] (Zf Zgo):=⟨rfl,rfl,rfl,by decide +kernel,rfl,by decide +kernel,by decide +kernel⟩
theorem ZmV(T:Txt K mg)(Zbs:Callee P w K mg base k "is_number" Za6){f:Addr}{fd:FuncData}(Fn:Fun K "is_rising" "is_rising" Zgo f fd)(hm:mg "is_rising" = some (.ref f))(hb:Binds K fd ["thing","many"] []):Callee P w K mg base (k+1) "is_rising" Zad :=
 Zu Fn Zec hm hb λcdv A outer s H E hr=>by
  have hu:=ZK hr;exact(Zh (Zar (ZcL (ZbB (Zdu T.n_isinstance T.n_tuple (Zb 0)))) (Zj (Zz ZcK)) ZV)
  (Zh (ZL 2 Zec.nd Zi)
  (Zh (Za5 3 Zec.nd rfl rfl (ZS (Zb 0)) (Zh (Zar (ZcL (ZbB (Zn Zbs hr (Zd (Zb 3) (Zd (Zb 2) (Zd (ZN Zt8 (Zb 1) Zi) Zk)))))) (Zj (Zz ZcK)) ZV)
  (Zj (ZL 2 Zec.nd (ZN ZbS (Zb 3) Zi)))))
  (Zj (Zz ZcK)))))
theorem ZnG:Zx ["thing","many"] ["thing","many"] (Zf Zhi):=⟨rfl,rfl,rfl,by decide +kernel,rfl,by decide +kernel,by decide +kernel⟩
theorem ZnH(T:Txt K mg)(ZaE:Callee P w K mg base k "is_rising" Zad){f:Addr}{fd:FuncData}(Fn:Fun K "is_crowd" "is_crowd" Zhi f fd)(hm:mg "is_crowd" = some (.ref f))(hb:Binds K fd ["thing","many"] []):Callee P w K mg base (k+1) "is_crowd" Zdd :=
 Zu Fn ZnG hm hb λcdv A outer s H E hr=>by have hu:=ZK hr;exact(Zj (Zz (ZeE (Zn ZaE hr (Zd (Zb 0) (Zd (Zb 1) Zk))) (ZeD (ZhJ cGt (Zbl T.n_len (Zq 0)) Zi)))))
theorem Zq5:Zx ["thing","least","most"] ["thing","least","most"] (Zf Zja):=⟨rfl,rfl,rfl,by decide +kernel,rfl,by decide +kernel,by decide +kernel⟩
theorem Zq6(T:Txt K mg){f:Addr}{fd:FuncData}(Fn:Fun K "is_row" "is_row" Zja f fd)(hm:mg "is_row" = some (.ref f))(hb:Binds K fd ["thing","least","most"] []):Callee P w K mg base (k+1) "is_row" Za3 :=
 Zu Fn Zq5 hm hb λcdv A outer s H E hr=>by have hu:=ZK hr;exact(Zj (Zz (ZeE (Zdu T.n_isinstance T.n_tuple (Zb 0)) (ZeD (Znu cLe cLe (Zb 1) (Zbl T.n_len (Zq 0)) (Zb 2))))))
theorem ZpM:Zx ["thing","many"] ["thing","many"] (Zf Zf1):=⟨rfl,rfl,rfl,by decide +kernel,rfl,by decide +kernel,by decide +kernel⟩
theorem ZpN(T:Txt K mg)(ZaQ:Callee P w K mg base k "is_row" Za3)(ZaE:Callee P w K mg base k "is_rising" Zad){f:Addr}{fd:FuncData}(Fn:Fun K "is_deed" "is_deed" Zf1 f fd)(hm:mg "is_deed" = some (.ref f))(hb:Binds K fd ["thing","many"] []):Callee P w K mg base (k+1) "is_deed" Zcv :=
 Zu Fn ZpM hm hb λcdv A outer s H E hr=>by have hu:=ZK hr;exact(Zj (Zz (ZeE (Zn ZaQ hr (Zd (Zb 0) (Zd (Zb 1) (Zd (Zb 1) Zk)))) (ZeD (ZhL T.n_all rfl (ZaX (Zau rfl rfl (N:=["crowd","thing","many"]) (ZG (sc:=Zf Zf1) (XN:=["thing","many"])) (ZS (Zb 0)) (λ_ _ _ _ _=>Za2) (λ_ _ _ _ _=>(Zn ZaE hr (Zd (Zb 0) (Zd (Zb 2) Zk)))))))))))
theorem ZmW:Zx ["thing","many"] ["thing","many"] (Zf ZeN):=⟨rfl,rfl,rfl,by decide +kernel,rfl,by decide +kernel,by decide +kernel⟩
theorem ZmX(T:Txt K mg)(ZaQ:Callee P w K mg base k "is_row" Za3)(Zib:Callee P w K mg base k "is_deed" Zcv){f:Addr}{fd:FuncData}(Fn:Fun K "are_deeds" "are_deeds" ZeN f fd)(hm:mg "are_deeds" = some (.ref f))(hb:Binds K fd ["thing","many"] []):Callee P w K mg base (k+1) "are_deeds" ZcN :=
 Zu Fn ZmW hm hb λcdv A outer s H E hr=>by have hu:=ZK hr;exact(Zj (Zz (ZeE (Zn ZaQ hr (Zd (Zb 0) (Zd Zi (Zd (ZjN T.c_MOST_DEEDS) Zk)))) (ZeD (ZhL T.n_all rfl (ZaX (Zau rfl rfl (N:=["deed","thing","many"]) (ZG (sc:=Zf ZeN) (XN:=["thing","many"])) (ZS (Zb 0)) (λ_ _ _ _ _=>Za2) (λ_ _ _ _ _=>(Zn Zib hr (Zd (Zb 0) (Zd (Zb 2) Zk)))))))))))
theorem ZpO:Zx ["thing","many"] ["thing","many"] (Zf Zf2):=⟨rfl,rfl,rfl,by decide +kernel,rfl,by decide +kernel,by decide +kernel⟩
theorem ZpP(T:Txt K mg)(ZaQ:Callee P w K mg base k "is_row" Za3)(Zbs:Callee P w K mg base k "is_number" Za6){f:Addr}{fd:FuncData}(Fn:Fun K "is_look" "is_look" Zf2 f fd)(hm:mg "is_look" = some (.ref f))(hb:Binds K fd ["thing","many"] []):Callee P w K mg base (k+1) "is_look" Zcw :=
 Zu Fn ZpO hm hb λcdv A outer s H E hr=>by have hu:=ZK hr;exact(Zj (Zz (ZeE (Zn ZaQ hr (Zd (Zb 0) (Zd (Zb 1) (Zd (Zb 1) Zk)))) (ZeD (ZhL T.n_all rfl (ZaX (Zau rfl rfl (N:=["told","thing","many"]) (ZG (sc:=Zf Zf2) (XN:=["thing","many"])) (ZS (Zb 0)) (λ_ _ _ _ _=>Za2) (λ_ _ _ _ _=>(Zn Zbs hr (Zd (Zb 0) (Zd Zi (Zd (ZjN T.c_MOST_SEEN) Zk))))))))))))
theorem ZmY:Zx ["thing","many"] ["thing","many"] (Zf ZeO):=⟨rfl,rfl,rfl,by decide +kernel,rfl,by decide +kernel,by decide +kernel⟩
theorem ZmZ(T:Txt K mg)(ZaQ:Callee P w K mg base k "is_row" Za3)(Zic:Callee P w K mg base k "is_look" Zcw){f:Addr}{fd:FuncData}(Fn:Fun K "are_looks" "are_looks" ZeO f fd)(hm:mg "are_looks" = some (.ref f))(hb:Binds K fd ["thing","many"] []):Callee P w K mg base (k+1) "are_looks" ZcO :=
 Zu Fn ZmY hm hb λcdv A outer s H E hr=>by have hu:=ZK hr;exact(Zj (Zz (ZeE (Zn ZaQ hr (Zd (Zb 0) (Zd Zi (Zd (ZjN T.c_MOST_LOOKS) Zk)))) (ZeD (ZhL T.n_all rfl (ZaX (Zau rfl rfl (N:=["look","thing","many"]) (ZG (sc:=Zf ZeO) (XN:=["thing","many"])) (ZS (Zb 0)) (λ_ _ _ _ _=>Za2) (λ_ _ _ _ _=>(Zn Zic hr (Zd (Zb 0) (Zd (Zb 2) Zk)))))))))))
theorem ZiR:Zx ["thing","many"] ["thing"] (Zf Zgp):=⟨rfl,rfl,rfl,by decide +kernel,rfl,by decide +kernel,by decide +kernel⟩
theorem Zm0(T:Txt K mg)(Zhs:Callee P w K mg base k "is_crowd" Zdd)(ZaE:Callee P w K mg base k "is_rising" Zad)(ZaQ:Callee P w K mg base k "is_row" Za3)(Zbs:Callee P w K mg base k "is_number" Za6)(Zgv:Callee P w K mg base k "are_deeds" ZcN)(Zgw:Callee P w K mg base k "are_looks" ZcO){f:Addr}{fd:FuncData}(Fn:Fun K "are_works" "are_works" Zgp f fd)(hm:mg "are_works" = some (.ref f))(hb:Binds K fd ["thing"] []):Callee P w K mg base (k+1) "are_works" ZcP :=
 Zu Fn ZiR hm hb λcdv A outer s H E hr=>by
  have hu:=ZK hr;exact(Zh (Zar (ZiY (ZgY (ZcL (ZbB (Zn ZaQ hr (Zd (Zb 0) (Zd Zi (Zd Zi Zk)))))) (ZhK (ZcL (ZbB (Zn Zbs hr (Zd (ZJ (Zq 0) Zi) (Zd Zi (Zd (ZjN T.c_MOST_STATES) Zk))))))))) (Zj (Zz ZcK)) ZV)
  (Zh (ZL 1 ZiR.nd (ZJ (Zq 0) Zi))
  (Zh (Zar (ZiY (ZgY (ZcL (ZbB (Zn Zgv hr (Zd (ZJ (Zq 0) Zi) (Zd (Zb 1) Zk))))) (ZhK (ZcL (ZbB (Zn Zgw hr (Zd (ZJ (Zq 0) Zi) (Zd (Zb 1) Zk)))))))) (Zj (Zz ZcK)) ZV)
  (Zj (Zz (ZeE (Zn Zhs hr (Zd (ZJ (Zq 0) Zi) (Zd (Zb 1) Zk))) (ZeD (Zn ZaE hr (Zd (ZJ (Zq 0) Zi) (Zd (Zb 1) Zk))))))))))
theorem ZpQ:Zx ["works"] ["works"] (Zf Zh7):=⟨rfl,rfl,rfl,by decide +kernel,rfl,by decide +kernel,by decide +kernel⟩
theorem ZpR(T:Txt K mg)(Zgx:Callee P w K mg base k "are_works" ZcP){f:Addr}{fd:FuncData}(Fn:Fun K "checked" "checked" Zh7 f fd)(hm:mg "checked" = some (.ref f))(hb:Binds K fd ["works"] []):Callee P w K mg base (k+1) "checked" ZdP :=
 Zu Fn ZpQ hm hb λcdv A outer s H E hr=>by
  have hu:=ZK hr;exact(Zh (Zar (ZcL (ZbB (Zn Zgx hr (Zd (Zb 0) Zk)))) (Zj Znv) ZV)
  (Zj (Zz (Zb 0))))
theorem ZnI:Zx ["works"] ["works"] (Zf Zhk):=⟨rfl,rfl,rfl,by decide +kernel,rfl,by decide +kernel,by decide +kernel⟩
theorem ZnJ(T:Txt K mg){f:Addr}{fd:FuncData}(Fn:Fun K "looks_of" "looks_of" Zhk f fd)(hm:mg "looks_of" = some (.ref f))(hb:Binds K fd ["works"] []):Callee P w K mg base (k+1) "looks_of" Zb9 :=
 Zu Fn ZnI hm hb λcdv A outer s H E hr=>by have hu:=ZK hr;exact(Zj (Zz (ZJ (Zq 0) Zi)))
theorem Zka:Zx ["works","looks"] ["works","looks"] (Zf Zei):=⟨rfl,rfl,rfl,by decide +kernel,rfl,by decide +kernel,by decide +kernel⟩
theorem Zkb(T:Txt K mg)(ZaE:Callee P w K mg base k "is_rising" Zad)(Zdm:Callee P w K mg base k "looks_of" Zb9){f:Addr}{fd:FuncData}(Fn:Fun K "checked_looks" "checked_looks" Zei f fd)(hm:mg "checked_looks" = some (.ref f))(hb:Binds K fd ["works","looks"] []):Callee P w K mg base (k+1) "checked_looks" ZbE :=
 Zu Fn Zka hm hb λcdv A outer s H E hr=>by
  have hu:=ZK hr;exact(Zh (Zar (ZcL (ZbB (Zn ZaE hr (Zd (Zb 1) (Zd (Zbl T.n_len (ZaI (Zn Zdm hr (Zd (Zb 0) Zk)))) Zk))))) (Zj Znv) ZV)
  (Zj (Zz (Zb 1))))
theorem ZpS:Zx ["works","looks","state"] ["works","looks","state"] (Zf Zf3):=⟨rfl,rfl,rfl,by decide +kernel,rfl,by decide +kernel,by decide +kernel⟩
theorem ZpT(T:Txt K mg)(Zdm:Callee P w K mg base k "looks_of" Zb9){f:Addr}{fd:FuncData}(Fn:Fun K "seen_in" "seen_in" Zf3 f fd)(hm:mg "seen_in" = some (.ref f))(hb:Binds K fd ["works","looks","state"] []):Callee P w K mg base (k+1) "seen_in" ZdQ :=
 Zu Fn ZpS hm hb λcdv A outer s H E hr=>by have hu:=ZK hr;exact(Zj (Zz (Zaj T.n_tuple (ZaX (Zau rfl rfl (N:=["look","works","looks","state"]) (ZG (sc:=Zf Zf3) (XN:=["works","looks","state"])) (ZS (Zb 1)) (λ_ _ _ _ _=>Za2) (λ_ _ _ _ _=>(ZJ (ZaI (ZJ (ZaI (Zn Zdm hr (Zd (Zb 1) Zk))) (Zb 0))) (Zb 3))))))))
theorem Zid:Zx ["works","looks","crowd","found","state"] ["works","looks","crowd"] (Zf Zg2):=⟨rfl,rfl,rfl,by decide +kernel,rfl,by decide +kernel,by decide +kernel⟩
theorem Zq7(T:Txt K mg)(Zie:Callee P w K mg base k "seen_in" ZdQ){f:Addr}{fd:FuncData}(Fn:Fun K "parted" "parted" Zg2 f fd)(hm:mg "parted" = some (.ref f))(hb:Binds K fd ["works","looks","crowd"] []):Callee P w K mg base (k+1) "parted" Zbm :=
 Zu Fn Zid hm hb λcdv A outer s H E hr=>by
  have hu:=ZK hr;exact(Zh (Zat 3 Zid.nd Zsf)
  (Zh (Za5 4 Zid.nd rfl rfl (ZS (Zb 2)) (Zj (ZtO hu 3 (Zn Zie hr (Zd (Zb 0) (Zd (Zb 1) (Zd (Zb 4) Zk)))) (Zb 4) ⟨rfl,rfl,rfl,rfl⟩)))
  (Zj (Zz (ZdO (Zau rfl rfl (N:=["seen","works","looks","crowd","found","state"]) (ZG (sc:=Zf Zg2) (XN:=["works","looks","crowd","found","state"])) (ZS (ZdO (ZgZ T.n_sorted rfl (Zq 3)))) (λ_ _ _ _ _=>Za2) (λ_ _ _ _ _=>(Zc7 (Zd (Zb 0) (Zd (Zaj T.n_tuple (Zsg hu 4 (Zb 0))) Zk))))))))))
theorem ZiS:Zx ["rows"] ["rows"] (Zf ZcT):=⟨rfl,rfl,rfl,by decide +kernel,rfl,by decide +kernel,by decide +kernel⟩
theorem ZlH(T:Txt K mg){f:Addr}{fd:FuncData}(Fn:Fun K "crowds_in" "crowds_in" ZcT f fd)(hm:mg "crowds_in" = some (.ref f))(hb:Binds K fd ["rows"] []):Zez P w K mg base (k+1) "crowds_in" ZT :=
 Zro Fn ZiS hm hb rfl (λr b h=>Zu2 _ _ _ r b h) λcdv A outer s H E hr=>by have hu:=ZK hr;exact(Zau rfl rfl (N:=["row","rows"]) (ZG (sc:=Zf ZcT) (XN:=["rows"])) (ZS (Zb 0)) (λ_ _ _ _ _=>Za2) (λ_ _ _ _ _=>(ZJ (Zq 0) Zi)))
theorem Zm1(T:Txt K mg){f:Addr}{fd:FuncData}(Fn:Fun K "crowds_in" "crowds_in" ZcT f fd)(hm:mg "crowds_in" = some (.ref f))(hb:Binds K fd ["rows"] []):Callee P w K mg base (k+1) "crowds_in" ZT :=
 Zu Fn ZiS hm hb λcdv A outer s H E hr=>by have hu:=ZK hr;exact(Zj (Zz (ZdO (Zau rfl rfl (N:=["row","rows"]) (ZG (sc:=Zf ZcT) (XN:=["rows"])) (ZS (Zb 0)) (λ_ _ _ _ _=>Za2) (λ_ _ _ _ _=>(ZJ (Zq 0) Zi))))))
theorem ZfZ:Zx ["rows","costs","known"] ["rows","costs"] (Zf Zc5):=⟨rfl,rfl,rfl,by decide +kernel,rfl,by decide +kernel,by decide +kernel⟩
theorem Zkc(T:Txt K mg)(ZbO:Callee P w K mg base k "crowds_in" ZT){f:Addr}{fd:FuncData}(Fn:Fun K "cost_at_worst" "cost_at_worst" Zc5 f fd)(hm:mg "cost_at_worst" = some (.ref f))(hb:Binds K fd ["rows","costs"] []):Callee P w K mg base (k+1) "cost_at_worst" Zae :=
 Zu Fn ZfZ hm hb λcdv A outer s H E hr=>by
  have hu:=ZK hr;exact(Zh (ZeG 2 ZfZ.nd rfl rfl (N:=["part","rows","costs","known"]) (ZG (sc:=Zf Zc5) (XN:=["rows","costs","known"])) (ZS (Zn ZbO hr (Zd (Zb 0) Zk))) (λ_ _ _ _ _=>(ZcM (Zwy hu (Zb 0) (Zq 2)))) (λ_ _ _ _ _=>(Zer hu (Zq 2) (Zb 0))))
  (Zj (Zz (Zvf (Z9 (cEq hr) (Zbl T.n_len (Zq 2)) (Zbl T.n_len (Zq 0))) (ZlF T.n_max rfl (Zq 2)) ZbD))))
theorem Zje:Zx ["way","depths","most"] ["way","depths"] (Zf Zfz):=⟨rfl,rfl,rfl,by decide +kernel,rfl,by decide +kernel,by decide +kernel⟩
theorem ZnK(T:Txt K mg)(ZbG:Callee P w K mg base k "cost_at_worst" Zae){f:Addr}{fd:FuncData}(Fn:Fun K "deeds_by" "deeds_by" Zfz f fd)(hm:mg "deeds_by" = some (.ref f))(hb:Binds K fd ["way","depths"] []):Callee P w K mg base (k+1) "deeds_by" Zdj :=
 Zu Fn Zje hm hb λcdv A outer s H E hr=>by
  have hu:=ZK hr;exact(Zh (ZL 2 Zje.nd (Zn ZbG hr (Zd (ZJ (Zq 0) Zi) (Zd (Zb 1) Zk))))
  (Zj (Zz (Zvf (Z9 Zoq (Zb 2) ZbD) ZbD (ZN ZbS (Zb 2) Zi)))))
theorem ZpU:Zx ["rows","steps"] ["rows","steps"] (Zf Zf4):=⟨rfl,rfl,rfl,by decide +kernel,rfl,by decide +kernel,by decide +kernel⟩
theorem ZpV(T:Txt K mg){f:Addr}{fd:FuncData}(Fn:Fun K "plan_of" "plan_of" Zf4 f fd)(hm:mg "plan_of" = some (.ref f))(hb:Binds K fd ["rows","steps"] []):Callee P w K mg base (k+1) "plan_of" Zb6 :=
 Zu Fn ZpU hm hb λcdv A outer s H E hr=>by have hu:=ZK hr;exact(Zj (Zz (Zaj T.n_tuple (ZaX (ZkB rfl rfl (N:=["seen","part","rows","steps"]) (ZG (sc:=Zf Zf4) (XN:=["rows","steps"])) (ZS (Zb 0)) (λ_ _ _ _ _=>Za2) (λ_ _ _ _ _=>(Zc7 (Zd (Zb 0) (Zd (Zer hu (Zq 3) (Zb 1)) Zk)))))))))
theorem ZpW:Zx ["way","steps"] ["way","steps"] (Zf Zf5):=⟨rfl,rfl,rfl,by decide +kernel,rfl,by decide +kernel,by decide +kernel⟩
theorem ZpX(T:Txt K mg)(ZdV:Callee P w K mg base k "plan_of" Zb6){f:Addr}{fd:FuncData}(Fn:Fun K "do_step" "do_step" Zf5 f fd)(hm:mg "do_step" = some (.ref f))(hb:Binds K fd ["way","steps"] []):Callee P w K mg base (k+1) "do_step" ZdS :=
 Zu Fn ZpW hm hb λcdv A outer s H E hr=>by have hu:=ZK hr;exact(Zj (Zz (Zc7 (Zd Zk4 (Zd (ZJ (Zq 0) Zi) (Zd (Zn ZdV hr (Zd (ZJ (Zq 0) Zi) (Zd (Zb 1) Zk))) Zk))))))
theorem ZnL:Zx ["works"] ["works"] (Zf Zhj):=⟨rfl,rfl,rfl,by decide +kernel,rfl,by decide +kernel,by decide +kernel⟩
theorem ZnM(T:Txt K mg){f:Addr}{fd:FuncData}(Fn:Fun K "deeds_of" "deeds_of" Zhj f fd)(hm:mg "deeds_of" = some (.ref f))(hb:Binds K fd ["works"] []):Callee P w K mg base (k+1) "deeds_of" Zbp :=
 Zu Fn ZnL hm hb λcdv A outer s H E hr=>by have hu:=ZK hr;exact(Zj (Zz (ZJ (Zq 0) Zi)))
theorem Zg3:Zx ["works","crowd","deed","leads"] ["works","crowd","deed"] (Zf ZdT):=⟨rfl,rfl,rfl,by decide +kernel,rfl,by decide +kernel,by decide +kernel⟩
theorem Zlb(T:Txt K mg)(ZbJ:Callee P w K mg base k "deeds_of" Zbp){f:Addr}{fd:FuncData}(Fn:Fun K "can_be_done" "can_be_done" ZdT f fd)(hm:mg "can_be_done" = some (.ref f))(hb:Binds K fd ["works","crowd","deed"] []):Callee P w K mg base (k+1) "can_be_done" Zcc :=
 Zu Fn Zg3 hm hb λcdv A outer s H E hr=>by
  have hu:=ZK hr;exact(Zh (ZL 3 Zg3.nd (ZJ (ZaI (Zn ZbJ hr (Zd (Zb 0) Zk))) (Zb 2)))
  (Zj (Zz (ZhL T.n_all rfl (ZaX (Zau rfl rfl (N:=["state","works","crowd","deed","leads"]) (ZG (sc:=Zf ZdT) (XN:=["works","crowd","deed","leads"])) (ZS (Zb 1)) (λ_ _ _ _ _=>Za2) (λ_ _ _ _ _=>(ZhJ cGt (Zbl T.n_len (ZaI (ZJ (Zq 4) (Zb 0)))) Zi))))))))
theorem ZlI:Zx ["works","crowd"] ["works","crowd"] (Zf Zd9):=⟨rfl,rfl,rfl,by decide +kernel,rfl,by decide +kernel,by decide +kernel⟩
theorem ZlJ(T:Txt K mg)(Zfd:Callee P w K mg base k "can_be_done" Zcc)(ZbJ:Callee P w K mg base k "deeds_of" Zbp){f:Addr}{fd:FuncData}(Fn:Fun K "deeds_with" "deeds_with" Zd9 f fd)(hm:mg "deeds_with" = some (.ref f))(hb:Binds K fd ["works","crowd"] []):Callee P w K mg base (k+1) "deeds_with" Zcn :=
 Zu Fn ZlI hm hb λcdv A outer s H E hr=>by have hu:=ZK hr;exact(Zj (Zz (ZdO (Zau rfl rfl (N:=["deed","works","crowd"]) (ZG (sc:=Zf Zd9) (XN:=["works","crowd"])) (ZbK T.n_range (Zbl T.n_len (ZaI (Zn ZbJ hr (Zd (Zb 0) Zk))))) (λ_ _ _ _ _=>(ZcM (ZbB (Zn Zfd hr (Zd (Zb 1) (Zd (Zb 2) (Zd (Zb 0) Zk))))))) (λ_ _ _ _ _=>(Zb 0))))))
theorem ZeW:Zx ["works","crowd","deed","leads","found","state","target"] ["works","crowd","deed"] (Zf Zjb):=⟨rfl,rfl,rfl,by decide +kernel,rfl,by decide +kernel,by decide +kernel⟩
theorem Zq8(T:Txt K mg)(ZbJ:Callee P w K mg base k "deeds_of" Zbp){f:Addr}{fd:FuncData}(Fn:Fun K "led_to" "led_to" Zjb f fd)(hm:mg "led_to" = some (.ref f))(hb:Binds K fd ["works","crowd","deed"] []):Callee P w K mg base (k+1) "led_to" Zdv :=
 Zu Fn ZeW hm hb λcdv A outer s H E hr=>by
  have hu:=ZK hr;exact(Zh (ZL 3 ZeW.nd (ZJ (ZaI (Zn ZbJ hr (Zd (Zb 0) Zk))) (Zb 2)))
  (Zh (Zat 4 ZeW.nd ZxX)
  (Zh (Za5 5 ZeW.nd rfl rfl (ZS (Zb 1)) (Zj (Za5 6 ZeW.nd rfl rfl (ZS (ZJ (Zq 3) (Zb 5))) (Zj (ZeF hu 4 (Zb 6) ZcK)))))
  (Zj (Zz (Zaj T.n_tuple (ZaX (ZgZ T.n_sorted rfl (Zq 4)))))))))
theorem Zm2:Zx ["works","looks","crowd"] ["works","looks","crowd"] (Zf ZeQ):=⟨rfl,rfl,rfl,by decide +kernel,rfl,by decide +kernel,by decide +kernel⟩
theorem Zm3(T:Txt K mg)(Zcx:Callee P w K mg base k "parted" Zbm)(ZfR:Callee P w K mg base k "deeds_with" Zcn)(Zjf:Callee P w K mg base k "led_to" Zdv){f:Addr}{fd:FuncData}(Fn:Fun K "ways_with" "ways_with" ZeQ f fd)(hm:mg "ways_with" = some (.ref f))(hb:Binds K fd ["works","looks","crowd"] []):Callee P w K mg base (k+1) "ways_with" Za9 :=
 Zu Fn Zm2 hm hb λcdv A outer s H E hr=>by have hu:=ZK hr;exact(Zj (Zz (ZdO (Zau rfl rfl (N:=["deed","works","looks","crowd"]) (ZG (sc:=Zf ZeQ) (XN:=["works","looks","crowd"])) (ZS (Zn ZfR hr (Zd (Zb 0) (Zd (Zb 2) Zk)))) (λ_ _ _ _ _=>Za2) (λ_ _ _ _ _=>(Zc7 (Zd (Zb 0) (Zd (Zn Zcx hr (Zd (Zb 1) (Zd (Zb 2) (Zd (Zn Zjf hr (Zd (Zb 1) (Zd (Zb 3) (Zd (Zb 0) Zk)))) Zk)))) Zk))))))))
theorem Zch:Zx ["crowds","ways_for","reach","waiting","crowd","way"] ["crowds","ways_for"] (Zf ZeP):=⟨rfl,rfl,rfl,by decide +kernel,rfl,by decide +kernel,by decide +kernel⟩
theorem ZkF(T:Txt K mg)(ZbO:Callee P w K mg base k "crowds_in" ZT)(Zgy:Zez P w K mg base k "crowds_in" ZT)(CV:Zc3 P w K mg base k ap){f:Addr}{fd:FuncData}(Fn:Fun K "reached_from" "reached_from" ZeP f fd)(hm:mg "reached_from" = some (.ref f))(hb:Binds K fd ["crowds","ways_for"] []):Callee P w K mg base (k+1) "reached_from" (ZbW ap) :=
 Zu Fn Zch hm hb λcdv A outer s H E hr=>by
  have hu:=ZK hr;exact(Zh (Zat 2 Zch.nd Zk7)
  (Zh (Zat 3 Zch.nd (ZiZ T.n_list (Zq 0)))
  (Zh (ZkC 100000 rfl (Z9 cGt (Zbl T.n_len (Zq 3)) Zi) (Zh (Zwz 4 3 Zch.nd)
  (Zj (Zar (Zg0 hu (Zb 4) (Zq 2)) (Zh (ZeF hu 2 (Zb 4) (ZkE CV hr 1 (Zd (Zb 4) Zk)))
  (Zj (Za5 5 Zch.nd rfl rfl (ZS (Zer hu (Zq 2) (Zb 4))) (Zj (Zsk 3 (ZaX (ZtS Zgy hr (Zd (ZJ (Zq 5) Zi) Zk)))))))) ZV))))
  (Zj (Zdt 2 (Zz (Zb 2)))))))
theorem Zlc:Zx ["works","looks","crowd"] ["works","looks","crowd"] (Zf Z2):=⟨rfl,rfl,rfl,by decide +kernel,rfl,by decide +kernel,by decide +kernel⟩
theorem ZxM:Zr3 ["works","looks","crowd"] (Zf Z2) (Zmc Z2) ["works","looks"] [0,1]=true:=by decide +kernel
theorem Zld(T:Txt K mg)(ZeX:Callee P w K mg base k "reached_from" (ZbW ap))(ZbO:Callee P w K mg base k "crowds_in" ZT)(Zcx:Callee P w K mg base k "parted" Zbm)(ZdE:Callee P w K mg base k "ways_with" Za9){c Tl:Addr}(hc:ZA7 K c Tl=true)(ht:(Tl,("coming_from.<locals>.<lambda>":Str))∈FX.tl)(hq:∀q,(Tl,q)∈FX.tl->q=("coming_from.<locals>.<lambda>":Str))(bm:BMod base mg)(good:∀F p cs,Clo K F p (Zw2 Z2) (ZtZ Z2) (Zmc Z2) ["works","looks"] cs->FX.fv 1 cs F p){f:Addr}{fd:FuncData}(Fn:Zrn K "coming_from" "coming_from" Z2 f fd c)(hm:mg "coming_from" = some (.ref f))(hb:Binds K fd ["works","looks","crowd"] []):Callee P w K mg base (k+1) "coming_from" (ZcR ap) :=
 Zrj Fn Zlc hm hb λA outer s H E hr=>by have hu:=ZK hr;exact(Zj (Zz (Zq2 ZeX hr (Zt6 ZxM hc ht hq bm good) (Zn ZbO hr (Zd (Zn Zcx hr (Zd (Zb 0) (Zd (Zb 1) (Zd (Zb 2) Zk)))) Zk)))))
theorem ZhP:Zx ["ways","costs","cost_by","told"] ["ways","costs","cost_by"] (Zf Zda):=⟨rfl,rfl,rfl,by decide +kernel,rfl,by decide +kernel,by decide +kernel⟩
theorem ZlK(T:Txt K mg)(CV:Zc3 P w K mg base k ap){f:Addr}{fd:FuncData}(Fn:Fun K "least_cost" "least_cost" Zda f fd)(hm:mg "least_cost" = some (.ref f))(hb:Binds K fd ["ways","costs","cost_by"] []):Callee P w K mg base (k+1) "least_cost" (ZaU ap) :=
 Zu Fn ZhP hm hb λcdv A outer s H E hr=>by
  have hu:=ZK hr;exact(Zh (ZeG 3 ZhP.nd rfl rfl (N:=["way","ways","costs","cost_by","told"]) (ZG (sc:=Zf Zda) (XN:=["ways","costs","cost_by","told"])) (ZS (Zb 0)) (λ_ _ _ _ _=>Za2) (λ_ _ _ _ _=>(ZkE CV hr 3 (Zd (Zb 0) (Zd (Zb 2) Zk)))))
  (Zj (Zdt 3 (Zz (Zqy T.n_min rfl (ZaX (Zau rfl rfl (N:=["cost","ways","costs","cost_by","told"]) (ZG (sc:=Zf Zda) (XN:=["ways","costs","cost_by","told"])) (ZS (Zb 3)) (λ_ _ _ _ _=>(ZcM (Z9 Zno (Zb 0) ZbD))) (λ_ _ _ _ _=>(Zb 0)))))))))
theorem ZdW:Zx ["reach","costs","cost_by","found","crowd","cost"] ["reach","costs","cost_by"] (Zf ZfP):=⟨rfl,rfl,rfl,by decide +kernel,rfl,by decide +kernel,by decide +kernel⟩
theorem Zlz(T:Txt K mg)(Zcr:Callee P w K mg base k "least_cost" (ZaU ap)){f:Addr}{fd:FuncData}(Fn:Fun K "next_costs" "next_costs" ZfP f fd)(hm:mg "next_costs" = some (.ref f))(hb:Binds K fd ["reach","costs","cost_by"] []):ZeB P w K mg base (k+1) "next_costs" (ZbA ap) :=
 Zr1 Fn ZdW hm hb λcdv A outer s H E hr=>by
  have hu:=ZK hr;exact(ZoW (Zat 3 ZdW.nd Zk7)
  (ZoW (ZhM 0 (Za5 4 ZdW.nd rfl rfl (ZhN 0) (Zj (Zar (Zg0 hu (Zb 4) (Zq 1)) (Zh (ZL 5 ZdW.nd (Zn Zcr hr (Zd (Zer hu (Zq 0) (Zb 4)) (Zd (Zb 1) (Zd (Zb 2) Zk)))))
  (Zj (Zar (Z9 Zno (Zb 5) ZbD) (Zj (ZeF hu 3 (Zb 4) (Zb 5))) ZV))) ZV))))
  (Zwe 3)))
theorem ZpY:Zx ["works"] ["works"] (Zf Zh6):=⟨rfl,rfl,rfl,by decide +kernel,rfl,by decide +kernel,by decide +kernel⟩
theorem ZpZ(T:Txt K mg){f:Addr}{fd:FuncData}(Fn:Fun K "goal_of" "goal_of" Zh6 f fd)(hm:mg "goal_of" = some (.ref f))(hb:Binds K fd ["works"] []):Callee P w K mg base (k+1) "goal_of" ZdR :=
 Zu Fn ZpY hm hb λcdv A outer s H E hr=>by have hu:=ZK hr;exact(Zj (Zz (ZJ (Zq 0) Zi)))
theorem ZnN:Zx ["works","crowd"] ["works","crowd"] (Zf Zfx):=⟨rfl,rfl,rfl,by decide +kernel,rfl,by decide +kernel,by decide +kernel⟩
theorem ZnO(T:Txt K mg)(Zif:Callee P w K mg base k "goal_of" ZdR){f:Addr}{fd:FuncData}(Fn:Fun K "is_there" "is_there" Zfx f fd)(hm:mg "is_there" = some (.ref f))(hb:Binds K fd ["works","crowd"] []):Callee P w K mg base (k+1) "is_there" ZbI :=
 Zu Fn ZnN hm hb λcdv A outer s H E hr=>by have hu:=ZK hr;exact(Zj (Zz (ZhL T.n_all rfl (ZaX (Zau rfl rfl (N:=["state","works","crowd"]) (ZG (sc:=Zf Zfx) (XN:=["works","crowd"])) (ZS (Zb 1)) (λ_ _ _ _ _=>Za2) (λ_ _ _ _ _=>(Zwx (Zb 0) (ZaI (Zn Zif hr (Zd (Zb 1) Zk))))))))))
theorem ZbP:Zx ["works","reach","cost_by","costs","cost","found","crowd","offered"] ["works","reach","cost_by"] (Zf Zdk):=⟨rfl,rfl,rfl,by decide +kernel,rfl,by decide +kernel,by decide +kernel⟩
theorem ZnP(T:Txt K mg)(Zht:Callee P w K mg base k "is_there" ZbI)(Gf_next_costs:ZeB P w K mg base k "next_costs" (ZbA ap)){f:Addr}{fd:FuncData}(Fn:Fun K "costs_of" "costs_of" Zdk f fd)(hm:mg "costs_of" = some (.ref f))(hb:Binds K fd ["works","reach","cost_by"] []):Callee P w K mg base (k+1) "costs_of" (Zdi ap) :=
 Zu Fn ZbP hm hb λcdv A outer s H E hr=>by
  have hu:=ZK hr;exact(Zh (Zat 3 ZbP.nd Zk7)
  (Zh (ZL 4 ZbP.nd Zi)
  (Zh (ZhM 1 (ZeG 5 ZbP.nd rfl rfl (N:=["crowd","works","reach","cost_by","costs","cost","found"," ","offered"]) (ZG (sc:=Zf Zdk) (XN:=["works","reach","cost_by","costs","cost","found","crowd","offered"])) (ZhN 1) (λ_ _ _ _ _=>(ZcM (ZbB (Zn Zht hr (Zd (Zb 1) (Zd (Zb 0) Zk)))))) (λ_ _ _ _ _=>(Zb 0))))
  (Zh (ZkC 100000 rfl (Z9 cGt (Zbl T.n_len (Zq 5)) Zi) (Zh (Zdt 5 (Za5 6 ZbP.nd rfl rfl (ZS (Zb 5)) (Zj (ZeF hu 3 (Zb 6) (Zb 4)))))
  (Zh (Zat 7 ZbP.nd (ZtU Gf_next_costs hr (Zfa (Zb 1) (ZkD (Zq 3) (Zfa (Zb 2) (Zny Zk))))))
  (Zh (Zdt 7 (ZhM 7 (ZL 4 ZbP.nd (Zqy T.n_min rfl (ZaX (Zau rfl rfl (N:=["crowd","works","reach","cost_by","costs","cost","found"," ","offered"]) (ZG (sc:=Zf Zdk) (XN:=["works","reach","cost_by","costs","cost","found","crowd","offered"])) (ZhN 7) (λ_ _ _ _ _=>Za2) (λ_ _ _ _ _=>(Zer hu (Zq 8) (Zb 0)))))))))
  (Zj (Zdt 7 (ZhM 7 (ZeG 5 ZbP.nd rfl rfl (N:=["crowd","works","reach","cost_by","costs","cost","found"," ","offered"]) (ZG (sc:=Zf Zdk) (XN:=["works","reach","cost_by","costs","cost","found","crowd","offered"])) (ZhN 7) (λ_ _ _ _ _=>(ZcM (Z9 (cEq hr) (Zer hu (Zq 8) (Zb 0)) (Zb 5)))) (λ_ _ _ _ _=>(Zb 0))))))))))
  (Zj (Zdt 3 (Zz (Zb 3))))))))
theorem Zm4:Zx ["works","coming"] ["works","coming"] (Zf Zgq):=⟨rfl,rfl,rfl,by decide +kernel,rfl,by decide +kernel,by decide +kernel⟩
theorem Zm5(T:Txt K mg)(Zhu:Callee P w K mg base k "costs_of" (Zdi ap))(Vff_deeds_by:GFn mg "deeds_by" 0){f:Addr}{fd:FuncData}(Fn:Fun K "depths_of" "depths_of" Zgq f fd)(hm:mg "depths_of" = some (.ref f))(hb:Binds K fd ["works","coming"] []):Callee P w K mg base (k+1) "depths_of" (ZcS ap) :=
 Zu Fn Zm4 hm hb λcdv A outer s H E hr=>by have hu:=ZK hr;exact(Zj (Zz (Zn Zhu hr (Zd (Zb 0) (Zd (Zb 1) (Zd (Znz Vff_deeds_by) Zk))))))
theorem ZnQ:Zx ["works"] ["works"] (Zf Zhl):=⟨rfl,rfl,rfl,by decide +kernel,rfl,by decide +kernel,by decide +kernel⟩
theorem ZnR(T:Txt K mg){f:Addr}{fd:FuncData}(Fn:Fun K "begin_of" "begin_of" Zhl f fd)(hm:mg "begin_of" = some (.ref f))(hb:Binds K fd ["works"] []):Callee P w K mg base (k+1) "begin_of" Zdh :=
 Zu Fn ZnQ hm hb λcdv A outer s H E hr=>by have hu:=ZK hr;exact(Zj (Zz (ZJ (Zq 0) Zi)))
theorem Zjg:Zx ["ways","costs","cost_by","least"] ["ways","costs","cost_by"] (Zf Zfy):=⟨rfl,rfl,rfl,by decide +kernel,rfl,by decide +kernel,by decide +kernel⟩
theorem ZnS(T:Txt K mg)(Zcr:Callee P w K mg base k "least_cost" (ZaU ap))(CV:Zc3 P w K mg base k ap){f:Addr}{fd:FuncData}(Fn:Fun K "best_way" "best_way" Zfy f fd)(hm:mg "best_way" = some (.ref f))(hb:Binds K fd ["ways","costs","cost_by"] []):Callee P w K mg base (k+1) "best_way" (Zba ap) :=
 Zu Fn Zjg hm hb λcdv A outer s H E hr=>by
  have hu:=ZK hr;exact(Zh (ZL 3 Zjg.nd (Zn Zcr hr (Zd (Zb 0) (Zd (Zb 1) (Zd (Zb 2) Zk)))))
  (Zj (Zz (ZJ (ZaX (Zau rfl rfl (N:=["way","ways","costs","cost_by","least"]) (ZG (sc:=Zf Zfy) (XN:=["ways","costs","cost_by","least"])) (ZS (Zb 0)) (λ_ _ _ _ _=>(ZcM (Z9 (cEq hr) (ZkE CV hr 3 (Zd (Zb 0) (Zd (Zb 2) Zk))) (Zb 4)))) (λ_ _ _ _ _=>(Zb 0)))) Zi))))
theorem Zgz:Zx ["reach","costs","cost_by","step_by","steps","crowd"] ["reach","costs","cost_by","step_by"] (Zf Zhm):=⟨rfl,rfl,rfl,by decide +kernel,rfl,by decide +kernel,by decide +kernel⟩
theorem ZnT(T:Txt K mg)(Zhv:Callee P w K mg base k "best_way" (Zba ap))(CV:Zc3 P w K mg base k ap){f:Addr}{fd:FuncData}(Fn:Fun K "steps_of" "steps_of" Zhm f fd)(hm:mg "steps_of" = some (.ref f))(hb:Binds K fd ["reach","costs","cost_by","step_by"] []):Callee P w K mg base (k+1) "steps_of" (Zd5 ap) :=
 Zu Fn Zgz hm hb λcdv A outer s H E hr=>by
  have hu:=ZK hr;exact(Zh (Zat 4 Zgz.nd Zk7)
  (Zh (ZhM 1 (Za5 5 Zgz.nd rfl rfl (ZhN 1) (Zj (Zar (Z9 (cEq hr) (Zer hu (Zq 1) (Zb 5)) Zi) (Zj (ZeF hu 4 (Zb 5) (ZtT T.c_DONE))) (Zj (ZeF hu 4 (Zb 5) (Zsl CV hr 3 (Zfa (Zn Zhv hr (Zd (Zer hu (Zq 0) (Zb 5)) (Zd (ZxY 1) (Zd (Zb 2) Zk)))) (ZkD (Zq 4) (Zny Zk))))))))))
  (Zj (Zdt 4 (Zz (Zb 4))))))
theorem Zf6:Zx ["works","looks","rows","coming","depths"] ["works","looks"] (Zf Zjc):=⟨rfl,rfl,rfl,by decide +kernel,rfl,by decide +kernel,by decide +kernel⟩
theorem Zq9(T:Txt K mg)(Zig:Callee P w K mg base k "checked" ZdP)(Zej:Callee P w K mg base k "checked_looks" ZbE)(Zcx:Callee P w K mg base k "parted" Zbm)(Zfe:Callee P w K mg base k "coming_from" (ZcR ap))(ZgA:Callee P w K mg base k "depths_of" (ZcS ap))(ZdV:Callee P w K mg base k "plan_of" Zb6)(ZfB:Callee P w K mg base k "begin_of" Zdh)(ZbG:Callee P w K mg base k "cost_at_worst" Zae)(Zhw:Callee P w K mg base k "steps_of" (Zd5 ap))(Vff_deeds_by:GFn mg "deeds_by" 0)(Vff_do_step:GFn mg "do_step" 2){f:Addr}{fd:FuncData}(Fn:Fun K "a_plan" "a_plan" Zjc f fd)(hm:mg "a_plan" = some (.ref f))(hb:Binds K fd ["works","looks"] []):Callee P w K mg base (k+1) "a_plan" (Zes ap) :=
 Zu Fn Zf6 hm hb λcdv A outer s H E hr=>by
  have hu:=ZK hr;exact(Zh (Zqx (Zn Zig hr (Zd (Zb 0) Zk)))
  (Zh (Zqx (Zn Zej hr (Zd (Zb 0) (Zd (Zb 1) Zk))))
  (Zh (ZL 2 Zf6.nd (Zn Zcx hr (Zd (Zb 0) (Zd (Zb 1) (Zd (Zn ZfB hr (Zd (Zb 0) Zk)) Zk)))))
  (Zh (ZL 3 Zf6.nd (Zn Zfe hr (Zd (Zb 0) (Zd (Zb 1) (Zd (Zn ZfB hr (Zd (Zb 0) Zk)) Zk)))))
  (Zh (ZL 4 Zf6.nd (Zn ZgA hr (Zd (Zb 0) (Zd (Zb 3) Zk))))
  (Zh (Zar (Z9 Zoq (Zn ZbG hr (Zd (Zb 2) (Zd (Zb 4) Zk))) ZbD) (Zj (Zz ZbD)) ZV)
  (Zj (Zz (Zn ZdV hr (Zd (Zb 2) (Zd (Zn Zhw hr (Zd (Zb 3) (Zd (Zb 4) (Zd (Znz Vff_deeds_by) (Zd (Znz Vff_do_step) Zk))))) Zk)))))))))))
theorem Zm6:Zx ["_law_found"] ["_law_found"] (Zf Zgr):=⟨rfl,rfl,rfl,by decide +kernel,rfl,by decide +kernel,by decide +kernel⟩
theorem Zm7(T:Txt K mg){f:Addr}{fd:FuncData}(Fn:Fun K "_law_whole" "_law_whole" Zgr f fd)(hm:mg "_law_whole" = some (.ref f))(hb:Binds K fd ["_law_found"] []):Callee P w K mg base (k+1) "_law_whole" Zce :=
 Zu Fn Zm6 hm hb λcdv A outer s H E hr=>by have hu:=ZK hr;exact(Zj (Zz (ZeE (Zk5 T.n_isinstance T.n_int (Zb 0)) (ZeD (Zwt (Zkh T.n_isinstance T.n_bool (Zb 0)))))))
theorem ZaR:Zx ["_law_works_here","_law_looks_here","_law_crowd_here","_law_plan","_law_some","_law_most","_law_k","_law_step","_law_many","_law_other"] ["_law_works_here","_law_looks_here","_law_crowd_here","_law_plan"] (Zf Zdl):=⟨rfl,rfl,rfl,by decide +kernel,rfl,by decide +kernel,by decide +kernel⟩
theorem Zkd(T:Txt K mg){R:List PyData->Option PyData}(Zaf:Callee P w K mg base k "_law_split" Zak)(Zbr:Callee P w K mg base k "_law_led" ZaY)(Zd7:Callee P w K mg base k "_law_deep" R)(ZdF:Callee P w K mg base k "_law_whole" Zce)(ZbN:Callee P w K mg base k "_law_there" ZaD){f:Addr}{fd:FuncData}(Fn:Fun K "_law_deep" "_law_deep" Zdl f fd)(hm:mg "_law_deep" = some (.ref f))(hb:Binds K fd ["_law_works_here","_law_looks_here","_law_crowd_here","_law_plan"] []):Callee P w K mg base (k+1) "_law_deep" (HM.fnOf 4 10 (Zd6 R)) :=
 Zu Fn ZaR hm hb λcdv A outer s H E hr=>by
  have hu:=ZK hr;exact(Zh (ZL 4 ZaR.nd (Zn Zaf hr (Zd (Zb 0) (Zd (Zb 1) (Zd (Zb 2) Zk)))))
  (Zh (Zar (ZiY (ZgY (ZcL (ZbB (Zdu T.n_isinstance T.n_tuple (Zb 3)))) (ZhK (Z9 (cNe hr) (ZdO (Zau rfl rfl (N:=["_law_row","_law_works_here","_law_looks_here","_law_crowd_here","_law_plan","_law_some","_law_most","_law_k","_law_step","_law_many","_law_other"]) (ZG (sc:=Zf Zdl) (XN:=["_law_works_here","_law_looks_here","_law_crowd_here","_law_plan","_law_some","_law_most","_law_k","_law_step","_law_many","_law_other"])) (ZS (Zb 3)) (λ_ _ _ _ _=>Za2) (λ_ _ _ _ _=>(ZJ (Zq 0) Zi)))) (ZdO (Zau rfl rfl (N:=["_law_row","_law_works_here","_law_looks_here","_law_crowd_here","_law_plan","_law_some","_law_most","_law_k","_law_step","_law_many","_law_other"]) (ZG (sc:=Zf Zdl) (XN:=["_law_works_here","_law_looks_here","_law_crowd_here","_law_plan","_law_some","_law_most","_law_k","_law_step","_law_many","_law_other"])) (ZS (Zb 4)) (λ_ _ _ _ _=>Za2) (λ_ _ _ _ _=>(ZJ (Zq 0) Zi)))))))) (Zj (Zz ZiX)) ZV)
  (Zh (ZL 5 ZaR.nd Zi)
  (Zh (Za5 6 ZaR.nd rfl rfl (ZbK T.n_range (Zbl T.n_len (Zq 4))) (Zh (ZL 7 ZaR.nd (ZJ (ZaI (ZJ (Zq 3) (Zb 6))) Zi))
  (Zh (ZL 8 ZaR.nd Zi)
  (Zh (Zar (Z9 (ZwE hr) (Zb 7) (Zc7 (Zd Zk4 Zk))) (Zh (Zar (ZiY (ZgY (ZcL (ZbB (Zdu T.n_isinstance T.n_tuple (Zb 7)))) (ZgY (Z9 (cNe hr) (Zbl T.n_len (Zq 7)) Zi) (ZgY (Z9 (cNe hr) (ZJ (Zq 7) Zi) Zk4) (ZhK (ZcL (ZbB (Zn ZdF hr (Zd (ZJ (Zq 7) Zi) Zk))))))))) (Zj (Zz ZiX)) ZV)
  (Zh (ZL 9 ZaR.nd ZbD)
  (Zh (Zar (ZtR cLe cLt Zi (ZJ (Zq 7) Zi) (Zbl T.n_len (ZaI (ZJ (Zq 0) Zi)))) (Zj (ZL 9 ZaR.nd (Zn Zbr hr (Zd (Zb 0) (Zd (ZJ (ZaI (ZJ (Zq 4) (Zb 6))) Zi) (Zd (ZJ (Zq 7) Zi) Zk)))))) ZV)
  (Zh (Zar (Z9 Zoq (Zb 9) ZbD) (Zj (Zz ZiX)) ZV)
  (Zj (ZL 8 ZaR.nd (ZN ZbS Zi (Zn Zd7 hr (Zd (Zb 0) (Zd (Zb 1) (Zd (Zb 9) (Zd (ZJ (Zq 7) Zi) Zk)))))))))))) ZV)
  (Zh (Zar (ZiY (Zsc (Z9 (cEq hr) (Zb 8) Zi) (Zqw (ZiY (ZgY (Z9 (ZwE hr) (Zb 7) (Zc7 (Zd Zk4 Zk))) (ZhK (ZcL (ZbB (Zn ZbN hr (Zd (Zb 0) (Zd (ZJ (ZaI (ZJ (Zq 4) (Zb 6))) Zi) Zk))))))))))) (Zj (Zz ZiX)) ZV)
  (Zj (ZL 5 ZaR.nd (Zsd T.n_max rfl (Zb 5) (Zb 8)))))))))
  (Zj (Zz (Zb 5)))))))
theorem ZnU(T:Txt K mg)(Zaf:Callee P w K mg base k "_law_split" Zak)(Zbr:Callee P w K mg base k "_law_led" ZaY)(ZdF:Callee P w K mg base k "_law_whole" Zce)(ZbN:Callee P w K mg base k "_law_there" ZaD){f0:Addr}{fd0:FuncData}(Fn0:Fun K "_law_deep" "_law_deep" Zdl f0 fd0)(hm0:mg "_law_deep" = some (.ref f0))(hb0:Binds K fd0 ["_law_works_here","_law_looks_here","_law_crowd_here","_law_plan"] [])(n:Nat):Callee P w K mg base (k+1*n+1) "_law_deep" (ZaV n):=by
 induction n with
 | zero=>exact Zu (g:=HM.Zjz) Fn0 ZaR hm0 hb0 λ_ _ _ _ _ _ _=>λ_ _ h=>nomatch h
 | succ n ih=>have e:=Zkd (k:=k+1*n+1) (R:=ZaV n) T (Zaf.mono (by omega)) (Zbr.mono (by omega)) (ih.mono (by omega)) (ZdF.mono (by omega)) (ZbN.mono (by omega)) Fn0 hm0 hb0;exact e.mono (by omega)
theorem ZhQ:Zx ["_law_script","_law_works_here","_law_looks_here","_law_due","_law_found"] ["_law_script"] (Zf Zgt):=⟨rfl,rfl,rfl,by decide +kernel,rfl,by decide +kernel,by decide +kernel⟩
theorem Zvs(T:Txt K mg)(ZgB:Callee P w K mg base k "_law_works" Za7)(ZgC:Callee P w K mg base k "_law_looks" ZcQ)(ZfS:Callee P w K mg base k "_law_fewest" Zcq)(Zjh:Callee P w K mg base k "a_plan" (Zes ap))(Zbb:Callee P w K mg base k "_law_cell" Zao)(Zd7:Callee P w K mg base k "_law_deep" (ZaV 40)){f:Addr}{fd:FuncData}(Fn:Fun K "law" "law" Zgt f fd):ZdK P w K mg base CX0 (k+1) f fd ["_law_script"] (spD K 1 (Zgm ap)) :=
 ZqT Fn ZhQ λcdv A outer s H E hr=>by
  have hu:=ZK hr;exact(Zh (ZL 1 ZhQ.nd (Zn ZgB hr (Zd (Zb 0) (Zd Zi Zk))))
  (Zh (ZL 2 ZhQ.nd (Zn ZgC hr (Zd (Zb 1) (Zd (Zn Zbb hr (Zd (Zb 0) (Zd Zi Zk))) Zk))))
  (Zh (ZL 3 ZhQ.nd (Zn ZfS hr (Zd (Zb 1) (Zd (Zb 2) Zk))))
  (Zh (ZL 4 ZhQ.nd (Zn Zjh hr (Zd (Zb 1) (Zd (Zb 2) Zk))))
  (Zh (Zar (Z9 Zoq (Zb 3) ZbD) (Zj (Zz (ZhJ Zoq (Zb 4) ZbD))) ZV)
  (Zj (Zz (ZeE (Zdu T.n_isinstance T.n_tuple (Zb 4)) (ZeD (ZhJ (cEq hr) (Zn Zd7 hr (Zd (Zb 1) (Zd (Zb 2) (Zd (ZJ (Zq 1) Zi) (Zd (Zb 4) Zk))))) (Zb 3)))))))))))
def FvI(K:Zzp)(t:Nat)(cs:List PyData)(F:Hp)(a:Addr):Prop :=
 (t=0/\cs=[]/\ZBv K Zz7 "deeds_by" = some (some (.ref a)))\/(t=2/\cs=[]/\ZBv K Zz7 "do_step" = some (some (.ref a)))\/(t=1/\Clo K F a (Zw2 Z2) (ZtZ Z2) (Zmc Z2) ["works","looks"] cs)
theorem Zxc:ZkM (Zmc Z2) "part" ["works","looks"]:=⟨rfl,rfl,rfl,by decide +kernel,rfl,by decide +kernel,by decide +kernel⟩
theorem ZwK(T:Txt K mg)(ZdE:Callee P w K mg base k "ways_with" Za9)(qual:Str)(f:Addr)(cd:Value)(clos:List (Str × Addr))(A:Around)(outer:List PySem.Env)(s:Shared)(H:Hp)(hr:Zal k (A.deeper (ZCn qual (Zmc Z2) s.heap.objs.size f cd clos))) :
  XE (Zns P w K mg base ["part","works","looks"] qual (Zmc Z2) f cd clos A outer s H) (ZtZ Z2) (Zo Za9 (Zc (Za 1) (Zc (Za 2) (Zc (Za 0) Zm)))):=by
 have hu:=ZK hr;exact(Zn ZdE hr (Zd (Zb 1) (Zd (Zb 2) (Zd (Zb 0) Zk))))
theorem Zyn(T:Txt K mg)(V:∀t cs F a,FX.fv t cs F a->FvI K t cs F a){f0:Addr}{fd0:FuncData}(Fn0:Fun K "deeds_by" "deeds_by" Zfz f0 fd0)(hm0:mg "deeds_by" = some (.ref f0))(hn0:∀a,ZBv K Zz7 "deeds_by" = some (some (.ref a))->mg "deeds_by" = some (.ref a))(Zhx:Callee P w K mg base (k+1) "deeds_by" Zdj){f1:Addr}{fd1:FuncData}(Fn1:Fun K "do_step" "do_step" Zf5 f1 fd1)(hm1:mg "do_step" = some (.ref f1))(hn1:∀a,ZBv K Zz7 "do_step" = some (some (.ref a))->mg "do_step" = some (.ref a))(Zih:Callee P w K mg base (k+1) "do_step" ZdS)(Lf_ways_with:Callee P w K mg base k "ways_with" Za9):Zc3 P w K mg base (k+1) ap:=by
 constructor
 ·intro t cs F a h A outer s H e0 sub
  rcases V t cs F a h with⟨rfl,rfl,hn⟩ | ⟨rfl,rfl,hn⟩ | ⟨rfl,hC⟩
  ·exact ZqP Fn0 hm0 (hn0 a hn) e0
  ·exact ZqP Fn1 hm1 (hn1 a hn) e0
  ·exact Zxk hC e0 sub
 ·intro t cs F a h A outer s H e0 sub us vs ds d Q hr tb nt rv rs hap kk
  rcases V t cs F a h with⟨rfl,rfl,hn⟩ | ⟨rfl,rfl,hn⟩ | ⟨rfl,hC⟩
  ·exact Zov Zhx (hn0 a hn) e0 sub hr tb nt rv rs hap kk
  ·exact Zov Zih (hn1 a hn) e0 sub hr tb nt rv rs hap kk
  ·exact Zwk Zxc (λ_ _ _ _ _ _=>rfl) (ZwK T Lf_ways_with) hC e0 sub hr tb nt rv rs hap kk
def tlI:List (Addr × Str):=[(234,"coming_from.<locals>.<lambda>")]
@[reducible] def fxI(K:Zzp):FX where
 tl:=tlI
 fv:=FvI K
 sw:=λhF hob h=>by
  rcases h with h | h | h
  ·exact ZAe (h)
  ·exact ZzY (ZAe (h))
  ·exact ZzY (ZzY ((⟨h.1,h.2.sw hF hob⟩)))
 drop:=λh=>by
  rcases h with h | h | h
  ·exact ZAe (h)
  ·exact ZzY (ZAe (h))
  ·exact ZzY (ZzY ((⟨h.1,h.2.drop⟩)))
 mono:=λh s=>by
  rcases h with h | h | h
  ·exact ZAe (h)
  ·exact ZzY (ZAe (h))
  ·exact ZzY (ZzY ((⟨h.1,h.2.mono s⟩)))
structure Def(K:Zzp)(mg:Str->Option Value)(x:Str)(st:Stmt)(ps:List Str):Prop where
 ex:∃f fd,Fun K x x st f fd/\mg x=some (.ref f)/\Binds K fd ps []
theorem ZxD{h:Heap}{x:Str}{st:Stmt}{ps:List Str}{f:Addr}{oc:Value}{od an:Option Addr}{osl:Array (Option Value)}{kV doc pm cdv ct:Value}(X:K.In h)(G:h.Ns Zz7 mg)(a:ZBv K Zz7 x=some (some (.ref f)))
  (l:K.lookup f=some ⟨oc,od,.func (ZAN x x (Zcs st) (Za1 st) (Zf st) .none kV doc pm an cdv ct),osl⟩) (c:ZBA K cdv x=true) (kp:ZAU K (.ref f)=true)
  (b:∀(kV doc pm:Value) (an:Option Addr) (cdv ct:Value) (us:List Value),us.length=ps.length->bindArgs (ZAN x x (Zcs st) (Za1 st) (Zf st) .none kV doc pm an cdv ct) ⟨us,[]⟩=pure (ps.zip us)):Def K mg x st ps :=
 ⟨f,_,ZoL l c kp,ZCe X G a,(ZoL l c kp).binds b⟩
structure Zxh(K:Zzp)(mg:Str->Option Value)(x:Str)(st:Stmt)(ps:List Str)(c T:Addr):Prop where
 ex:∃f fd,Zrn K x x st f fd c/\mg x=some (.ref f)/\Binds K fd ps []/\ZA7 K c T=true
theorem ZvZ{h:Heap}{x:Str}{st:Stmt}{ps:List Str}{f c T:Addr}{oc:Value}{od an:Option Addr}{osl:Array (Option Value)}{kV doc pm cdv ct:Value}(X:K.In h)(G:h.Ns Zz7 mg)(a:ZBv K Zz7 x=some (some (.ref f)))
  (l:K.lookup f=some ⟨oc,od,.func (ZAN x x (Zcs st) (Za1 st) (Zf st) .none kV doc pm an cdv ct),osl⟩) (cc:ZBA K cdv x=true) (kp:ZAU K (.ref f)=true)
  (b:∀(kV doc pm:Value) (an:Option Addr) (cdv ct:Value) (us:List Value),us.length=ps.length->bindArgs (ZAN x x (Zcs st) (Za1 st) (Zf st) .none kV doc pm an cdv ct) ⟨us,[]⟩=pure (ps.zip us)) (e:cdv=.ref c) (hc:ZA7 K c T=true):Zxh K mg x st ps c T:=by
 subst e;exact⟨f,_,Zwj l cc kp,ZCe X G a,.all (b kV doc pm an _ ct),hc⟩
def NsV(K:Zzp)(mg:Str->Option Value)(x:Str):Prop:=(∀a,ZBv K Zz7 x=some (some (.ref a))->mg x=some (.ref a))/\∃f,ZBv K Zz7 x=some (some (.ref f))
theorem Zxi{h:Heap}{x:Str}{f:Addr}(X:K.In h)(G:h.Ns Zz7 mg)(a:ZBv K Zz7 x=some (some (.ref f))):NsV K mg x:=⟨λ_ e=>ZCe X G e,f,a⟩
end
structure Ds(K:Zzp)(mg:Str->Option Value):Prop where
 Zp0:Def K mg "_law_cell" Zhn ["_law_script","_law_k"]
 Zra:Def K mg "_law_mix" Zh8 ["_law_cell_here","_law_prime","_law_many"]
 ZnV:Def K mg "_law_crowd" ZeR ["_law_cell_here","_law_many","_law_least"]
 Zp1:Def K mg "_law_deed" Zho ["_law_cell_here","_law_many"]
 Zp2:Def K mg "_law_walk" Zhp ["_law_cell_here","_law_many"]
 ZnW:Def K mg "_law_works" ZeS ["_law_script","_law_at"]
 ZnX:Def K mg "_law_looks" ZeT ["_law_works_here","_law_cell_here"]
 ZnY:Def K mg "_law_split" ZdC ["_law_works_here","_law_looks_here","_law_crowd_here"]
 Zrb:Def K mg "_law_led" Zh9 ["_law_works_here","_law_crowd_here","_law_deed_here"]
 Zrc:Def K mg "_law_all" ZdU ["_law_works_here","_law_looks_here"]
 ZnZ:Def K mg "_law_there" ZeU ["_law_works_here","_law_crowd_here"]
 Zke:Def K mg "_law_can_within" ZcG ["_law_works_here","_law_looks_here","_law_crowd_here","_law_costs_here"]
 Zn0:Def K mg "_law_costs" Zgs ["_law_works_here","_law_looks_here"]
 Zm8:Def K mg "_law_fewest" Zea ["_law_works_here","_law_looks_here"]
 Zn1:Def K mg "is_number" Zgn ["thing","least","most"]
 Zn2:Def K mg "is_rising" Zgo ["thing","many"]
 Zp3:Def K mg "is_crowd" Zhi ["thing","many"]
 Zsm:Def K mg "is_row" Zja ["thing","least","most"]
 Zrd:Def K mg "is_deed" Zf1 ["thing","many"]
 Zn3:Def K mg "are_deeds" ZeN ["thing","many"]
 Zre:Def K mg "is_look" Zf2 ["thing","many"]
 Zn4:Def K mg "are_looks" ZeO ["thing","many"]
 Zn5:Def K mg "are_works" Zgp ["thing"]
 Zrf:Def K mg "checked" Zh7 ["works"]
 Zp4:Def K mg "looks_of" Zhk ["works"]
 ZkG:Def K mg "checked_looks" Zei ["works","looks"]
 Zrg:Def K mg "seen_in" Zf3 ["works","looks","state"]
 Zsn:Def K mg "parted" Zg2 ["works","looks","crowd"]
 Zji:Def K mg "crowds_in" ZcT ["rows"]
 ZkH:Def K mg "cost_at_worst" Zc5 ["rows","costs"]
 Zkr:Def K mg "deeds_by" Zfz ["way","depths"]
 Zrh:Def K mg "plan_of" Zf4 ["rows","steps"]
 Zle:Def K mg "do_step" Zf5 ["way","steps"]
 Zp5:Def K mg "deeds_of" Zhj ["works"]
 ZlL:Def K mg "can_be_done" ZdT ["works","crowd","deed"]
 Zm9:Def K mg "deeds_with" Zd9 ["works","crowd"]
 Zso:Def K mg "led_to" Zjb ["works","crowd","deed"]
 Zn6:Def K mg "ways_with" ZeQ ["works","looks","crowd"]
 Zlf:Def K mg "reached_from" ZeP ["crowds","ways_for"]
 ZlM:Zxh K mg "coming_from" Z2 ["works","looks","crowd"] 238 234
 Zna:Def K mg "least_cost" Zda ["ways","costs","cost_by"]
 Znb:Def K mg "next_costs" ZfP ["reach","costs","cost_by"]
 Zri:Def K mg "goal_of" Zh6 ["works"]
 Zp6:Def K mg "is_there" Zfx ["works","crowd"]
 Zp7:Def K mg "costs_of" Zdk ["works","reach","cost_by"]
 Zn7:Def K mg "depths_of" Zgq ["works","coming"]
 Zp8:Def K mg "begin_of" Zhl ["works"]
 Zp9:Def K mg "best_way" Zfy ["ways","costs","cost_by"]
 Zqa:Def K mg "steps_of" Zhm ["reach","costs","cost_by","step_by"]
 Zsp:Def K mg "a_plan" Zjc ["works","looks"]
 Zn8:Def K mg "_law_whole" Zgr ["_law_found"]
 Zqb:Def K mg "_law_deep" Zdl ["_law_works_here","_law_looks_here","_law_crowd_here","_law_plan"]
 Nf_deeds_by:NsV K mg "deeds_by"
 Nf_do_step:NsV K mg "do_step"
section
variable[FX]{P:Program}{w:World}{K:Zzp}{mg:Str->Option Value}{base:Heap}{k:Nat}
theorem Zxw(T:Txt K mg)(hV:∀t cs F a,FX.fv t cs F a↔FvI K t cs F a)(hTL:FX.tl=tlI)(Dd:Ds K mg)(bm:BMod base mg){f:Addr}{fd:FuncData}(Fn:Fun K "law" "law" Zgt f fd):ZdK P w K mg base CX0 43 f fd ["_law_script"] (spD K 1 (Zgm ap)):=by
 have Vff_deeds_by:GFn mg "deeds_by" 0:=by obtain⟨h1,g,h2⟩:=Dd.Nf_deeds_by;exact⟨g,h1 g h2,λF=>(hV _ _ _ _).mpr (ZAe (⟨rfl,rfl,h2⟩))⟩
 have Vff_do_step:GFn mg "do_step" 2:=by obtain⟨h1,g,h2⟩:=Dd.Nf_do_step;exact⟨g,h1 g h2,λF=>(hV _ _ _ _).mpr (ZzY (ZAe (⟨rfl,rfl,h2⟩)))⟩
 have Zbb:Callee P w K mg base 1 "_law_cell" Zao:=by obtain⟨f,fd,F,m,b⟩:=Dd.Zp0.ex;exact ZnD T  F m b
 have ZP:Callee P w K mg base 1 "_law_mix" ZO:=by obtain⟨f,fd,F,m,b⟩:=Dd.Zra.ex;exact ZpJ T  F m b
 have ZeV:Callee P w K mg base 2 "_law_crowd" ZbL:=by obtain⟨f,fd,F,m,b⟩:=Dd.ZnV.ex;exact ZmL T (ZP.mono (by decide)) F m b
 have Zhq:Callee P w K mg base 2 "_law_deed" Zde:=by obtain⟨f,fd,F,m,b⟩:=Dd.Zp1.ex;exact ZnE T (ZP.mono (by decide)) F m b
 have Zhr:Callee P w K mg base 2 "_law_walk" Zdf:=by obtain⟨f,fd,F,m,b⟩:=Dd.Zp2.ex;exact ZnF T (ZP.mono (by decide)) F m b
 have ZgB:Callee P w K mg base 3 "_law_works" Za7:=by obtain⟨f,fd,F,m,b⟩:=Dd.ZnW.ex;exact ZmM T (Zbb.mono (by decide)) (ZeV.mono (by decide)) (ZP.mono (by decide)) (Zhq.mono (by decide)) (Zhr.mono (by decide)) F m b
 have ZgC:Callee P w K mg base 2 "_law_looks" ZcQ:=by obtain⟨f,fd,F,m,b⟩:=Dd.ZnX.ex;exact ZmO T (ZP.mono (by decide)) F m b
 have Zaf:Callee P w K mg base 1 "_law_split" Zak:=by obtain⟨f,fd,F,m,b⟩:=Dd.ZnY.ex;exact ZmP T  F m b
 have Zbr:Callee P w K mg base 1 "_law_led" ZaY:=by obtain⟨f,fd,F,m,b⟩:=Dd.Zrb.ex;exact ZpK T  F m b
 have Zia:Callee P w K mg base 2 "_law_all" ZeL:=by obtain⟨f,fd,F,m,b⟩:=Dd.Zrc.ex;exact ZpL T (Zaf.mono (by decide)) (Zbr.mono (by decide)) F m b
 have ZbN:Callee P w K mg base 1 "_law_there" ZaD:=by obtain⟨f,fd,F,m,b⟩:=Dd.ZnZ.ex;exact ZmR T  F m b
 have Zd0:Callee P w K mg base 2 "_law_can_within" Zb1:=by obtain⟨f,fd,F,m,b⟩:=Dd.Zke.ex;exact Zjd T (Zbr.mono (by decide)) (Zaf.mono (by decide)) F m b
 have Zgu:Callee P w K mg base 3 "_law_costs" Zdy:=by obtain⟨f,fd,F,m,b⟩:=Dd.Zn0.ex;exact ZmS T (Zia.mono (by decide)) (ZbN.mono (by decide)) (Zd0.mono (by decide)) F m b
 have ZfS:Callee P w K mg base 4 "_law_fewest" Zcq:=by obtain⟨f,fd,F,m,b⟩:=Dd.Zm8.ex;exact ZlG T (Zgu.mono (by decide)) (Zaf.mono (by decide)) F m b
 have Zbs:Callee P w K mg base 1 "is_number" Za6:=by obtain⟨f,fd,F,m,b⟩:=Dd.Zn1.ex;exact ZmU T  F m b
 have ZaE:Callee P w K mg base 2 "is_rising" Zad:=by obtain⟨f,fd,F,m,b⟩:=Dd.Zn2.ex;exact ZmV T (Zbs.mono (by decide)) F m b
 have Zhs:Callee P w K mg base 3 "is_crowd" Zdd:=by obtain⟨f,fd,F,m,b⟩:=Dd.Zp3.ex;exact ZnH T (ZaE.mono (by decide)) F m b
 have ZaQ:Callee P w K mg base 1 "is_row" Za3:=by obtain⟨f,fd,F,m,b⟩:=Dd.Zsm.ex;exact Zq6 T  F m b
 have Zib:Callee P w K mg base 3 "is_deed" Zcv:=by obtain⟨f,fd,F,m,b⟩:=Dd.Zrd.ex;exact ZpN T (ZaQ.mono (by decide)) (ZaE.mono (by decide)) F m b
 have Zgv:Callee P w K mg base 4 "are_deeds" ZcN:=by obtain⟨f,fd,F,m,b⟩:=Dd.Zn3.ex;exact ZmX T (ZaQ.mono (by decide)) (Zib.mono (by decide)) F m b
 have Zic:Callee P w K mg base 2 "is_look" Zcw:=by obtain⟨f,fd,F,m,b⟩:=Dd.Zre.ex;exact ZpP T (ZaQ.mono (by decide)) (Zbs.mono (by decide)) F m b
 have Zgw:Callee P w K mg base 3 "are_looks" ZcO:=by obtain⟨f,fd,F,m,b⟩:=Dd.Zn4.ex;exact ZmZ T (ZaQ.mono (by decide)) (Zic.mono (by decide)) F m b
 have Zgx:Callee P w K mg base 5 "are_works" ZcP:=by obtain⟨f,fd,F,m,b⟩:=Dd.Zn5.ex;exact Zm0 T (Zhs.mono (by decide)) (ZaE.mono (by decide)) (ZaQ.mono (by decide)) (Zbs.mono (by decide)) (Zgv.mono (by decide)) (Zgw.mono (by decide)) F m b
 have Zig:Callee P w K mg base 6 "checked" ZdP:=by obtain⟨f,fd,F,m,b⟩:=Dd.Zrf.ex;exact ZpR T (Zgx.mono (by decide)) F m b
 have Zdm:Callee P w K mg base 1 "looks_of" Zb9:=by obtain⟨f,fd,F,m,b⟩:=Dd.Zp4.ex;exact ZnJ T  F m b
 have Zej:Callee P w K mg base 3 "checked_looks" ZbE:=by obtain⟨f,fd,F,m,b⟩:=Dd.ZkG.ex;exact Zkb T (ZaE.mono (by decide)) (Zdm.mono (by decide)) F m b
 have Zie:Callee P w K mg base 2 "seen_in" ZdQ:=by obtain⟨f,fd,F,m,b⟩:=Dd.Zrg.ex;exact ZpT T (Zdm.mono (by decide)) F m b
 have Zcx:Callee P w K mg base 3 "parted" Zbm:=by obtain⟨f,fd,F,m,b⟩:=Dd.Zsn.ex;exact Zq7 T (Zie.mono (by decide)) F m b
 have ZbO:Callee P w K mg base 1 "crowds_in" ZT:=by obtain⟨f,fd,F,m,b⟩:=Dd.Zji.ex;exact Zm1 T  F m b
 have Zgy:Zez P w K mg base 1 "crowds_in" ZT:=by obtain⟨f,fd,F,m,b⟩:=Dd.Zji.ex;exact ZlH T  F m b
 have ZbG:Callee P w K mg base 2 "cost_at_worst" Zae:=by obtain⟨f,fd,F,m,b⟩:=Dd.ZkH.ex;exact Zkc T (ZbO.mono (by decide)) F m b
 have Zhx:Callee P w K mg base 3 "deeds_by" Zdj:=by obtain⟨f,fd,F,m,b⟩:=Dd.Zkr.ex;exact ZnK T (ZbG.mono (by decide)) F m b
 have ZdV:Callee P w K mg base 1 "plan_of" Zb6:=by obtain⟨f,fd,F,m,b⟩:=Dd.Zrh.ex;exact ZpV T  F m b
 have Zih:Callee P w K mg base 2 "do_step" ZdS:=by obtain⟨f,fd,F,m,b⟩:=Dd.Zle.ex;exact ZpX T (ZdV.mono (by decide)) F m b
 have ZbJ:Callee P w K mg base 1 "deeds_of" Zbp:=by obtain⟨f,fd,F,m,b⟩:=Dd.Zp5.ex;exact ZnM T  F m b
 have Zfd:Callee P w K mg base 2 "can_be_done" Zcc:=by obtain⟨f,fd,F,m,b⟩:=Dd.ZlL.ex;exact Zlb T (ZbJ.mono (by decide)) F m b
 have ZfR:Callee P w K mg base 3 "deeds_with" Zcn:=by obtain⟨f,fd,F,m,b⟩:=Dd.Zm9.ex;exact ZlJ T (Zfd.mono (by decide)) (ZbJ.mono (by decide)) F m b
 have Zjf:Callee P w K mg base 2 "led_to" Zdv:=by obtain⟨f,fd,F,m,b⟩:=Dd.Zso.ex;exact Zq8 T (ZbJ.mono (by decide)) F m b
 have ZdE:Callee P w K mg base 4 "ways_with" Za9:=by obtain⟨f,fd,F,m,b⟩:=Dd.Zn6.ex;exact Zm3 T (Zcx.mono (by decide)) (ZfR.mono (by decide)) (Zjf.mono (by decide)) F m b
 obtain⟨f0,fd0,F0,m0,b0⟩:=Dd.Zkr.ex;obtain⟨f1,fd1,F1,m1,b1⟩:=Dd.Zle.ex;have CV:Zc3 P w K mg base 5 ap:=Zyn (k:=4) T (λt cs F a h=>(hV t cs F a).mp h) F0 m0 Dd.Nf_deeds_by.1 (Zhx.mono (by decide)) F1 m1 Dd.Nf_do_step.1 (Zih.mono (by decide)) (ZdE.mono (by decide));have ZeX:Callee P w K mg base 6 "reached_from" (ZbW ap):=by obtain⟨f,fd,F,m,b⟩:=Dd.Zlf.ex;exact ZkF T (ZbO.mono (by decide)) (Zgy.mono (by decide)) (CV.mono (by decide)) F m b
 have Zfe:Callee P w K mg base 7 "coming_from" (ZcR ap):=by obtain⟨f,fd,F,m,b,hc⟩:=Dd.ZlM.ex;exact Zld T (ZeX.mono (by decide)) (ZbO.mono (by decide)) (Zcx.mono (by decide)) (ZdE.mono (by decide)) hc (by rw[hTL]; decide) (by rw[hTL]; intro q h; simpa [tlI]using h) bm (λF p cs h=>(hV _ _ _ _).mpr (ZzY (ZzY ((⟨rfl,h⟩))))) F m b
 have Zcr:Callee P w K mg base 6 "least_cost" (ZaU ap):=by obtain⟨f,fd,F,m,b⟩:=Dd.Zna.ex;exact ZlK T  (CV.mono (by decide)) F m b
 have Gf_next_costs:ZeB P w K mg base 7 "next_costs" (ZbA ap):=by obtain⟨f,fd,F,m,b⟩:=Dd.Znb.ex;exact Zlz T (Zcr.mono (by decide)) F m b
 have Zif:Callee P w K mg base 1 "goal_of" ZdR:=by obtain⟨f,fd,F,m,b⟩:=Dd.Zri.ex;exact ZpZ T  F m b
 have Zht:Callee P w K mg base 2 "is_there" ZbI:=by obtain⟨f,fd,F,m,b⟩:=Dd.Zp6.ex;exact ZnO T (Zif.mono (by decide)) F m b
 have Zhu:Callee P w K mg base 8 "costs_of" (Zdi ap):=by obtain⟨f,fd,F,m,b⟩:=Dd.Zp7.ex;exact ZnP T (Zht.mono (by decide)) (Gf_next_costs.mono (by decide)) F m b
 have ZgA:Callee P w K mg base 9 "depths_of" (ZcS ap):=by obtain⟨f,fd,F,m,b⟩:=Dd.Zn7.ex;exact Zm5 T (Zhu.mono (by decide)) Vff_deeds_by F m b
 have ZfB:Callee P w K mg base 1 "begin_of" Zdh:=by obtain⟨f,fd,F,m,b⟩:=Dd.Zp8.ex;exact ZnR T  F m b
 have Zhv:Callee P w K mg base 7 "best_way" (Zba ap):=by obtain⟨f,fd,F,m,b⟩:=Dd.Zp9.ex;exact ZnS T (Zcr.mono (by decide)) (CV.mono (by decide)) F m b
 have Zhw:Callee P w K mg base 8 "steps_of" (Zd5 ap):=by obtain⟨f,fd,F,m,b⟩:=Dd.Zqa.ex;exact ZnT T (Zhv.mono (by decide)) (CV.mono (by decide)) F m b
 have Zjh:Callee P w K mg base 10 "a_plan" (Zes ap):=by obtain⟨f,fd,F,m,b⟩:=Dd.Zsp.ex;exact Zq9 T (Zig.mono (by decide)) (Zej.mono (by decide)) (Zcx.mono (by decide)) (Zfe.mono (by decide)) (ZgA.mono (by decide)) (ZdV.mono (by decide)) (ZfB.mono (by decide)) (ZbG.mono (by decide)) (Zhw.mono (by decide)) Vff_deeds_by Vff_do_step F m b
 have ZdF:Callee P w K mg base 1 "_law_whole" Zce:=by obtain⟨f,fd,F,m,b⟩:=Dd.Zn8.ex;exact Zm7 T  F m b
 obtain⟨f0,fd0,F0,m0,b0⟩:=Dd.Zqb.ex;have Zd7:Callee P w K mg base 42 "_law_deep" (ZaV 40):=ZnU (k:=1) T (Zaf.mono (by decide)) (Zbr.mono (by decide)) (ZdF.mono (by decide)) (ZbN.mono (by decide)) F0 m0 b0 40;exact Zvs (k:=42) T (ZgB.mono (by decide)) (ZgC.mono (by decide)) (ZfS.mono (by decide)) (Zjh.mono (by decide)) (Zbb.mono (by decide)) (Zd7.mono (by decide)) Fn
end
theorem all_mk{l:ZDZ}{w:World}{K:Zzp}{h:Heap}{mg:Str->Option Value}{fa f4:Addr}{od4 an4:Option Addr}{sl4:Array (Option Value)}{oc4 kV4 dc4 pm4 cd4 ct4:Value}(X:K.In h)(G:h.Ns Zz7 mg)(hfa:mg "law" = some (.ref fa))
  (T:Txt K mg) (Dd:Ds K mg) (a4:ZBv K Zz7 "law" = some (some (.ref f4)))
  (l4:K.lookup f4=some ⟨oc4,od4,.func (ZAN "law" "law" (Zcs Zgt) (Za1 Zgt) (Zf Zgt) .none kV4 dc4 pm4 an4 cd4 ct4),sl4⟩) (c4:ZBA K cd4 "law" = true) (k4:ZAU K (.ref f4)=true) :
  ∃fd:FuncData,(∀(s:Shared) (v:Value),BindsTo s fd ⟨[v],[]⟩ [("_law_script",v)])/\∀base:Heap,K.In base->base.Ns Zz7 mg->BMod base mg->ZdK l.prog w K mg base CX0 43 fa fd ["_law_script"] (@spD (fxI K) K 1 (Zgm ap)):=by
 have e:=hfa.symm.trans (ZCe X G a4);cases e;have fx0:FX:=FX0;exact⟨_,λs v=>.of_eq rfl,λbase _ _ bm=>@Zxw (fxI K) _ _ _ _ _ T (λ_ _ _ _=>Iff.rfl) rfl Dd bm _ _ (ZoL (st:=Zgt) l4 c4 k4)⟩
theorem walk{l:ZDZ}{q:Program}{loose:List Str}{XP:(Str->Option Value)->Heap->Prop}{YP:World->Heap->Prop}{d:DefRec}{K:Params->Zzp}(hn:l.most=some 63)(hdf:d.params.defaults=[])
  (ZkU:∀ns:List Int,ns.length<=63->(Zgm ap) [.list (HM.ofInts ns)]=some (.bool true)) (hY:∀(w:World) (h:Heap),YP w h->(K w.params).In h) (hYT:∀(w:World) (h:Heap),YP w h->∀q∈([(238,234)]:List (Addr × Addr)),h.get? q.2=some (ZB6 #[]))
  (hT:∀(w:World),∀q∈([(238,234)]:List (Addr × Addr)),ZA7 (K w.params) q.1 q.2=true/\(K w.params).lookup q.2=none)
  (F:∀(w:World) (mg:Str->Option Value) (fa:Addr) (h:Heap),(K w.params).In h->h.Ns Zz7 mg->mg d.name=some (.ref fa) ->
   ∃fd:FuncData,(∀(s:Shared) (u:Value),BindsTo s fd ⟨[u],[]⟩ [("_law_script",u)])/\∀base:Heap,(K w.params).In base->base.Ns Zz7 mg->BMod base mg->ZdK l.prog w (K w.params) mg base CX0 43 fa fd ["_law_script"] (@spD (fxI (K w.params)) (K w.params) 1 (Zgm ap))) :
  PySem.W.WalkO q loose XP YP l.row.toRowW d [] (λf vs=>PySem.call f vs) :=
 Zu5 (n:=63) (k:=43) (x:="_law_script") (sp:=λw=>@spD (fxI (K w.params)) (K w.params) 1 (Zgm ap)) (tabs:=[(238,234)]) hn (by decide) hdf ⟨rfl,by decide,by decide⟩ hY hYT hT F λw H a ns hl hO hS=>@ZwC (fxI (K w.params)) _ _ _ _ _ _ hO (λT q h=>by
  have:∀p∈tlI,p.1∈([(238,234)]:List (Addr × Addr)).map (·.2):=by decide
  exact this _ h) hS (ZkU ns hl)
section
variable{P:Program}{w:World}{K:Zzp}{mg:Str->Option Value}{base:Heap}{k:Nat}
abbrev Zy3{K:Zzp}{h:Heap}(_:K.In h)(mg:Str->Option Value):Prop:=Ds K mg
abbrev Zyo{K:Zzp}{h:Heap}(_:K.In h)(mg:Str->Option Value):Prop:=Txt K mg
theorem int_mk{mg:Str->Option Value}{n:Str}{v:Value}{k:Int}(h:mg n=some v)(e:∃t,v=.int k t):∃t,mg n=some (.int k t):=by obtain⟨t,rfl⟩:=e;exact⟨t,h⟩
abbrev ZxE{K:Zzp}{h:Heap}(_:K.In h)(a:Addr)(ds:List L2.V):Prop:=HP.ZoK K a ds
theorem Zw3{K:Zzp}{mg:Str->Option Value}{n y:Str}{a:Addr}{o:Obj}(h:mg n=some (.ref a))(l:K.lookup a=some o)(e:∃t m d,o={ cls:=.type "tuple",data:=.seq #[.str y t] m,dict:=d }):∃a,mg n=some (.ref a)/\HP.ZoK K a [.str y]:=by obtain⟨t,m,d,rfl⟩:=e;exact⟨a,h,_,_,_,l,rfl,rfl,(show 1<=sizeLine by decide),.cons ⟨t,rfl⟩ .nil⟩
end
end HT
namespace PySem.W.Fast
theorem tw1086015758101868509:True:=⟨⟩
theorem tw11148064506128879940:True:=⟨⟩
theorem tw11640077906290988818:True:=⟨⟩
theorem tw11814002251969582713:True:=⟨⟩
theorem tw11939032325623686593:True:=⟨⟩
theorem tw12750973211713679156:True:=⟨⟩
theorem tw12989363162598557448:True:=⟨⟩
theorem tw1337442597114237874:True:=⟨⟩
theorem tw13459232333146120602:True:=⟨⟩
theorem tw13580865647107521831:True:=⟨⟩
theorem tw13672475199126356543:True:=⟨⟩
theorem tw14077877466833941872:True:=⟨⟩
theorem tw14209660926370599921:True:=⟨⟩
theorem tw14242591297700980425:True:=⟨⟩
theorem tw15075426980708463416:True:=⟨⟩
theorem tw15207882715629109192:True:=⟨⟩
theorem tw1546860028607857879:True:=⟨⟩
theorem tw16190592647697937401:True:=⟨⟩
theorem tw17209771520066108570:True:=⟨⟩
theorem tw17664126963670680113:True:=⟨⟩
theorem tw17801305186890685367:True:=⟨⟩
theorem tw17954299762094899837:True:=⟨⟩
theorem tw18269399147265448209:True:=⟨⟩
theorem tw18358778592272012338:True:=⟨⟩
theorem tw293163482381226579:True:=⟨⟩
theorem tw3347674287118476092:True:=⟨⟩
theorem tw3543946761432148370:True:=⟨⟩
theorem tw3991771342800481899:True:=⟨⟩
theorem tw4667112958531177743:True:=⟨⟩
theorem tw4735953400556231704:True:=⟨⟩
theorem tw4892465878651208005:True:=⟨⟩
theorem tw5020732435031966205:True:=⟨⟩
theorem tw5894765523792972400:True:=⟨⟩
theorem tw6107433212834208311:True:=⟨⟩
theorem tw6606831272201735441:True:=⟨⟩
theorem tw6697319217526743424:True:=⟨⟩
theorem tw786454625209337311:True:=⟨⟩
theorem tw8035405949984985530:True:=⟨⟩
theorem tw8639611937732999999:True:=⟨⟩
theorem tw8881359514361812402:True:=⟨⟩
theorem tw91159731058103039:True:=⟨⟩
theorem tw9204640567057085777:True:=⟨⟩
theorem tw9477681478320545095:True:=⟨⟩
theorem tw9703973445998819798:True:=⟨⟩
theorem tw9844056533801775950:True:=⟨⟩
end PySem.W.Fast
open PySem PySem.W PyProof.Rows
set_option maxRecDepth 100000 in
set_option maxHeartbeats 0 in
theorem PySem.Challenge.cw_halfseen_k06_plans_found_holds : PySem.Challenge.rw_halfseen_k06_plans_found.Holds := by
 w_on; o_law; k_head; (case hw=>w_witness2)
 k_fill
 refine HT.walk (l:=PySem.Challenge.rw_halfseen_k06_plans_found) rfl rfl HG66.ZkU (λw h Y=>PySem.W.km_in_of Y) (λw h Y q hq=>PySem.W.km_tabs_of Y _ (by clear Y; revert q; decide)) ?Tab ?F
 case Tab=>intro w q hq;cases ZzI.mp hq;exact⟨by kernel_rfl,by kernel_rfl⟩
 case F =>
  intro w mg fa h KX G hmg;have fx0:HP.FX:=HP.FX0;have c_DONE:∃a,mg "DONE" = some (.ref a)/\HT.ZxE KX a [.str "done"]:=by
   refine' HT.Zw3 (ZCe KX G ?z) ?l ?e
   (case z=>k_is)
   (case l=>k_is)
   (case e=>exact⟨_,_,_,rfl⟩)
  have T:HT.Zyo KX mg:=by
   refine⟨?_,?_,?_,?_,?_,?_,?_,?_,?_,?_,?_,?_,?_,?_,?_,?_,c_DONE⟩
   all_goals first
    | (refine PySem.W.mg_none_of KX G ?z; (case z=>k_is))
    | (refine' HT.int_mk (ZCe KX G ?z) ?e; (case z=>k_is); (case e=>exact⟨_,rfl⟩))
  have Dd:HT.Zy3 KX mg:=by
   refine⟨?_,?_,?_,?_,?_,?_,?_,?_,?_,?_,?_,?_,?_,?_,?_,?_,?_,?_,?_,?_,?_,?_,?_,?_,?_,?_,?_,?_,?_,?_,?_,?_,?_,?_,?_,?_,?_,?_,?_,?_,?_,?_,?_,?_,?_,?_,?_,?_,?_,?_,?_,?_,?_,?_⟩
   all_goals first
    | (refine' HT.ZxD KX G ?a ?l ?c ?k ?b; (case a=>k_is); (case l=>k_is); (case c=>k_is); (case k=>k_is); (case b=>first | exact λ_ _ _ _ _ _ us hl=>(match us,hl with | [_],_=>rfl) | exact λ_ _ _ _ _ _ us hl=>(match us,hl with | [_,_],_=>rfl) | exact λ_ _ _ _ _ _ us hl=>(match us,hl with | [_,_,_],_=>rfl) | exact λ_ _ _ _ _ _ us hl=>(match us,hl with | [_,_,_,_],_=>rfl)))
    | (refine' HT.ZvZ KX G ?a ?l ?c ?k ?b ?e ?h; (case a=>k_is); (case l=>k_is); (case c=>k_is); (case k=>k_is); (case h=>kernel_rfl); (case e=>exact rfl); (case b=>first | exact λ_ _ _ _ _ _ us hl=>(match us,hl with | [_],_=>rfl) | exact λ_ _ _ _ _ _ us hl=>(match us,hl with | [_,_],_=>rfl) | exact λ_ _ _ _ _ _ us hl=>(match us,hl with | [_,_,_],_=>rfl) | exact λ_ _ _ _ _ _ us hl=>(match us,hl with | [_,_,_,_],_=>rfl)))
    | (refine' HT.Zxi KX G ?z; (case z=>k_is))
  refine' HT.all_mk KX G hmg T Dd ?a4 ?l4 ?c4 ?k4
  (case a4=>k_is); (case l4=>k_is); (case c4=>k_is); (case k4=>k_is)