import PyProof.Rows.All
import Wide.All
import OpenK.AllK
import Wide.FinOn
import Lean
import PyProof.EqAt
import PyProof.EqKinds
import PyProof.TupleCall
import PyProof.P3Statements
import PyProof.P3Eq
import PyProof.NeData
import PyProof.IsiPairs
import PyProof.IsiHeapPairs
import KE.LcSums
import PyProof.IsiNone
import PyProof.DictRoadsH
import PyProof.Rows.SetFrom
import PyProof.DictWalks
import PyProof.Rows.MinMaxN
import PyProof.Rows.SumAny
import PyProof.WalkInts
import PyProof.Draws
import PyProof.EnumMake
import PyProof.TupleIter
import PySem.Challenge.RW_halfseen_k23_least_prices
set_option Elab.async false
set_option linter.all false
set_option maxRecDepth 100000
open List renaming length_map->ZzP,mem_cons_self->ZzT,mem_cons_of_mem->ZzU,range->ZzX,all_eq_true->ZzY,map_cons->ZzZ,mem_singleton->Zz0,mem_map->Zz1,getElem?_eq_getElem->Zz2,getElem?_eq_some_iff->Zz5,mem_cons->Zz7,length_cons->Zz8,length_append->ZAb,size_toArray->ZAd,map_map->ZAe,mem_append_right->ZAg,mem_filter->ZAh,mem_range->ZAi,getElem?_map->ZAk,mem_of_getElem?->ZAo,mem_append->ZAp,map_append->ZAq,getElem?_set_ne->ZAr,replicate->ZAs,length_filter_le->ZAu,mem_append_left->ZAv,getElem?_append_left->ZAw,getElem?_cons_succ->ZAA,mem_filterMap->ZAD,append_nil->ZAE,length->ZAF,getElem?_append_right->ZAG,any_eq_true->ZAH,length_replicate->ZAI,pairwise_cons->ZAK,getElem?_set_self->ZAM,length_range->ZAN,nodup_cons->ZAT,find?_cons->ZAU,all_cons->ZAV,foldl_cons->ZA3,filter_cons->ZA5,filterMap_cons->ZA6,append_assoc->ZA8,length_set->ZBc,exists_mem_of_ne_nil->ZBf,getElem_mem->ZBl,getD->ZBt,map_congr_left->ZBv,filter_eq_self->ZBw,length_take->ZBz,nodup_nil->ZBB,contains_eq_mem->ZBD,replicate_succ->ZBF,any_cons->ZBJ,lookup_cons->ZBK,length_singleton->ZBN,eq_nil_of_length_eq_zero->ZBV,map_nil->ZB4,min?_eq_some_iff->ZB9,flatten_cons->ZCc,nodup_append->ZCd,mem_flatMap->ZCm,getElem_of_mem->ZCo,getElem?_replicate->ZCr,getElem?_cons_zero->ZCs,set_getElem_self->ZCA,min?_eq_none_iff->ZCF,max?_eq_none_iff->ZCG,length_drop->ZCI,mergeSort_perm->ZCO,map_eq_nil_iff->ZCP,nil_append->ZCQ,drop_eq_getElem_cons->ZCR,mem_of_find?_eq_some->ZCS,ne_nil_of_mem->ZC0,pairwise_mergeSort->ZC8,foldl_append->ZDe,max?_eq_some_iff->ZDo,set_set->ZDs,length_pos_iff->ZDB,map->ZDD,filter_append->ZDN,nodup_iff_pairwise_ne->ZDS,exists_cons_of_ne_nil->ZDT,find?_append->ZDX,pairwise_map->ZDZ,find?_isSome->ZD0,pairwise_iff_getElem->ZD4,getElem?_take_of_lt->ZD8,set_eq_of_length_le->ZD9,drop_length->ZEa,cons_append->ZEd,length_filterMap_le->ZEe,filter_cons_of_pos->ZEh,filter_cons_of_neg->ZEi,of_mem_zip->ZEj,length_nil->ZEk,pairwise_lt_range->ZEx,filter_eq_nil_iff->ZEy,getElem?_eq_none->ZEA,dropLast_eq_take->ZEF,all_nil->ZET
open PySem renaming wpAny_bind->ZzQ,wpAny_pure->ZzV,starEach->Zz6,mainGlobals->ZAy,wpAny_newObj_type->ZAO,bootBuiltins->ZAW,wpAny_call_entry->ZA4,compareOp->ZA7,behindInMarks->ZBa,wpAny_holding->ZBb,wpAny_mono->ZBg,foldedSetIterable->ZBh,codeAny_builtin->ZBj,sizeLine_eq->ZBn,mem_of_lookup->ZBu,sysModules->ZBx,wpAny_truthy_bool->ZBE,lookup_relabel_local->ZBR,swapsWith->ZBT,attributeBase->ZBU,wpAny_typeNameOfWhole_keyiter->ZBW,assignEach->ZB0,codeAny_mono->ZB2,wpAny_Call_Name_kw->ZB3,tupleKind_room_in1->ZB5,wpAny_passesOwn->ZB6,wpAny_ite_split->ZB7,plainId_quiet->ZCb,wpAny_setField->ZCi,wpAny_typeNameOf_keyiter->ZCn,firstArgMember->ZCC,wpAny_askSetting->ZCK,sliceBounds->ZCM,keywordEach->ZCN,tupleKind->ZCT,binaryOp->ZCV,wpAny_seqItems->ZC5,wpAny_tryCatch->ZC6,wpAny_dictEntries->ZC9,wpAny_setState_of->ZDb,wpAny_execs_nil->ZDp,letOwnedTupleGo->ZDq,wpAny_newFunctionEnv->ZDv,wpAny_setEntries_of->ZDA,backToKw->ZDC,wpAny_fieldsOf->ZDF,wpAny_of_eq->ZDH,codeAmong->ZDI,wpAny_pyIter_tuple->ZDJ,wpAny_attempt->ZDP,wpAny_pyIter_list->ZDW,wpAny_pyIter_slot->ZDY,builtinsNs->ZD1,call_meets->ZD2,wpAny_rule->ZD3,intKind_is->ZD5,wpAny_isInstance->ZEb,pickOrder->ZEm,wpAny_dictEpoch->ZEn,wpAny_updateSeq->ZEp,subscripted->ZEs,wpAny_letGo->ZEv,wpAny_field->ZEw
open Option renaming map_eq_some_iff->ZzR,isSome_iff_exists->ZAt,isSome_map->ZBs,map->ZBC,isSome->ZCL,bind_eq_some_iff->ZC7
open PySem.W renaming Frag->ZzS,fnOf->ZBi,codeHdIn->ZBm,keepIn->ZBo,nsIn->ZBS,codeIn->ZBY,envX->ZCD,tabObj->ZCE,mg_of->ZDk,kla_obj->ZDx,methodObj->ZDU,OpenLaw->ZEq,cellsFrom_some->ZEr,codeHd_of_K->ZEN,callWith_K->ZEQ,FnAt->ZES
open PySem.Heap renaming get?_push_of_some->ZzW,lt_size->Zz9,get?_push_size->ZAa,get?_update_self->ZAZ,get?_update_other->ZBp,SameBut->ZBG,size_push->ZBZ,get?_push_ne->ZCz,size_update->ZDm
open Nat renaming le_refl->Zz3,ne_of_lt->ZAf,lt_of_lt_of_le->ZAn,le_trans->ZAR,zero_le->ZBq,lt_irrefl->ZBI,le_of_lt->ZBP,lt_trans->ZBQ,le_of_not_lt->ZCk,lt_succ_self->ZCl,lt_succ_of_lt->ZCy,ne_of_gt->ZCU,blt_eq->ZC3,le_of_eq->ZDu,pow_le_pow_right->ZDz,min_le_left->ZEl,le_succ->ZEu
open PySem.SetTable renaming below->Zz4,insertAt->ZAl,insertAt_perm->ZBH,tooFull->ZCJ,toList_insertAt->ZCZ,fits->ZDh,fill->ZDi,turns->ZEB,bits->ZEI
open Bool renaming and_eq_true->ZAc,false_ne_true->ZAC,or_eq_true->ZBd,false_eq_true->ZBO,eq_iff_iff->ZDw,false_or->ZEH,true_and->ZEK
open Or renaming inr->ZAj,inl->ZAB
open Array renaming length_toList->ZAm,getElem?_toList->ZAP,getD->ZB1,toList_push->ZCe,getElem?_eq_getElem->ZCg,getElem?_eq_none->ZDf,perm_iff_toList_perm->ZDQ
open PySem.PyData renaming int->ZAx,tuple->ZAJ,eqv->ZA1,bool->ZBk,canLayAll0->ZCx,depthAll->ZDy,eqvAll->ZDR,list->ZEz
open Option.some renaming inj->ZAz
open PySem.Value renaming ref->ZAL,none->ZAQ,int->ZBM,type->ZCf
open PySem.Heap.SameBut renaming update->ZAS,refl->ZEU
open PySem.Str renaming ofString->ZAX
open False renaming elim->ZAY
open Ne renaming symm->ZA0
open PySem.Around renaming under_plainId->ZA2,frames_deeper->ZEG
open Int renaming toNat_natCast->ZA9,toNat_of_nonneg->ZCp
open PySem.Obj renaming data_mapFields->ZBe,isFreed_of_fields->ZCB,mapSeq->ZC1,putSet->ZC4,cls_mapFields->ZDc,mapFields->ZEJ
open PySem.F renaming plain_min_loop->ZBr,called_set->ZBA,plainAttrs_list->ZBX,plain_list_iadd->ZCt,slot_list_append->ZCX,type_list_append->ZCY,entry_min_loop->ZDg,slot_dict_get->ZDn,slot_dict_setdefault->ZDE,plain_proto_collect->ZDL,args_dict_get_2->ZEf,plainAttrs_dict->ZEg,entry_dict_get->ZEt,plain_set_new->ZEC,slot_set_iter->ZED
open List.Nodup renaming length_le_of_subset->ZBy
open Sum renaming inl->ZBL,inr->ZD7
open PyProof.Rows.KeyOrd renaming kle_of_not_klt->ZB8,kle_refl->ZCv,kle_of_klt->ZDd,kle_trans->ZDl,kle_antisymm->ZEL
open PySem.NameKind renaming free->ZCa
open PySem.Builtin.SmallTypes renaming nextOf->ZCh
open PySem.Builtin.List renaming listTooLong->ZCj,listLengthHint->ZDK,listExtendWith->ZDM
open PySem.Builtin.Range renaming rangeSize->ZCq,small->ZEM
open PySem.Paired renaming length->ZCu
open PySem.Calls renaming callWith_builtin->ZCw,spliced_cons->ZCW,evalArgs_plain->ZDr,Name_function_global->ZDO,spliced_nil->ZDV,call_function_entry->ZD6
open PyProof.Rows renaming callWith_type1->ZCH,entry_list_sort->ZEo
open True renaming intro->ZC2
open PySem.SetTable.below renaming go->ZDa
open Function renaming comp->ZDj
open ForInStep renaming yield->ZDt
open PySem.Builtin.Dict_items renaming ownsTuple->ZDG
open PySem.Builtin.Tuple renaming tupleExact->ZEc
open PySem.Builtin.Dict renaming showsAll->ZEE
open PySem.SeqAt.EqAt renaming int_str->ZEO,str_int->ZEP
open PySem.Expr renaming Call->ZER
namespace L2
open PySem PySem.Spec PyProof.Rows
abbrev Key:=Sum Int Str
def Zis:Key->Value->Bool
 | .inl k,v=>Value.isInt k v
 | .inr x,v=>Value.isStrOf x v
def Zzu(w:World):Key->Int
 | .inl k=>hashInt k
 | .inr x=>hashStr w x
theorem Zbp:∀{k:Key} {v:Value},Zis k v=true->(∃i t,k=ZBL i/\v=ZBM i t)\/(∃x t,k=ZD7 x/\v=Value.str x t)
 | .inl i,v,h=>by obtain⟨t,e⟩:=Value.isInt_shape (k:=i) (v:=v) h;exact .inl ⟨i,t,rfl,e⟩
 | .inr x,v,h=>by obtain⟨t,e⟩:=Value.isStrOf_shape (x:=x) (v:=v) h;exact .inr ⟨x,t,rfl,e⟩
theorem Zti(i:Int)(t:Tok):Zis (.inl i) (.int i t)=true:=by simp[Zis,Value.isInt]
theorem Zs6(x:Str)(t:Tok):Zis (.inr x) (.str x t)=true:=by simp[Zis,Value.isStrOf]
theorem Zxe(a b:Int):decide ((ZBL a:Key)=ZBL b)=(a==b):=by
 by_cases e:a=b
 ·subst e; simp
 ·have h:¬(ZBL a:Key)=ZBL b:=λq=>e (Sum.inl.inj q)
  rw[decide_eq_false h];exact(beq_eq_false_iff_ne.mpr e).symm
theorem ZwW(a b:Str):decide ((ZD7 a:Key)=ZD7 b)=decide (a=b):=by
 by_cases e:a=b
 ·subst e; simp
 ·have h:¬(ZD7 a:Key)=ZD7 b:=λq=>e (Sum.inr.inj q)
  rw[decide_eq_false h,decide_eq_false e]
theorem ZxK(a:Int)(b:Str):decide ((ZBL a:Key)=ZD7 b)=false:=decide_eq_false (λq=>nomatch q)
theorem Zxo(a:Str)(b:Int):decide ((ZD7 a:Key)=ZBL b)=false:=decide_eq_false (λq=>nomatch q)
def ZaA(prog:Program)(w:World):PySem.KeyKind prog w Key where
 is:=Zis
 hash:=Zzu w
 inj:=λv a b ha hb=>by
  rcases Zbp ha with⟨i,t,rfl,rfl⟩ | ⟨x,t,rfl,rfl⟩
  ·rcases Zbp hb with⟨j,u,rfl,e⟩ | ⟨y,u,rfl,e⟩
   ·injection e with e1 _; rw[e1]
   ·exact nomatch e
  ·rcases Zbp hb with⟨j,u,rfl,e⟩ | ⟨y,u,rfl,e⟩
   ·exact nomatch e
   ·injection e with e1 _; rw[e1]
 byValue:=λk v h=>by rcases Zbp h with⟨i,t,rfl,rfl⟩ | ⟨x,t,rfl,rfl⟩<;>rfl
 pyHash:=λhv h=>by
  rcases Zbp hv with⟨i,t,rfl,rfl⟩ | ⟨x,t,rfl,rfl⟩
  ·exact wpAny_pyHash_int h
  ·exact wpAny_pyHash_str h
 eqBool:=λhu hv h=>by
  rcases Zbp hu with⟨i,t,rfl,rfl⟩ | ⟨x,t,rfl,rfl⟩
  ·rcases Zbp hv with⟨j,u,rfl,rfl⟩ | ⟨y,u,rfl,rfl⟩
   ·rw[Zxe]at h; exact wpAny_eqBool_int h
   ·rw[ZxK]at h; exact ZEO i t y u _ _ _ _ h
  ·rcases Zbp hv with⟨j,u,rfl,rfl⟩ | ⟨y,u,rfl,rfl⟩
   ·rw[Zxo]at h; exact ZEP x t j u _ _ _ _ h
   ·rw[ZwW]at h; exact wpAny_eqBool_str h
 «strs»:=λk x t v h=>by
  rcases Zbp h with⟨i,u,rfl,e⟩ | ⟨y,u,rfl,e⟩
  ·exact nomatch e
  ·injection e with e1 _
   subst e1;cases v<;>rfl
theorem Zr5(prog:Program)(w:World)(k:Key)(v:Value):(ZaA prog w).is k v=Zis k v:=rfl
theorem ZqN(prog:Program)(w:World)(i:Int)(t:Tok):(ZaA prog w).is (.inl i) (.int i t)=true:=Zti i t
theorem ZqW(prog:Program)(w:World)(x:Str)(t:Tok):(ZaA prog w).is (.inr x) (.str x t)=true:=Zs6 x t
end L2
namespace L2
open PySem PySem.Spec PyProof.Rows
variable{a b:Addr}{o:HO}{h:Heap}{H:Hp}
inductive V where
 | non | bl (b:Bool) | int (i:Int) | str (x:Str) | byt (b:Array UInt8) | flt (b:UInt64) | ref (a:Addr) | ty (n:String)
 deriving DecidableEq
def RelV:V->Value->Prop
 | .non,u=>u=ZAQ
 | .bl b,u=>u=Value.bool b
 | .int i,u=>∃t,u=ZBM i t
 | .str x,u=>∃t,u=Value.str x t
 | .byt b,u=>∃t,u=Value.bytes b t
 | .flt b,u=>∃t,u=Value.float b t
 | .ref a,u=>u=ZAL a
 | .ty n,u=>u=ZCf n
abbrev Vals:List V->List Value->Prop:=Paired RelV
theorem Vals.length{xs:List V}{us:List Value}(r:Vals xs us):xs.length=us.length:=ZCu r
theorem Vals.get:∀{xs:List V} {us:List Value} {i:Nat} {x:V},Vals xs us->xs[i]?=some x->∃u,us[i]?=some u/\RelV x u
 | _,_,_,_,.nil,e=>by simp at e
 | _,_,0,_,.cons r _,e=>by simp at e; subst e; exact⟨_,rfl,r⟩
 | _,_,i+1,x,.cons _ t,e=>by obtain⟨u,h1,h2⟩:=Vals.get (i:=i) (x:=x) t (by simpa using e);exact⟨u,by simpa using h1,h2⟩
theorem Vals.set{x:V}{u:Value}(r:RelV x u):∀{xs:List V} {us:List Value} (i:Nat),Vals xs us->Vals (xs.set i x) (us.set i u)
 | _,_,_,.nil=>.nil
 | _,_,0,.cons _ t=>.cons r t
 | _,_,i+1,.cons q t=>.cons q (Vals.set r i t)
theorem Vals.append:∀{xs ys:List V} {us ws:List Value},Vals xs us->Vals ys ws->Vals (xs++ys) (us++ws)
 | _,_,_,_,.nil,s=>s
 | _,_,_,_,.cons r t,s=>.cons r (Vals.append t s)
theorem Vals.take:∀{xs:List V} {us:List Value} (n:Nat),Vals xs us->Vals (xs.take n) (us.take n)
 | _,_,0,_=>.nil
 | _,_,_+1,.nil=>.nil
 | _,_,n+1,.cons r t=>.cons r (Vals.take n t)
theorem Vals.drop:∀{xs:List V} {us:List Value} (n:Nat),Vals xs us->Vals (xs.drop n) (us.drop n)
 | _,_,0,r=>r
 | _,_,_+1,.nil=>.nil
 | _,_,n+1,.cons _ t=>Vals.drop n t
def ZfT:Option V->Option Value->Prop
 | some v,some u=>RelV v u
 | none,none=>True
 | _,_=>False
def KV{κ:Type}:List (κ × V)->List (κ × Value)->Prop:=Paired λ(p:κ × V) (q:κ × Value)=>p.1=q.1/\RelV p.2 q.2
def kV:Key->V
 | .inl i=>.int i
 | .inr x=>.str x
inductive HO where
 | lst (xs:List V)
 | tup (xs:List V)
 | dK (kvs:List (Key × V)) | dT (kvs:List (List Key × V))
 | set (S:Int->Bool) (n:Nat)
 | ins (C dx:Addr) (fs:List (Str × V))
 | own (x:Addr)
 | xd (fs:List (Str × V))
 | met (f x:Addr)
 | rng (lo hi:Int)
 | frz (o:Obj) (u:HO)
 | tbl (ps:Array Value)
 | ext (φ:Heap->Prop)
abbrev Hp:=Addr->Option HO
def upd(H:Hp)(a:Addr)(o:HO):Hp:=λb=>if b=a then some o else H b
theorem ZF:upd H a o a=some o:=by unfold upd; rw[if_pos rfl]
theorem ZB(h:b≠a):upd H a o b=H b:=by unfold upd; rw[if_neg h]
theorem ZvI{u:HO}(h:H a=some o)(h':H b=some u)(d:o≠u):a≠b:=by intro e; subst e; rw[h]at h'; exact d (ZAz h')
theorem ZaF(h:H a=some o)(h':H b=none):a≠b:=by intro e; subst e; rw[h]at h'; cases h'
section
variable(P:Program)(w:World)
def Zac(H:Hp)(h:Heap)(a:Addr):HO->Prop
 | .lst xs=>xs.length<=sizeLine/\∃(its:List Value) (n:Nat),Vals xs its/\h.get? a=some { cls:=.type "list",data:=.seq its.toArray n }
 | .tup xs=>xs.length<=sizeLine/\∃its:List Value,Vals xs its/\IsTup h a its.toArray
 | .dK kvs=>kvs.length<=sizeLine/\(a==ZBx)=false/\∃vs,KV kvs vs/\h.DictOf (ZaA P w) a vs
 | .dT kvs=>kvs.length<=sizeLine/\(a==ZBx)=false/\∃xs:List (List Key × Addr × Value),
   Paired (λ(p:List Key × V) (q:List Key × Addr × Value)=>p.1=q.1/\H q.2.1=some (.tup (p.1.map kV))/\RelV p.2 q.2.2) kvs xs /\
   ∃o es ep,h.get? a=some o/\o.ExactDict/\o.data=.dict es ep/\es.toList=xs.map (entryOfKey (ZCT (ZaA P w)))/\(xs.map (·.1)).Nodup
 | .set S n=>h.SetOf (intKind P w) a S n
 | .ins C dx fs=>H dx=some (.own a)/\fs.length<=1000/\dx≠a/\h.get? a=some (PySem.W.instObj C dx) /\
   ∃mA,h.Ns1 dx mA/\(∀f,ZfT (fs.lookup f) (mA f))/\PySem.Within mA (fs.map (·.1))
 | .own _=>∃o,h.get? a=some o
 | .xd fs=>∃mA,h.Ns1 a mA/\∀f,ZfT (fs.lookup f) (mA f)
 | .rng lo hi=>∃t u v,h.get? a=some { cls:=.type "range",data:=.fields #[.int lo t,.int hi u,.int 1 v] }
 | .frz o u=>h.get? a=some o/\Zac H h a u
 | .tbl ps=>h.get? a=some { cls:=.none,data:=.fields ps }
 | .met f x=>h.get? a=some (ZDU (.ref f) (.ref x))
 | .ext φ=>φ h/\(∃o,h.get? a=some o)/\∀h1 h2:Heap,φ h1->(∀o,h1.get? a=some o->h2.get? a=some o)->φ h2
def HOk(H:Hp)(h:Heap):Prop:=∀a o,H a=some o->Zac P w H h a o
end
section
variable{P:Program}{w:World}{H H':Hp}{h h':Heap}{a:Addr}{o:HO}
theorem Zac.lt(x:Zac P w H h a o):a<h.objs.size:=by
 cases o with
 | lst xs=>obtain⟨_,_,_,_,e⟩:=x; exact Zz9 e
 | tup xs=>obtain⟨_,_,_,p⟩:=x; exact p.lt
 | dK kvs=>obtain⟨_,_,_,_,o,_,_,e,_⟩:=x; exact Zz9 e
 | dT kvs=>obtain⟨_,_,_,_,o,_,_,e,_⟩:=x; exact Zz9 e
 | set S n=>obtain⟨o,_,_,_,e,_⟩:=x; exact Zz9 e
 | ins C dx fs=>obtain⟨_,_,_,e,_⟩:=x; exact Zz9 e
 | own y=>obtain⟨_,e⟩:=x; exact Zz9 e
 | xd fs=>obtain⟨_,⟨_,_,_,e,_⟩,_⟩:=x; exact Zz9 e
 | rng lo hi=>obtain⟨_,_,_,e⟩:=x; exact Zz9 e
 | frz ob u=>obtain⟨e,_⟩:=x; exact Zz9 e
 | tbl ps=>exact Zz9 (show h.get? a=some _ from x)
 | met f y=>exact Zz9 (show h.get? a=some _ from x)
 | ext φ=>obtain⟨_,⟨_,e⟩,_⟩:=x; exact Zz9 e
theorem Paired.mapP{α β:Type}{F G:α->β->Prop}:∀{l₁:List α} {l₂:List β},Paired F l₁ l₂->(∀a b,F a b->G a b)->Paired G l₁ l₂
 | _,_,.nil,_=>.nil
 | _,_,.cons r t,f=>.cons (f _ _ r) (Paired.mapP t f)
theorem Zac.stay(x:Zac P w H h a o)(k:∀b u,(b=a\/H b=some (.own a))->h.get? b=some u->h'.get? b=some u)
  (ho:∀b,H b=some (.own a)->H' b=some (.own a)) (ht:∀b xs,H b=some (.tup xs)->H' b=some (.tup xs)):Zac P w H' h' a o:=by
 induction o with
 | lst xs=>obtain⟨z,its,n,r,e⟩:=x; exact⟨z,its,n,r,k _ _ (.inl rfl) e⟩
 | tup xs=>obtain⟨z,its,r,ob,e,c⟩:=x; exact⟨z,its,r,ob,k _ _ (.inl rfl) e,c⟩
 | dK kvs=>obtain⟨z,y,vs,r,ob,es,ep,e,c⟩:=x; exact⟨z,y,vs,r,ob,es,ep,k _ _ (.inl rfl) e,c⟩
 | dT kvs=>obtain⟨z,y,xs,r,ob,es,ep,e,c⟩:=x;exact⟨z,y,xs,Paired.mapP r λp q z=>⟨z.1,ht _ _ z.2.1,z.2.2⟩,ob,es,ep,k _ _ (.inl rfl) e,c⟩
 | set S n=>obtain⟨ob,es,ep,t,e,c⟩:=x; exact⟨ob,es,ep,t,k _ _ (.inl rfl) e,c⟩
 | ins C dx fs=>obtain⟨d,z,ne,e,mA,⟨od,es,ep,e2,c⟩,r⟩:=x;exact⟨ho _ d,z,ne,k _ _ (.inl rfl) e,mA,⟨od,es,ep,k _ _ (.inr d) e2,c⟩,r⟩
 | own y=>obtain⟨ob,e⟩:=x; exact⟨ob,k _ _ (.inl rfl) e⟩
 | xd fs=>obtain⟨mA,⟨od,es,ep,e,c⟩,r⟩:=x; exact⟨mA,⟨od,es,ep,k _ _ (.inl rfl) e,c⟩,r⟩
 | rng lo hi=>obtain⟨t,u,v,e⟩:=x; exact⟨t,u,v,k _ _ (.inl rfl) e⟩
 | frz ob u ih=>obtain⟨e,q⟩:=x; exact⟨k _ _ (.inl rfl) e,ih q⟩
 | tbl ps=>have e:h.get? a=some { cls:=.none,data:=.fields ps }:=x;show h'.get? a=some { cls:=.none,data:=.fields ps };exact k a _ (.inl rfl) e
 | met f y=>have e:h.get? a=some (ZDU (.ref f) (.ref y)):=x;show h'.get? a=some (ZDU (.ref f) (.ref y));exact k a _ (.inl rfl) e
 | ext φ=>obtain⟨p,⟨o,e⟩,st⟩:=x; exact⟨st _ _ p λo q=>k _ _ (.inl rfl) q,⟨o,k _ _ (.inl rfl) e⟩,st⟩
theorem HOk.lt(x:HOk P w H h)(e:H a=some o):a<h.objs.size:=(x a o e).lt
theorem HOk.fresh(x:HOk P w H h)(e:h.objs.size<=a):H a=none:=by
 cases q:H a with
 | none=>rfl
 | some u=>exact absurd (ZAn (x.lt q) e) (ZBI _)
theorem HOk.kept(x:HOk P w H h)(k:∀b u,h.get? b=some u->h'.get? b=some u):HOk P w H h':=λa o e=>(x a o e).stay (λb u _ q=>k b u q) (λ_ q=>q) λ_ _ q=>q
theorem HOk.laid(x:HOk P w H h)(k:∀b u,h.get? b=some u->h'.get? b=some u)(hp:h.objs.size<=a)(new:Zac P w (upd H a o) h' a o):HOk P w (upd H a o) h':=λb u e=>by
 have hn:=x.fresh hp
 by_cases hb:b=a
 ·subst hb; rw[ZF]at e; cases e; exact new
 ·rw[ZB hb]at e
  exact(x b u e).stay (λc v _ q=>k c v q) (λc q=>by rw[ZB (ZaF q hn)]; exact q) λc xs q=>by rw[ZB (ZaF q hn)]; exact q
end
def Rd(H:Hp)(a:Addr)(u:HO):Prop:=H a=some u\/∃o,H a=some (.frz o u)
theorem Rd.ok{P:Program}{w:World}{H:Hp}{h:Heap}{a:Addr}{u:HO}(r:Rd H a u)(x:HOk P w H h):Zac P w H h a u:=by
 rcases r with r | ⟨o,r⟩
 ·exact x a u r
 ·obtain⟨_,q⟩:=x a _ r
  exact q
def Mut:Option HO->Prop
 | some (.lst _)=>True
 | some (.dK _)=>True
 | some (.dT _)=>True
 | some (.set _ _)=>True
 | some (.ins _ _ _)=>True
 | some (.ext _)=>True
 | _=>False
section
variable{P:Program}{w:World}{H:Hp}{h h':Heap}{x e:Addr}{o':HO}
theorem HOk.write(ok:HOk P w H h)(mu:Mut (H x))(he:e=x\/H e=some (.own x))(k:∀b u,b≠e->h.get? b=some u->h'.get? b=some u)(heo:∃u,h'.get? e=some u)
  (new:Zac P w (upd H x o') h' x o'):HOk P w (upd H x o') h':=λb u q=>by
 have nown:∀c y,H c=some (.own y)->c≠x:=λc y r z=>by subst z; rw[r]at mu; exact mu
 have ntup:∀c xs,H c=some (.tup xs)->c≠x:=λc xs r z=>by subst z; rw[r]at mu; exact mu
 by_cases hb:b=x
 ·subst hb; rw[ZF]at q; cases q; exact new
 ·rw[ZB hb]at q
  by_cases hbe:b=e
  ·have q':H b=some (.own x):=by
    rcases he with z | z
    ·exact absurd (hbe.trans z) hb
    ·rw[hbe]; exact z
   rw[q]at q'; cases q';obtain⟨v,hv⟩:=heo;exact⟨v,by rw[hbe]; exact hv⟩
  ·refine(ok b u q).stay (λc v hc r=>k c v ?_ r) (λc r=>by rw[ZB (nown c b r)]; exact r) λc xs r=>by rw[ZB (ntup c xs r)]; exact r
   rcases hc with rfl | hc
   ·exact hbe
   ·rintro rfl
    rcases he with z | z
    ·exact nown c b hc z
    ·rw[hc]at z; cases z; exact hb rfl
end
structure Un(fs ex:List Addr)(H H':Hp)(h h':Heap):Prop where
 keep:∀b o,h.get? b=some o->H b=none->b ∉ fs->b ∉ ex->h'.get? b=some o
 slot:∀b o,h.get? b=some o->H b=none->b∈fs->b ∉ ex->∃sl,h'.get? b=some { o with slots:=sl }
 free:∀b o,h.get? b=some o->H b=none->b ∉ ex->H' b=none
 there:∀b o,h.get? b=some o->b ∉ ex->∃o',h'.get? b=some o'
 tups:∀b xs,H b=some (.tup xs)->H' b=some (.tup xs)
 frzs:∀b o u,H b=some (.frz o u)->H' b=some (.frz o u)
 tbls:∀b ps,H b=some (.tbl ps)->∃more,H' b=some (.tbl (ps++more))
section
variable{fs fs' ex ex':List Addr}{H H1 H2:Hp}{h h1 h2 h':Heap}{a x e:Addr}{o:HO}
theorem Un.any(u:Un fs ex H H1 h h1){ob:Obj}(q:h.get? b=some ob)(n:H b=none)(hx:b ∉ ex):∃sl,h1.get? b=some { ob with slots:=sl }:=by
 by_cases hb:b∈fs
 ·exact u.slot b ob q n hb hx
 ·exact⟨ob.slots,u.keep b ob q n hb hx⟩
theorem Un.kept(k:∀b u,h.get? b=some u->h'.get? b=some u):Un fs ex H H h h' :=
 ⟨λb ob q _ _ _=>k b ob q,λb ob q _ _ _=>⟨ob.slots,k b ob q⟩,λ_ _ _ n _=>n,λb ob q _=>⟨ob,k b ob q⟩,λ_ _ q=>q,λ_ _ _ q=>q,λ_ ps q=>⟨#[],by rw[q]; simp⟩⟩
theorem Un.refl:Un fs ex H H h h:=Un.kept λ_ _ q=>q
theorem Un.laid(k:∀b u,h.get? b=some u->h'.get? b=some u)(hp:h.objs.size<=a)(hn:H a=none):Un fs ex H (upd H a o) h h' where
 keep:=λb u q _ _ _=>k b u q
 slot:=λb u q _ _ _=>⟨u.slots,k b u q⟩
 free:=λb u q n _=>by rw[ZB (ZAf (ZAn (Zz9 q) hp))]; exact n
 there:=λb u q _=>⟨u,k b u q⟩
 tups:=λb xs q=>by rw[ZB (ZaF q hn)]; exact q
 frzs:=λb u xs q=>by rw[ZB (ZaF q hn)]; exact q
 tbls:=λb ps q=>⟨#[],by rw[ZB (ZaF q hn),q]; simp⟩
theorem Un.write(mu:Mut (H x))(he:e=x\/H e=some (.own x))(k:∀b u,b≠e->h.get? b=some u->h'.get? b=some u)(heo:∃u,h'.get? e=some u):Un fs ex H (upd H x o) h h':=by
 have hx:∀b,H b=none->b≠x:=λb n z=>by subst z; rw[n]at mu; exact mu
 have hb:∀b,H b=none->b≠e:=λb n z=>by
  subst z;rcases he with r | r
  ·exact hx b n r
  ·rw[n]at r; cases r
 have hm:∀b u,H b=some u->¬Mut (some u)->b≠x:=λb u q nm z=>by subst z; rw[q]at mu; exact nm mu
 refine⟨λb u q n _ _=>k b u (hb b n) q,λb u q n _ _=>⟨u.slots,k b u (hb b n) q⟩,λb u q n _=>by rw[ZB (hx b n)]; exact n,λb u q _=>?_,
  λb xs q=>by rw[ZB (hm b _ q λz=>z)]; exact q,λb u xs q=>by rw[ZB (hm b _ q λz=>z)]; exact q,λb ps q=>⟨#[],by rw[ZB (hm b _ q λz=>z),q]; simp⟩⟩
 by_cases hbe:b=e
 ·subst hbe; exact heo
 ·exact⟨u,k b u hbe q⟩
end
def trk(h:Heap)(H:Hp):List Addr:=(ZzX h.objs.size).filter λa=>(H a).isSome
def ZhL(h:Heap)(H:Hp):Heap:=PySem.W.hideAll h (trk h H)
theorem Ztb(h:Heap)(H:Hp):(ZhL h H).objs.size=h.objs.size:=PySem.W.hideAll_size _ _
theorem Zvs{o:Obj}(e:h.get? b=some o)(n:H b=none):(ZhL h H).get? b=some o :=
 PySem.W.hideAll_get _ e λhm=>by have q:(H b).isSome=true:=(ZAh.mp hm).2;rw[n]at q; simp at q
theorem Zv8{o:Obj}(e:(ZhL h H).get? b=some o):h.get? b=some o/\H b=none:=by
 have e':h.get? b=some o:=PySem.W.of_hideAll (trk h H) e;refine⟨e',?_⟩;cases q:H b with
 | none=>rfl
 | some x=>have hm:b∈trk h H:=ZAh.mpr ⟨ZAi.mpr (Zz9 e'),by simp[q]⟩;have z:(ZhL h H).get? b=none:=PySem.W.hideAll_none (trk h H) hm;rw[z]at e; cases e
end L2
namespace L2
open PySem PySem.Spec PyProof.Rows
variable{A:Around}{ch:List Addr}{i t':Nat}{x:Str}{u:Value}{E:Value->Shared->Prop}
structure Mod(K:ZzS)(mg:Str->Option Value)(base:Heap):Prop where
 kin:K.In base
 glob:base.Ns ZAy mg
 blt:∃mb,base.Ns ZD1 mb/\∀x:Str,x ≠ "__name__"->mb x=ZAW x
 nolimit:base.NoLimit
structure Cx where
 prog:Program
 w:World
 K:ZzS
 mg:Str->Option Value
 base:Heap
 A:Around
 N:List Str
 s₀:Shared
 H₀:Hp
 env:Env
 outer:List Env
 stack:List Env
 ex:List Addr
 fn:Str->Bool
 calm:Bool
 pn:List (Addr × Obj)
 xe:Value->Shared->Prop
def frs(l:List Env):List Addr:=l.filterMap (·.frame)
abbrev Cx.fs(X:Cx):List Addr:=frs X.outer
def Vis(sc:Scope)(x:Str):Prop:=sc.names.lookup x=some .local\/sc.names.lookup x=some .cell\/sc.names.lookup x=some .free
def Loc(sc:Scope)(x:Str):Prop:=sc.names.lookup x=some .local\/sc.names.lookup x=some .cell
def Look(env:Env)(h:Heap)(m:Str->Option Value)(x:Str)(u:Value):Prop :=
 (env.kindOf x=some .local/\m x=some u)\/((env.kindOf x=some .cell\/env.kindOf x=some .free)/\∃c,env.cells.lookup x=some c/\h.IsCell c (some u))
structure Cx.Ok(X:Cx):Prop where
 mod:Mod X.K X.mg X.base
 kind:X.env.scope.kind=.function
 glob:X.env.globals=ZAy
 blt:X.env.builtins=ZD1
 above:X.s₀.heap.objs.size<=X.env.locals
 inj:∀x y c,X.env.cells.lookup x=some c->X.env.cells.lookup y=some c->x=y
 has:∀x,(X.env.kindOf x=some .cell\/X.env.kindOf x=some .free)->∃c,X.env.cells.lookup x=some c
 cab:∀x c,X.fn x=true->X.env.cells.lookup x=some c->X.s₀.heap.objs.size<=c
 hd:X.calm=true->X.A.handled=none
 frames:X.A.frames=some X.stack
 stk:X.stack=X.outer\/(X.stack=X.env::X.outer/\X.env.frame=some X.env.locals)
 exf:∀b∈X.ex,b≠X.env.locals/\∀x c,X.env.cells.lookup x=some c->c≠b
 bs:∀b o,X.base.get? b=some o->X.s₀.heap.get? b=some o/\X.H₀ b=none
 bsz:X.base.objs.size<=X.s₀.heap.objs.size
 noex:∀b o,X.base.get? b=some o->b ∉ X.ex
 exfs:∀b∈X.ex,b ∉ X.fs
 funs:X.s₀.heap.FunFrames X.base X.outer
 frf:∀b∈X.fs,X.H₀ b=none
structure Inv(X:Cx)(pins:List (Addr × Obj))(σ:List (Option V))(H:Hp)(s:Shared):Prop where
 ok:X.Ok
 os:s.os=X.s₀.os
 bare:AllBare s.gens
 base:Un X.fs X.ex X.H₀ H X.s₀.heap s.heap
 loc:∃m,s.heap.Ns X.env.locals m/\∀(i:Nat) (x:Str) (v:V),X.N[i]?=some x->σ[i]?=some (some v)->Vis X.env.scope x->∃u,RelV v u/\Look X.env s.heap m x u
 cell:∀x c,X.env.cells.lookup x=some c->∃v,s.heap.IsCell c v
 free:H X.env.locals=none
 freeC:∀x c,X.env.cells.lookup x=some c->H c=none
 pin:∀p∈X.pn++pins,s.heap.get? p.1=some p.2/\H p.1=none/\p.1≠X.env.locals/\p.1 ∉ X.fs/\∀v,p.2.data≠.cell v
 hok:HOk X.prog X.w H s.heap
 len:σ.length=X.N.length
section
variable{X:Cx}{pins:List (Addr × Obj)}{σ:List (Option V)}{H H':Hp}{s:Shared}{h':Heap}
theorem Cx.Ok.nofr(ok:X.Ok){b:Addr}{o:Obj}(e:X.base.get? b=some o):b ∉ X.fs:=λhb=>by have:=(ok.funs.mem hb).1;rw[e]at this; cases this
theorem Inv.bs(I:Inv X pins σ H s):∀b o,X.base.get? b=some o->s.heap.get? b=some o/\H b=none:=λb o e=>⟨I.base.keep b o (I.ok.bs b o e).1 (I.ok.bs b o e).2 (I.ok.nofr e) (I.ok.noex b o e),I.base.free b o (I.ok.bs b o e).1 (I.ok.bs b o e).2 (I.ok.noex b o e)⟩
theorem Inv.bk(I:Inv X pins σ H s):∀b o,X.base.get? b=some o->s.heap.get? b=some o:=λb o e=>(I.bs b o e).1
theorem Inv.mod(I:Inv X pins σ H s):Mod X.K X.mg X.base:=I.ok.mod
theorem Inv.kIn(I:Inv X pins σ H s):X.K.In s.heap:=I.ok.mod.kin.keeps I.bk
theorem Inv.lt(I:Inv X pins σ H s):X.env.locals<s.heap.objs.size:=let ⟨_,hn,_⟩:=I.loc; hn.lt
theorem Inv.sz(I:Inv X pins σ H s):X.s₀.heap.objs.size<=s.heap.objs.size:=ZAR I.ok.above (ZBP I.lt)
theorem Inv.nofs(I:Inv X pins σ H s){a:Addr}(h:s.heap.objs.size<=a):a ∉ X.fs:=λhb=>by obtain⟨_,o,ho,_⟩:=I.ok.funs.mem hb;exact absurd (ZAn (Zz9 ho) (ZAR I.sz h)) (ZBI _)
theorem Inv.cne(I:Inv X pins σ H s):∀x c,X.env.cells.lookup x=some c->c≠X.env.locals:=λx c e z=>by obtain⟨v,o,ho,hd⟩:=I.cell x c e;obtain⟨m,⟨o',es,ep,ho',hd',_⟩,_⟩:=I.loc;rw[z,ho']at ho; cases ho; rw[hd']at hd; cases hd
theorem Inv.funs(I:Inv X pins σ H s):s.heap.FunFrames X.base X.outer:=by
 have all:∀(l:List Env),(∀b∈frs l,b∈X.fs)->X.s₀.heap.FunFrames X.base l->s.heap.FunFrames X.base l:=by
  intro l
  induction l with
  | nil=>intro _ _; trivial
  | cons env r ih=>intro hs hl;obtain⟨hk,⟨L,o,hf,hn,ho,hd⟩,hr⟩:=hl;have hL:L∈X.fs:=hs L (by unfold frs; rw[ZA6,hf]; exact ZzT);obtain⟨sl,e⟩:=I.base.slot L o ho (I.ok.frf L hL) hL λz=>I.ok.exfs L z hL;exact⟨hk,⟨L,_,hf,hn,e,hd⟩,ih (λb hb=>hs b (by unfold frs; rw[ZA6,hf]; exact ZzU _ hb)) hr⟩
 exact all X.outer (λ_ hb=>hb) I.ok.funs
theorem Inv.stack(I:Inv X pins σ H s):s.heap.FunFrames X.base X.stack:=by
 rcases I.ok.stk with e | ⟨e,hf⟩
 ·rw[e]; exact I.funs
 ·rw[e]
  obtain⟨m,hn,_⟩:=I.loc;refine .cons (by rw[I.ok.kind]; decide) hf hn ?_ I.funs;exact Heap.get?_none_of_le (ZAR I.ok.bsz I.ok.above)
theorem Inv.stkSub(I:Inv X pins σ H s):∀b∈frs X.stack,b∈X.env.locals::X.fs:=λb hb=>by
 rcases I.ok.stk with e | ⟨e,hf⟩
 ·rw[e]at hb; exact ZzU _ hb
 ·rw[e]at hb
  unfold frs at hb;rw[ZA6,hf]at hb;exact hb
theorem Inv.stkFree(I:Inv X pins σ H s):∀b∈frs X.stack,H b=none:=λb hb=>by
 rcases Zz7.mp (I.stkSub b hb)with e | hb
 ·rw[e]; exact I.free
 ·obtain⟨_,o,ho,_⟩:=I.ok.funs.mem hb
  exact I.base.free b o ho (I.ok.frf b hb) λz=>I.ok.exfs b z hb
theorem Inv.step{g':Array GenState}{t':Nat}{d':Drawn}{ch:List Addr}(I:Inv X pins σ H s)
  (hch:∀b∈ch,(b∈X.ex\/X.s₀.heap.objs.size<=b)/\b≠X.env.locals/\(∀x c,X.env.cells.lookup x=some c->c≠b)/\∀p∈X.pn++pins,p.1≠b)
  (keep:∀b o,b≠X.env.locals->b ∉ X.fs->b ∉ ch->s.heap.get? b=some o->H b=none->h'.get? b=some o)
  (slot:∀b o,b≠X.env.locals->b∈X.fs->b ∉ ch->s.heap.get? b=some o->H b=none->∃sl,h'.get? b=some { o with slots:=sl }) (free:∀b o,b ∉ ch->s.heap.get? b=some o->H b=none->H' b=none)
  (there:∀b o,b ∉ ch->s.heap.get? b=some o->∃o',h'.get? b=some o')
  (tups:∀b xs,H b=some (.tup xs)->H' b=some (.tup xs)) (frzs:∀b o u,H b=some (.frz o u)->H' b=some (.frz o u)) (tbls:∀b ps,H b=some (.tbl ps)->∃more,H' b=some (.tbl (ps++more)))
  (ns:∀m,s.heap.Ns X.env.locals m->h'.Ns X.env.locals m) (hok:HOk X.prog X.w H' h') (hg:AllBare g') :
  Inv X pins σ H' { s with heap:=h',gens:=g',drawn:=d',toks:=t' }:=by
 have neL:∀b o,X.s₀.heap.get? b=some o->b≠X.env.locals:=λb o e=>ZAf (ZAn (Zz9 e) I.ok.above);have neC:∀b o,X.s₀.heap.get? b=some o->b ∉ X.ex->b ∉ ch:=λb o e hx hb=>by
  rcases(hch b hb).1 with z | z
  ·exact hx z
  ·exact absurd (ZAn (Zz9 e) z) (ZBI _)
 have cellK:∀x c,X.env.cells.lookup x=some c->∀v,s.heap.IsCell c v->h'.IsCell c v:=λx c e v ⟨o,ho,hd⟩=>by
  have nch:c ∉ ch:=λz=>(hch c z).2.2.1 x c e rfl
  by_cases hc:c∈X.fs
  ·obtain⟨sl,q⟩:=slot c o (I.cne x c e) hc nch ho (I.freeC x c e)
   exact⟨_,q,hd⟩
  ·exact⟨o,keep c o (I.cne x c e) hc nch ho (I.freeC x c e),hd⟩
 refine⟨I.ok,I.os,hg,⟨λb o e n hb hx=>?_,λb o e n hb hx=>?_,λb o e n hx=>?_,λb o e hx=>?_,λb xs e=>tups b xs (I.base.tups b xs e),λb o xs e=>frzs b o xs (I.base.frzs b o xs e),λb ps e=>?_⟩,?_,λx c e=>?_,?_,λx c e=>?_,λp hp=>?_,hok,I.len⟩
 ·exact keep b o (neL b o e) hb (neC b o e hx) (I.base.keep b o e n hb hx) (I.base.free b o e n hx)
 ·obtain⟨sl,e1⟩:=I.base.slot b o e n hb hx
  obtain⟨sl',e2⟩:=slot b _ (neL b o e) hb (neC b o e hx) e1 (I.base.free b o e n hx);exact⟨sl',e2⟩
 ·obtain⟨o',e1⟩:=I.base.there b o e hx
  exact free b o' (neC b o e hx) e1 (I.base.free b o e n hx)
 ·obtain⟨o',e1⟩:=I.base.there b o e hx
  exact there b o' (neC b o e hx) e1
 ·obtain⟨m1,e1⟩:=I.base.tbls b ps e
  obtain⟨m2,e2⟩:=tbls b _ e1;exact⟨m1++m2,by rw[e2,Array.append_assoc]⟩
 ·obtain⟨m,hn,hl⟩:=I.loc
  refine⟨m,ns m hn,λi x v e1 e2 e3=>?_⟩;obtain⟨u,r,l⟩:=hl i x v e1 e2 e3;refine⟨u,r,?_⟩;rcases l with l | ⟨k,c,e,z⟩
  ·exact .inl l
  ·exact .inr ⟨k,c,e,cellK x c e _ z⟩
 ·obtain⟨v,z⟩:=I.cell x c e
  exact⟨v,cellK x c e v z⟩
 ·obtain⟨m,⟨o,_,_,ho,_⟩,_⟩:=I.loc
  exact free _ o (λz=>(hch _ z).2.1 rfl) ho I.free
 ·obtain⟨v,o,ho,hd⟩:=I.cell x c e
  exact free c o (λz=>(hch c z).2.2.1 x c e rfl) ho (I.freeC x c e)
 ·obtain⟨e,n,ne,nf,d⟩:=I.pin p hp
  have nch:p.1 ∉ ch:=λz=>(hch p.1 z).2.2.2 p hp rfl;exact⟨keep p.1 p.2 ne nf nch e n,free p.1 p.2 nch e n,ne,nf,d⟩
theorem Inv.un(I:Inv X pins σ H s)(u:Un X.fs [] H H' s.heap h')(hok:HOk X.prog X.w H' h'):Inv X pins σ H' { s with heap:=h',toks:=t' }:=by obtain⟨m,⟨o,es,ep,ho,r⟩,_⟩:=id I.loc;obtain⟨sl,hL⟩:=u.any ho I.free (by simp);exact I.step (g':=s.gens) (d':=s.drawn) (ch:=[]) (λ_ z=>nomatch z) (λb o _ hb _ e n=>u.keep b o e n hb (by simp)) (λb o _ hb _ e n=>u.slot b o e n hb (by simp)) (λb o _ e n=>u.free b o e n (by simp)) (λb o _ e=>u.there b o e (by simp)) u.tups u.frzs u.tbls (λm' hm=>by obtain⟨o',es',ep',ho',r'⟩:=hm;rw[ho]at ho'; cases ho';exact⟨_,es',ep',hL,r'⟩) hok I.bare
theorem Inv.call{g':Array GenState}{d':Drawn}(I:Inv X pins σ H s)(u:Un (frs X.stack) ch H H' s.heap h')(hok:HOk X.prog X.w H' h')(hg:AllBare g')
  (hch:∀b∈ch,(b∈X.ex\/X.s₀.heap.objs.size<=b)/\b≠X.env.locals/\(∀x c,X.env.cells.lookup x=some c->c≠b)/\∀p∈X.pn++pins,p.1≠b) :
  Inv X pins σ H' { s with heap:=h',gens:=g',drawn:=d',toks:=t' }:=by
 obtain⟨m,⟨o,es,ep,ho,r⟩,_⟩:=id I.loc;obtain⟨sl,hL⟩:=u.any ho I.free λz=>(hch _ z).2.1 rfl;exact I.step (ch:=ch) hch (λb o hL hb hc e n=>u.keep b o e n (λz=>(Zz7.mp (I.stkSub b z)).elim hL hb) hc) (λb o _ _ hc e n=>u.any e n hc) (λb o hc e n=>u.free b o e n hc) (λb o hc e=>u.there b o e hc) u.tups u.frzs u.tbls (λm' hm=>by obtain⟨o',es',ep',ho',r'⟩:=hm;rw[ho]at ho'; cases ho';exact⟨_,es',ep',hL,r'⟩) hok hg
theorem Inv.turned{it:Addr}(I:Inv X pins σ H s)(k:∀b o,b≠it->s.heap.get? b=some o->h'.get? b=some o)(hn:H it=none)(hL:it≠X.env.locals)
  (h1:it∈X.ex\/X.s₀.heap.objs.size<=it) (h2:∀x c,X.env.cells.lookup x=some c->c≠it) (h3:∀p∈X.pn++pins,p.1≠it):Inv X pins σ H { s with heap:=h',toks:=t' }:=by
 have nit:∀b u,H b=some u->b≠it:=λb u e z=>by rw[z,hn]at e; cases e
 refine I.step (g':=s.gens) (d':=s.drawn) (ch:=[it]) (λb hb=>?_) (λb o _ _ hc e _=>k b o (λz=>hc (by simp[z])) e) (λb o _ _ hc e _=>⟨o.slots,k b o (λz=>hc (by simp[z])) e⟩) (λ_ _ _ _ n=>n)
  (λb o hc e=>⟨o,k b o (λz=>hc (by simp[z])) e⟩) (λ_ _ e=>e) (λ_ _ _ e=>e) (λb ps e=>⟨#[],by rw[e]; simp⟩) (λm hm=>?_) (λb u e=>?_) I.bare
 ·have e:b=it:=by simpa using hb
  subst e;exact⟨h1,hL,h2,h3⟩
 ·obtain⟨o,es,ep,ho,r⟩:=hm
  exact⟨o,es,ep,k _ o (ZA0 hL) ho,r⟩
 ·refine(I.hok b u e).stay (λc v hc q=>k c v ?_ q) (λ_ q=>q) λ_ _ q=>q
  rcases hc with z | z
  ·rw[z]; exact nit b u e
  ·exact nit c _ z
theorem Inv.tok(I:Inv X pins σ H s)(t:Nat):Inv X pins σ H { s with toks:=t }:=I.un (h':=s.heap) (t':=t) Un.refl I.hok
theorem Inv.kept{t':Nat}(I:Inv X pins σ H s)(k:∀b u,s.heap.get? b=some u->h'.get? b=some u):Inv X pins σ H { s with heap:=h',toks:=t' }:=I.un (Un.kept k) (I.hok.kept k)
theorem Inv.laid{a:Addr}{o:HO}{t':Nat}(I:Inv X pins σ H s)(k:∀b u,s.heap.get? b=some u->h'.get? b=some u)(hp:s.heap.objs.size<=a)(new:Zac X.prog X.w (upd H a o) h' a o) :
  Inv X pins σ (upd H a o) { s with heap:=h',toks:=t' }:=I.un (Un.laid k hp (I.hok.fresh hp)) (I.hok.laid k hp new)
theorem Inv.write{x e:Addr}{o:HO}{t':Nat}(I:Inv X pins σ H s)(mu:Mut (H x))(he:e=x\/H e=some (.own x))(k:∀b u,b≠e->s.heap.get? b=some u->h'.get? b=some u)(heo:∃u,h'.get? e=some u)
  (new:Zac X.prog X.w (upd H x o) h' x o):Inv X pins σ (upd H x o) { s with heap:=h',toks:=t' }:=I.un (Un.write mu he k heo) (I.hok.write mu he k heo new)
theorem Inv.weak{σ':List (Option V)}(I:Inv X pins σ H s)(hl:σ'.length=σ.length)(w:∀(i:Nat) v,σ'[i]?=some (some v)->σ[i]?=some (some v)):Inv X pins σ' H s :=
 ⟨I.ok,I.os,I.bare,I.base,let ⟨m,hn,hl'⟩:=I.loc; ⟨m,hn,λi x v e1 e2 e3=>hl' i x v e1 (w i v e2) e3⟩,I.cell,I.free,I.freeC,I.pin,I.hok,hl.trans I.len⟩
theorem Inv.pins_of{pins':List (Addr × Obj)}(I:Inv X pins σ H s)(h:∀p∈pins',s.heap.get? p.1=some p.2/\H p.1=none/\p.1≠X.env.locals/\p.1 ∉ X.fs/\∀v,p.2.data≠.cell v):Inv X pins' σ H s :=
 ⟨I.ok,I.os,I.bare,I.base,I.loc,I.cell,I.free,I.freeC,λp hp=>(ZAp.mp hp).elim (λz=>I.pin p (ZAv _ z)) (h p),I.hok,I.len⟩
theorem Zpb{N:List Str}(hN:N.Nodup){j:Nat}(a:N[i]?=some x)(b:N[j]?=some x):i=j:=by obtain⟨h1,e1⟩:=Zz5.mp a;obtain⟨h2,e2⟩:=Zz5.mp b;exact(List.getElem_inj hN).mp (e1.trans e2.symm)
theorem Zm8{M:Model}{v:V}{Q:Unit->Shared->Prop}(I:Inv X pins σ H s)(hN:X.N.Nodup)(hi:X.N[i]?=some x)(hx:Loc X.env.scope x)(r:RelV v u)
  (h:∀s',Inv X pins (σ.set i (some v)) H s'->(∃a,ZBG a s.heap s'.heap/\(a=X.env.locals\/X.env.cells.lookup x=some a))->Q () s') (hf:X.fn x=true\/X.env.scope.names.lookup x=some .local:=by first | exact .inl rfl | exact .inr rfl | assumption):wpAny M A (storeName X.env x u) Q E s:=by
 obtain⟨m,hn,hl⟩:=id I.loc;have hcls:(X.env.scope.kind==.class||(X.env.scope.kind==.module&&X.env.locals != X.env.globals))=false:=by rw[I.ok.kind]; rfl
 have hiσ:i<σ.length:=by rw[I.len]; exact(Zz5.mp hi).1
 have cne:=I.cne;have tracked:∀{a:Addr} {h':Heap},(∃o,s.heap.get? a=some o/\H a=none)->ZBG a s.heap h'->HOk X.prog X.w H h':=λ{a h'} ha hs b ob e=>by
  obtain⟨_,_,hfree⟩:=ha;refine(I.hok b ob e).stay (λc w' hc q=>(hs.2 c ?_).trans q) (λ_ q=>q) λ_ _ q=>q
  rintro rfl
  rcases hc with rfl | hc
  ·rw[hfree]at e; cases e
  ·rw[hfree]at hc; cases hc
 rcases hx with hk | hk
 ·refine wpAny_storeName_local hk hn (λh' hn' hs=>?_) hcls
  obtain⟨oL,_,_,hoL,_⟩:=id hn;refine h _ ⟨I.ok,I.os,I.bare,⟨λb o e n hb hx=>?_,λb o e n hb hx=>?_,I.base.free,λb o e hx=>?_,I.base.tups,I.base.frzs,I.base.tbls⟩,⟨_,hn',λj y v' e1 e2 e3=>?_⟩,λy c e=>?_,I.free,I.freeC,λp hp=>?_,tracked ⟨oL,hoL,I.free⟩ hs,by simpa using I.len⟩ ⟨_,hs,.inl rfl⟩
  ·exact(hs.2 b (ZAf (ZAn (Zz9 e) I.ok.above))).trans (I.base.keep b o e n hb hx)
  ·obtain⟨sl,e1⟩:=I.base.slot b o e n hb hx
   exact⟨sl,(hs.2 b (ZAf (ZAn (Zz9 e) I.ok.above))).trans e1⟩
  ·obtain⟨o',e1⟩:=I.base.there b o e hx
   exact⟨o',(hs.2 b (ZAf (ZAn (Zz9 e) I.ok.above))).trans e1⟩
  ·by_cases hj:j=i
   ·subst hj
    rw[hi]at e1; cases e1;rw[ZAM hiσ]at e2;cases e2;exact⟨u,r,.inl ⟨hk,by simp⟩⟩
   ·rw[ZAr (ZA0 hj)]at e2
    obtain⟨u',r',q⟩:=hl j y v' e1 e2 e3;refine⟨u',r',?_⟩;rcases q with⟨k,e⟩ | ⟨k,c,e,z⟩
    ·refine .inl ⟨k,?_⟩
     have:y≠x:=λe=>hj (Zpb hN e1 (e▸hi));simp[this,e]
    ·exact .inr ⟨k,c,e,z.sameBut hs (cne y c e)⟩
  ·obtain⟨w',z⟩:=I.cell y c e
   exact⟨w',z.sameBut hs (cne y c e)⟩
  ·obtain⟨e,n,ne,nf,d⟩:=I.pin p hp
   exact⟨(hs.2 p.1 ne).trans e,n,ne,nf,d⟩
 ·have hfn:X.fn x=true:=by
   rcases hf with z | z
   ·exact z
   ·rw[z]at hk; cases hk
  obtain⟨c,hc⟩:=I.ok.has x (.inl hk);obtain⟨w',z⟩:=I.cell x c hc;refine wpAny_storeName_cell I.ok.kind hk hc z (λh' hc' hs=>?_);obtain⟨oc,hoc,hocd⟩:=id z;refine h { s with heap:=h' } ⟨I.ok,I.os,I.bare,⟨λb o e n hb hx=>?_,λb o e n hb hx=>?_,I.base.free,λb o e hx=>?_,I.base.tups,I.base.frzs,I.base.tbls⟩,⟨m,hn.sameBut hs (ZA0 (cne x c hc)),λj y v' e1 e2 e3=>?_⟩,λy c' e=>?_,I.free,I.freeC,λp hp=>?_,tracked ⟨oc,hoc,I.freeC x c hc⟩ hs,by simpa using I.len⟩ ⟨c,hs,.inr hc⟩
  ·exact(hs.2 b (ZAf (ZAn (Zz9 e) (I.ok.cab x c hfn hc)))).trans (I.base.keep b o e n hb hx)
  ·obtain⟨sl,e1⟩:=I.base.slot b o e n hb hx
   exact⟨sl,(hs.2 b (ZAf (ZAn (Zz9 e) (I.ok.cab x c hfn hc)))).trans e1⟩
  ·obtain⟨o',e1⟩:=I.base.there b o e hx
   exact⟨o',(hs.2 b (ZAf (ZAn (Zz9 e) (I.ok.cab x c hfn hc)))).trans e1⟩
  ·by_cases hj:j=i
   ·subst hj
    rw[hi]at e1; cases e1;rw[ZAM hiσ]at e2;cases e2;exact⟨u,r,.inr ⟨.inl hk,c,hc,hc'⟩⟩
   ·rw[ZAr (ZA0 hj)]at e2
    obtain⟨u',r',q⟩:=hl j y v' e1 e2 e3;refine⟨u',r',?_⟩;rcases q with q | ⟨k,c',e,z'⟩
    ·exact .inl q
    ·refine .inr ⟨k,c',e,z'.sameBut hs ?_⟩
     rintro rfl
     exact hj (Zpb hN e1 (I.ok.inj _ _ _ e hc▸hi))
  ·by_cases hcc:c'=c
   ·subst hcc; exact⟨_,hc'⟩
   ·obtain⟨w2,z2⟩:=I.cell y c' e
    exact⟨w2,z2.sameBut hs hcc⟩
  ·obtain⟨e,n,ne,nf,d⟩:=I.pin p hp
   refine⟨(hs.2 p.1 ?_).trans e,n,ne,nf,d⟩;intro q;rw[q,hoc]at e;have q':oc=p.2:=ZAz e;exact d w' (by rw[<-q']; exact hocd)
theorem ZpT{M:Model}{v:V}{Q:Unit->Shared->Prop}(I:Inv X pins σ H s)(hN:X.N.Nodup)(hi:X.N[i]?=some x)(hx:Loc X.env.scope x)(r:RelV v u)
  (h:∀s',Inv X pins (σ.set i (some v)) H s'->Q () s') (hf:X.fn x=true\/X.env.scope.names.lookup x=some .local:=by first | exact .inl rfl | exact .inr rfl | assumption):wpAny M A (storeName X.env x u) Q E s :=
 Zm8 I hN hi hx r (λs' I' _=>h s' I') hf
theorem Inv.call'{s':Shared}(I:Inv X pins σ H s)(ho:s'.os=s.os)(u:Un (frs X.stack) ch H H' s.heap s'.heap)(hok:HOk X.prog X.w H' s'.heap)(hg:AllBare s'.gens)
  (hch:∀b∈ch,(b∈X.ex\/X.s₀.heap.objs.size<=b)/\b≠X.env.locals/\(∀x c,X.env.cells.lookup x=some c->c≠b)/\∀p∈X.pn++pins,p.1≠b):Inv X pins σ H' s':=by
 obtain⟨h',g',d',t',o'⟩:=s';have e:o'=s.os:=ho;subst e;exact I.call (g':=g') (t':=t') (d':=d') u hok hg hch
end
abbrev XK:=Value->Option Addr->Hp->Prop
abbrev St:=List (Option V)
abbrev VK:=V->Hp->Prop
abbrev TE:=St->Hp->VK->Prop
abbrev TT:=St->Hp->(Bool->Hp->Prop)->Prop
abbrev TA:=St->Hp->(List V->Hp->Prop)->Prop
structure Ends where
 nx:St->Hp->Prop
 rt:VK
 bk:St->Hp->Prop:=λ_ _=>False
 ct:St->Hp->Prop:=λ_ _=>False
abbrev TS:=Ends->St->Hp->Prop
inductive EP(X:Cx)(pins:List (Addr × Obj))(σ:St)(Q:VK)(u:Value)(s':Shared):Prop
 | mk (v:V) (H':Hp) (I:Inv X pins σ H' s') (r:RelV v u) (q:Q v H'):EP X pins σ Q u s'
inductive TP(X:Cx)(pins:List (Addr × Obj))(σ:St)(Q:Bool->Hp->Prop)(b:Bool)(s':Shared):Prop
 | mk (H':Hp) (I:Inv X pins σ H' s') (q:Q b H'):TP X pins σ Q b s'
inductive AP(X:Cx)(pins:List (Addr × Obj))(σ:St)(Q:List V->Hp->Prop)(us:List Value)(s':Shared):Prop
 | mk (vs:List V) (H':Hp) (I:Inv X pins σ H' s') (r:Vals vs us) (q:Q vs H'):AP X pins σ Q us s'
inductive SPn(X:Cx)(pins:List (Addr × Obj))(N:St->Hp->Prop)(s':Shared):Prop
 | mk (σ':St) (H':Hp) (I:Inv X pins σ' H' s') (q:N σ' H'):SPn X pins N s'
inductive SPr(X:Cx)(pins:List (Addr × Obj))(R:V->Hp->Prop)(u:Value)(s':Shared):Prop
 | mk (v:V) (σ':St) (H':Hp) (I:Inv X pins σ' H' s') (r:RelV v u) (q:R v H'):SPr X pins R u s'
def SP(X:Cx)(pins:List (Addr × Obj))(D:Ends)(f:Flow)(s':Shared):Prop :=
 match f with
 | .next=>SPn X pins D.nx s'
 | .brk=>SPn X pins D.bk s'
 | .cont=>SPn X pins D.ct s'
 | .ret u=>SPr X pins D.rt u s'
def PE(X:Cx)(e:Expr)(t:TE):Prop :=
 ∀(pins:List (Addr × Obj)) (s:Shared) (σ:St) (H:Hp) (Q:VK),Inv X pins σ H s->t σ H Q->wpAny (model X.prog X.w) X.A (eval e X.env) (EP X pins σ Q) X.xe s
def PT(X:Cx)(e:Expr)(t:TT):Prop :=
 ∀(pins:List (Addr × Obj)) (s:Shared) (σ:St) (H:Hp) (Q:Bool->Hp->Prop),Inv X pins σ H s->t σ H Q->wpAny (model X.prog X.w) X.A (isTrue e X.env (eval e X.env)) (TP X pins σ Q) X.xe s
def PW(X:Cx)(e:Expr)(t:TT):Prop :=
 ∀(whole:Sem Value) (pins:List (Addr × Obj)) (s:Shared) (σ:St) (H:Hp) (Q:Bool->Hp->Prop),Inv X pins σ H s->t σ H Q->wpAny (model X.prog X.w) X.A (isTrue e X.env whole) (TP X pins σ Q) X.xe s
theorem PW.pt{X:Cx}{e:Expr}{t:TT}(h:PW X e t):PT X e t:=h _
def PA(X:Cx)(es:List Expr)(t:TA):Prop :=
 ∀(pos:Pos) (pins:List (Addr × Obj)) (s:Shared) (σ:St) (H:Hp) (Q:List V->Hp->Prop),Inv X pins σ H s->t σ H Q->wpAny (model X.prog X.w) X.A (spliced (backTo pos (Zz6 es X.env))) (AP X pins σ Q) X.xe s
def PS(X:Cx)(st:Stmt)(t:TS):Prop :=
 ∀(pins:List (Addr × Obj)) (s:Shared) (σ:St) (H:Hp) (D:Ends),Inv X pins σ H s->t D σ H->wpAny (model X.prog X.w) X.A (exec st X.env) (SP X pins D) X.xe s
def PSs(X:Cx)(st:List Stmt)(t:TS):Prop :=
 ∀(pins:List (Addr × Obj)) (s:Shared) (σ:St) (H:Hp) (D:Ends),Inv X pins σ H s->t D σ H->wpAny (model X.prog X.w) X.A (execs st X.env) (SP X pins D) X.xe s
theorem thn{α:Type}{t:Sem α}{Q Q':α->Shared->Prop}{M:Model}{s:Shared}(h:wpAny M A t Q E s)(hQ:∀a s,Q a s->Q' a s):wpAny M A t Q' E s:=ZBg h hQ λ_ _ x=>x
end L2
namespace L2
open PySem PySem.Spec PyProof.Rows
variable{H:Hp}{pins:List (Addr × Obj)}{pos:Pos}{s:Shared}{σ:St}{x:Str}{u:Value}{E Q:Value->Shared->Prop}
section
variable{X:Cx}
def Zzh(i:Nat):TE:=λσ H Q=>∃v,σ[i]?=some (some v)/\Q v H
def tC(v:V):TE:=λ_ H Q=>Q v H
theorem Zcg{i:Nat}(hN:X.N[i]?=some x)(hv:Vis X.env.scope x)(hd:(x==("__debug__":Str))=false:=by decide)(hcd:(x==("__classdict__":Str))=false:=by decide):PE X (.Name x pos) (Zzh i):=by
 intro pins s σ H Q I h;obtain⟨v,e,h⟩:=h;obtain⟨m,hn,hl⟩:=I.loc;obtain⟨u,r,l⟩:=hl i x v hN e hv;have fin:EP X pins σ Q u s:=⟨v,H,I,r,h⟩;rcases l with⟨hk,hm⟩ | ⟨hk,c,hc,hcell⟩
 ·exact wpAny_Name (wpAny_loadName_local I.ok.kind hk hn hm fin) hd
 ·rcases hk with hk | hk
  ·exact wpAny_Name (wpAny_loadName_cell I.ok.kind hk hc hcell fin) hd
  ·exact wpAny_Name (wpAny_loadName_free I.ok.kind hk hc hcell fin hcd) hd
theorem Zth{i j pos}:PE X (.Constant (.int i) j pos) (tC (.int i)):=λ_ _ _ H _ I h=>wpAny_Constant_int ⟨.int i,H,I.tok _,⟨_,rfl⟩,h⟩
theorem ZyN{b j pos}:PE X (.Constant (.bool b) j pos) (tC (.bl b)):=λ_ _ _ H _ I h=>Constant_bool ⟨.bl b,H,I,rfl,h⟩
theorem Zs2{j pos}:PE X (.Constant .none j pos) (tC .non):=λ_ _ _ H _ I h=>Constant_none ⟨.non,H,I,rfl,h⟩
theorem Zyb{x j pos}:PE X (.Constant (.str x) j pos) (tC (.str x)):=λ_ _ _ H _ I h=>Calls.Constant_str ⟨.str x,H,I.tok _,⟨_,rfl⟩,h⟩
def Gl(X:Cx)(x:Str):Prop:=X.env.kindOf x=some .globalImplicit
theorem Zmy(I:Inv X pins σ H s)(hg:Gl X x)(hm:X.mg x=some u)(h:Q u s)
  (hd:(x==("__debug__":Str))=false:=by decide):wpAny (model X.prog X.w) X.A (eval (.Name x pos) X.env) Q E s :=
 ZDO I.ok.kind hg (Calls.loadGlobal_global (by rw[I.ok.glob]; exact I.mod.glob.keeps I.bk) hm h) hd
theorem ZhX(I:Inv X pins σ H s)(hg:Gl X x)(hm:X.mg x=none)(hv:ZAW x=some u)(h:Q u s)
  (hn:x ≠ "__name__":=by decide) (hd:(x==("__debug__":Str))=false:=by decide):wpAny (model X.prog X.w) X.A (eval (.Name x pos) X.env) Q E s:=by
 obtain⟨mb,h1,h2⟩:=I.mod.blt;exact ZDO I.ok.kind hg (Calls.loadGlobal_builtin (by rw[I.ok.glob]; exact I.mod.glob.keeps I.bk) hm (by rw[I.ok.blt]; exact h1.keeps I.bk) ((h2 x hn).trans hv) h) hd
theorem Zru{v:V}(hg:Gl X x)(hm:X.mg x=some u)(r:RelV v u)(hd:(x==("__debug__":Str))=false:=by decide):PE X (.Name x pos) (tC v) :=
 λ_ _ _ H _ I h=>Zmy I hg hm ⟨v,H,I,r,h⟩ hd
theorem ZvV{v:V}(hg:Gl X x)(hm:X.mg x=none)(hv:ZAW x=some u)(r:RelV v u)(hn:x ≠ "__name__":=by decide)(hd:(x==("__debug__":Str))=false:=by decide):PE X (.Name x pos) (tC v) :=
 λ_ _ _ H _ I h=>ZhX I hg hm hv ⟨v,H,I,r,h⟩ hn hd
variable{a b:Expr}{ta tb:TE}{pos:Pos}
def PC(X:Cx)(op:CmpOp)(a b:Expr)(t:TE):Prop :=
 ∀(pins:List (Addr × Obj)) (s:Shared) (σ:St) (H:Hp) (Q:VK),Inv X pins σ H s->t σ H Q ->
  wpAny (model X.prog X.w) X.A (eval a X.env) (λv s₁=>wpAny (model X.prog X.w) X.A (eval b X.env) (λu s₂=>wpAny (model X.prog X.w) X.A (ZA7 op v u) (EP X pins σ Q) X.xe s₂) X.xe s₁) X.xe s
theorem ZkT(b:Expr){op:CmpOp}(h:op≠.In)(h2:op≠.NotIn):ZBa op b=false:=by
 have e1:(op==CmpOp.In)=false:=by cases op<;>first | rfl | exact absurd rfl h
 have e2:(op==CmpOp.NotIn)=false:=by cases op<;>first | rfl | exact absurd rfl h2
 cases b<;>simp[ZBa,e1,e2]
def tB(t:TE):TT:=λσ H Q=>t σ H λx H1=>∃c,x=.bl c/\Q c H1
theorem Zp3{op:CmpOp}{t:TE}(h:PC X op a b t)(h1:ZBa op b=false:=by first | exact ZkT _ (by decide) (by decide) | rfl):PT X (.Compare a [op] [b] pos) (tB t):=by intro pins s σ H Q I hw;refine wpAny_isTrue_Compare1 (thn (h pins s σ H _ I hw) λv s1 h1=>thn h1 λu s2 h2=>thn h2 λc s3 ⟨x,H1,I1,r1,q1⟩=>?_) h1;obtain⟨d,rfl,q⟩:=q1;cases r1;exact ZBE ⟨H1,I1,q⟩
theorem ZxM{e:Expr}{t:TE}(h:PE X e t)(he:∀whole,isTrue e X.env whole=(do let v <-whole; standAt e.pos; holding [v] (truthy v)):=by intro _; rfl):PT X e (tB t):=by intro pins s σ H Q I hw;refine isTrue_plain (thn (h pins s σ H _ I hw) λv s1 ⟨x,H1,I1,r1,q1⟩=>?_) (he _);obtain⟨d,rfl,q⟩:=q1;cases r1;exact ZBE ⟨H1,I1,q⟩
variable{tA tB':TT}{rest:List Expr}
def tOr(t u:TT):TT:=λσ H Q=>t σ H λc H1=>if c=true then Q true H1 else u σ H1 Q
def Zej(t:TT):TT:=λσ H Q=>t σ H λc H1=>Q (!c) H1
theorem Zyk(ha:PT X a tA):PW X (.BoolOp .Or [a] pos) tA:=by
 intro wh pins s σ H Q I h;refine isTrue_or (thn (ha pins s σ H Q I h) λc s1 e=>?_);cases c with
 | false=>exact isTrue_or_nil e
 | true=>exact e
theorem Zvz(ha:PT X a tA)(hb:PW X (.BoolOp .Or (b::rest) pos) tB'):PW X (.BoolOp .Or (a::b::rest) pos) (tOr tA tB'):=by
 intro wh pins s σ H Q I h;refine isTrue_or (thn (ha pins s σ H _ I h) λc s1 ⟨H1,I1,q1⟩=>?_);cases c with
 | true=>exact⟨H1,I1,q1⟩
 | false=>exact hb wh pins s1 σ H1 Q I1 q1
theorem Zxz(ha:PT X a tA):PT X (.UnaryOp .Not a pos) (Zej tA):=by intro pins s σ H Q I h;exact isTrue_not (thn (ha pins s σ H (λc H1=>Q (!c) H1) I h) λ_ _ ⟨H',I',q'⟩=>⟨H',I',q'⟩)
def ZyG(ta tb:TE):TE:=λσ H Q=>ta σ H λx H1=>∃c,x=.bl c/\if c=true then tb σ H1 Q else Q (.bl false) H1
def ZyT(ta:TE):TE:=λσ H Q=>ta σ H λx H1=>∃c,x=.bl c/\Q (.bl (!c)) H1
theorem Zxh{op}{t:TE}(h:PE X a t):PE X (.BoolOp op [a] pos) t:=λpins s σ H Q I hw=>BoolOp_one (h pins s σ H Q I hw)
theorem Ztt(ha:PE X a ta)(hb:PE X (.BoolOp .And (b::rest) pos) tb):PE X (.BoolOp .And (a::b::rest) pos) (ZyG ta tb):=by
 intro pins s σ H Q I h;refine BoolOp_and (thn (ha pins s σ H _ I h) λv s1 ⟨x,H1,I1,r1,q1⟩=>?_);obtain⟨c,rfl,q1⟩:=q1;cases r1;refine ZBE ?_;cases c with
 | true=>exact hb pins s1 σ H1 Q I1 q1
 | false=>exact⟨.bl false,H1,I1,rfl,q1⟩
theorem Zxu(ha:PE X a ta):PE X (.UnaryOp .Not a pos) (ZyT ta):=by intro pins s σ H Q I h;refine UnaryOp_ (thn (ha pins s σ H _ I h) λv s1 ⟨x,H1,I1,r1,q1⟩=>?_);obtain⟨c,rfl,q1⟩:=q1;cases r1;exact not_of (ZBE ⟨.bl (!c),H1,I1,rfl,q1⟩)
def tIf(t:TT)(ta tb:TE):TE:=λσ H Q=>t σ H λc H1=>if c=true then ta σ H1 Q else tb σ H1 Q
theorem Zpg{c:Expr}(hc:PT X c tA)(ha:PE X a ta)(hb:PE X b tb):PE X (.IfExp c a b pos) (tIf tA ta tb):=by
 intro pins s σ H Q I h;refine wpAny_IfExp (thn (hc pins s σ H _ I h) λd s1 ⟨H1,I1,q1⟩=>?_);cases d with
 | true=>exact ha pins s1 σ H1 Q I1 q1
 | false=>exact hb pins s1 σ H1 Q I1 q1
end
end L2
namespace L2
open PySem PySem.Spec PyProof.Rows
variable{X:Cx}{c tg:Expr}{H:Hp}{pins:List (Addr × Obj)}{es:List Expr}{i:Nat}{P:Program}{K:ZzS}{s:Shared}{σ:St}{x:Str}{u:Value}{E:Value->Shared->Prop}{w:World}
def SqL(K:ZzS)(H:Hp)(a:Addr)(xs:List V):Prop :=
 Rd H a (.lst xs) \/
  ∃(o:Obj) (its:Array Value) (n:Nat),K.lookup a=some o/\o.cls=.type "list"/\o.dict=none/\o.data=.seq its n/\its.size<=sizeLine/\Vals xs its.toList
def SqT(K:ZzS)(H:Hp)(a:Addr)(xs:List V):Prop :=
 Rd H a (.tup xs) \/
  ∃(o:Obj) (its:Array Value) (n:Nat),K.lookup a=some o/\o.cls=.type "tuple"/\o.data=.seq its n/\its.size<=sizeLine/\Vals xs its.toList
def Zzj:Value->Option V
 | .none=>some .non
 | .bool b=>some (.bl b)
 | .int i _=>some (.int i)
 | .str x _=>some (.str x)
 | .bytes b _=>some (.byt b)
 | .float b _=>some (.flt b)
 | .ref a=>some (.ref a)
 | .type n=>some (.ty n)
 | _=>none
theorem RelV.abs{x:V}(r:RelV x u):Zzj u=some x:=by
 cases x with
 | non=>cases r; rfl
 | bl _=>cases r; rfl
 | int _=>obtain⟨t,rfl⟩:=r; rfl
 | str _=>obtain⟨t,rfl⟩:=r; rfl
 | byt _=>obtain⟨t,rfl⟩:=r; rfl
 | flt _=>obtain⟨t,rfl⟩:=r; rfl
 | ref _=>cases r; rfl
 | ty _=>cases r; rfl
theorem RelV.inj{x y:V}{u:Value}(r:RelV x u)(q:RelV y u):x=y:=ZAz (r.abs.symm.trans q.abs)
theorem Vals.inj:∀{xs ys:List V} {us:List Value},Vals xs us->Vals ys us->xs=ys
 | _,_,_,.nil,.nil=>rfl
 | _,_,_,.cons r t,.cons r' t'=>by rw[r.inj r',Vals.inj t t']
section
variable{X:Cx}{pins:List (Addr × Obj)}{σ:St}{H:Hp}{s:Shared}{a:Addr}{xs ys:List V}
theorem SqL.of(h:H a=some (.lst xs)):SqL K H a xs:=.inl (.inl h)
theorem SqT.of(h:H a=some (.tup xs)):SqT K H a xs:=.inl (.inl h)
theorem Inv.list(I:Inv X pins σ H s)(h:SqL X.K H a xs):∃its:List Value,Vals xs its/\PlainL s.heap a its.toArray/\xs.length<=sizeLine:=by
 rcases h with h | ⟨o,its,n,hk,hc,hd,hs,hz,r⟩
 ·obtain⟨z,its,n,r,e⟩:=h.ok I.hok
  exact⟨its,r,⟨_,n,e,rfl,rfl,rfl⟩,z⟩
 ·refine⟨its.toList,r,⟨o,n,I.kIn a o hk,hc,hd,by simpa using hs⟩,?_⟩
  have e:=r.length;simp only[ZAm]at e;omega
theorem Inv.tuple(I:Inv X pins σ H s)(h:SqT X.K H a xs):∃its:List Value,Vals xs its/\IsTup s.heap a its.toArray/\xs.length<=sizeLine:=by
 rcases h with h | ⟨o,its,n,hk,hc,hs,hz,r⟩
 ·obtain⟨z,its,r,p⟩:=h.ok I.hok
  exact⟨its,r,p,z⟩
 ·refine⟨its.toList,r,⟨o,I.kIn a o hk,hc,n,by simpa using hs⟩,?_⟩
  have e:=r.length;simp only[ZAm]at e;omega
theorem Inv.list_inj(I:Inv X pins σ H s)(h:SqL X.K H a xs)(h':SqL X.K H a ys):xs=ys:=by
 obtain⟨its,r,⟨o,n,e,_,_,d⟩,_⟩:=I.list h;obtain⟨its',r',⟨o',n',e',_,_,d'⟩,_⟩:=I.list h';rw[e]at e'; cases e';rw[d]at d';injection d' with d1 _
 have:its=its':=by simpa using congrArg Array.toList d1
 subst this;exact r.inj r'
theorem Inv.tuple_inj(I:Inv X pins σ H s)(h:SqT X.K H a xs)(h':SqT X.K H a ys):xs=ys:=by
 obtain⟨its,r,⟨o,e,_,n,d⟩,_⟩:=I.tuple h;obtain⟨its',r',⟨o',e',_,n',d'⟩,_⟩:=I.tuple h';rw[e]at e'; cases e';rw[d]at d';injection d' with d1 _
 have:its=its':=by simpa using congrArg Array.toList d1
 subst this;exact r.inj r'
end
abbrev Cx.wish(X:Cx)(E:Value->Shared->Prop):Cx:={ X with xe:=E }
abbrev Cx.nox(X:Cx):Cx:=X.wish λ_ _=>False
theorem Cx.Ok.wish{X:Cx}(ok:X.Ok)(E:Value->Shared->Prop):(X.wish E).Ok :=
 ⟨ok.mod,ok.kind,ok.glob,ok.blt,ok.above,ok.inj,ok.has,ok.cab,ok.hd,ok.frames,ok.stk,ok.exf,ok.bs,ok.bsz,ok.noex,ok.exfs,ok.funs,ok.frf⟩
theorem Cx.Ok.unwish(ok:(X.wish E).Ok):X.Ok :=
 ⟨ok.mod,ok.kind,ok.glob,ok.blt,ok.above,ok.inj,ok.has,ok.cab,ok.hd,ok.frames,ok.stk,ok.exf,ok.bs,ok.bsz,ok.noex,ok.exfs,ok.funs,ok.frf⟩
section
variable{X:Cx}{pins:List (Addr × Obj)}{σ:St}{H:Hp}{s:Shared}{E:Value->Shared->Prop}
theorem Inv.wish(I:Inv X pins σ H s)(E:Value->Shared->Prop):Inv (X.wish E) pins σ H s:=⟨I.ok.wish E,I.os,I.bare,I.base,I.loc,I.cell,I.free,I.freeC,I.pin,I.hok,I.len⟩
theorem Inv.unwish(I:Inv (X.wish E) pins σ H s):Inv X pins σ H s:=⟨I.ok.unwish,I.os,I.bare,I.base,I.loc,I.cell,I.free,I.freeC,I.pin,I.hok,I.len⟩
theorem SP.unwish{D:Ends}{f:Flow}{s':Shared}(h:SP (X.wish E) pins D f s'):SP X pins D f s':=by
 cases f with
 | next=>obtain⟨σ',H',I,q⟩:=h; exact⟨σ',H',I.unwish,q⟩
 | brk=>obtain⟨σ',H',I,q⟩:=h; exact⟨σ',H',I.unwish,q⟩
 | cont=>obtain⟨σ',H',I,q⟩:=h; exact⟨σ',H',I.unwish,q⟩
 | ret u=>obtain⟨v,σ',H',I,r,q⟩:=h; exact⟨v,σ',H',I.unwish,r,q⟩
theorem PSs.nox{st:List Stmt}{t:TS}(h:PSs X.nox st t):PSs X st t:=λpins s σ H D I hw=>ZBg (h pins s σ H D (I.wish _) hw) (λ_ _ q=>q.unwish) λ_ _ z=>ZAY z
end
section
variable{X:Cx}{st:Stmt}{rest:List Stmt}{t u:TS}{e:Expr}{te:TE}{pos:Pos}
def Zys:TS:=λD σ H=>D.nx σ H
def Zze(t u:TS):TS:=λD σ H=>t { D with nx:=u D } σ H
theorem Zwk:PSs X [] Zys:=λ_ _ σ H _ I h=>ZDp ⟨σ,H,I,h⟩
theorem Ziy(h1:PS X st t)(h2:PSs X rest u):PSs X (st::rest) (Zze t u):=by
 intro pins s σ H D I h;refine wpAny_execs_cons (thn (h1 pins s σ H { D with nx:=u D } I h) λf s1 q=>?_);cases f with
 | next=>obtain⟨σ',H',I',q⟩:=q;exact h2 pins s1 σ' H' D I' q
 | ret v=>exact q
 | brk=>exact q
 | cont=>exact q
theorem Zrk(h1:PS X st t):PSs X [st] t:=by
 intro pins s σ H D I h;refine wpAny_execs_cons (thn (h1 pins s σ H D I h) λf s1 q=>?_);cases f with
 | next=>exact ZDp q
 | ret v=>exact q
 | brk=>exact q
 | cont=>exact q
theorem Inv.quiet(I:Inv X pins σ H s):interactive X.env=false:=by simp[interactive,I.ok.kind]
def Zyx(te:TE):TS:=λD σ H=>te σ H λ_ H1=>D.nx σ H1
theorem Zh1(he:PE X e te)(hs:ZBT e none pos.line X.env=pure false:=by rfl):PS X (.Expr e pos) (Zyx te):=by intro pins s σ H D I h;exact wpAny_Expr_any (thn (he pins s σ H _ I h) λv s1 ⟨x,H1,I1,r1,q1⟩=>⟨σ,H1,I1,q1⟩) I.quiet hs
def Zzk(te:TE):TS:=λD σ H=>te σ H D.rt
theorem Zo9(he:PE X e te):PS X (.Return (some e) pos) (Zzk te):=by intro pins s σ H D I h;exact wpAny_Return_some (thn (he pins s σ H _ I h) λv s1 ⟨x,H1,I1,r1,q1⟩=>⟨x,σ,H1,I1,r1,q1⟩)
def Zzi(c:TT)(t u:TS):TS:=λD σ H=>c σ H λb H1=>if b=true then t D σ H1 else u D σ H1
theorem ZvD{a b:List Stmt}{tc:TT}(hc:PT X c tc)(ha:PSs X a t)(hb:PSs X b u):PS X (.If c a b pos) (Zzi tc t u):=by
 intro pins s σ H D I h;refine wpAny_If (thn (hc pins s σ H _ I h) λd s1 ⟨H1,I1,q1⟩=>?_);cases d with
 | true=>exact ha pins s1 σ H1 D I1 q1
 | false=>exact hb pins s1 σ H1 D I1 q1
def ZxW:TS:=λ_ _ _=>False
theorem Zhf{sts:List Stmt}:PSs X sts ZxW:=λ_ _ _ _ _ _ h=>h.elim
end
abbrev TG:=V->St->Hp->(St->Hp->Prop)->Prop
abbrev TGs:=List V->St->Hp->(St->Hp->Prop)->Prop
def PG(X:Cx)(target:Expr)(t:TG):Prop :=
 ∀(pins:List (Addr × Obj)) (s:Shared) (σ:St) (H:Hp) (v:V) (u:Value) (Q:St->Hp->Prop),Inv X pins σ H s->RelV v u->t v σ H Q ->
  wpAny (model X.prog X.w) X.A (assign target X.env u) (λ_ s'=>∃σ' H',Inv X pins σ' H' s'/\Q σ' H') X.xe s
def PGs(X:Cx)(ts:List Expr)(t:TGs):Prop :=
 ∀(pins:List (Addr × Obj)) (s:Shared) (σ:St) (H:Hp) (vs:List V) (us:List Value) (Q:St->Hp->Prop),Inv X pins σ H s->Vals vs us->t vs σ H Q ->
  wpAny (model X.prog X.w) X.A (assignInOrder ((ZB0 ts X.env).map (·.2)) us) (λ_ s'=>∃σ' H',Inv X pins σ' H' s'/\Q σ' H') X.xe s
abbrev ZuN:=V->V->V->Hp->(Hp->Prop)->Prop
def ZxD(X:Cx)(t:ZuN):Prop :=
 ∀(pins:List (Addr × Obj)) (s:Shared) (σ:St) (H:Hp) (o i v:V) (ov iv u:Value) (Q:Hp->Prop),Inv X pins σ H s->RelV o ov->RelV i iv->RelV v u->t o i v H Q ->
  wpAny (model X.prog X.w) X.A (setItem ov iv u) (λ_ s'=>∃H',Inv X pins σ H' s'/\Q H') X.xe s
section
variable{X:Cx}{pos:Pos}
def ZnT(i:Nat):TG:=λv σ H Q=>Q (σ.set i (some v)) H
theorem Zge(hN:X.N.Nodup)(hi:X.N[i]?=some x)(hx:Loc X.env.scope x)(hf:X.fn x=true\/X.env.scope.names.lookup x=some .local:=by first | exact .inl rfl | exact .inr rfl | assumption):PG X (.Name x pos) (ZnT i):=by intro pins s σ H v u Q I r h;exact wpAny_assign_Name (ZpT I hN hi hx r (λs' I'=>⟨_,H,I',h⟩) hf)
def Zx1:TGs:=λvs σ H Q=>vs=[]/\Q σ H
def Zsi(t:TG)(u:TGs):TGs:=λvs σ H Q=>∃v r,vs=v::r/\t v σ H λσ' H'=>u r σ' H' Q
theorem Zrb:PGs X [] Zx1:=by intro pins s σ H vs us Q I r h;obtain⟨e,h⟩:=h;subst e;cases r;exact assignInOrder_nil ⟨σ,H,I,h⟩
theorem ZiJ{e:Expr}{t:TG}{u:TGs}(h1:PG X e t)(h2:PGs X es u)
  (hs:(ZB0 (e::es) X.env).map (·.2)=assign e X.env::(ZB0 es X.env).map (·.2):=by rfl):PGs X (e::es) (Zsi t u):=by
 intro pins s σ H vs us Q I r h;obtain⟨v,vr,e1,h⟩:=h;subst e1;cases r with
 | cons r rr=>rw[hs];refine assignInOrder_cons (thn (h1 pins s σ H _ _ _ I r h) λ_ s1 ⟨σ1,H1,I1,q1⟩=>?_);exact h2 pins s1 σ1 H1 _ _ Q I1 rr q1
def Zyh(K:ZzS)(n:Nat)(t:TGs):TG:=λv σ H Q=>∃a xs,v=.ref a/\SqT K H a xs/\xs.length=n/\t xs σ H Q
theorem ZsR{k:Nat}{t:TGs}{n:Nat}(hc:X.calm=true)(h:PGs X es t)
  (hn:(ZB0 es X.env).length=n:=by rfl) (hst:(ZB0 es X.env).findIdx? (·.1)=none:=by rfl):PG X (.Tuple es k pos) (Zyh X.K n t):=by
 intro pins s σ H v u Q I r hw;obtain⟨a,xs,e1,hq,hl,hw⟩:=hw;subst e1;cases r;obtain⟨its,rv,ht,hz⟩:=I.tuple hq;refine assign_Tuple_tuple (I.ok.hd hc) ht (by simp[hn,<-hl,rv.length]) hst λh' hx=>?_;have I1:Inv X pins σ H { s with heap:=h' }:=I.kept (t':=s.toks) λb o e=>hx b o (ZAf (Zz9 e)) e;exact h pins _ σ H xs _ Q I1 (by simpa using rv) hw
def ZmE(to ti:TE)(t:ZuN):TG:=λv σ H Q=>to σ H λo H1=>ti σ H1 λi H2=>t o i v H2 λH3=>Q σ H3
theorem Zya{o i:Expr}{to ti:TE}{t:ZuN}(ho:PE X o to)(hi:PE X i ti)(hs:ZxD X t)
  (ha:∀v,assign (.Subscript o i pos) X.env v=(do
   let ov <-holding [v] (eval o X.env)
   let iv <-holding [v,ov] (eval i X.env)
   standAt pos
   holding [v,ov,iv] (setItem ov iv v)
   release [v,ov,iv] []):=by intro _; rfl):PG X (.Subscript o i pos) (ZmE to ti t):=by
 intro pins s σ H v u Q I r h;rw[ha];refine ZzQ (ZBb (thn (ho pins s σ H _ I h) λov s1 ⟨x,H1,I1,r1,q1⟩=>?_));refine ZzQ (ZBb (thn (hi pins s1 σ H1 _ I1 q1) λiv s2 ⟨y,H2,I2,r2,q2⟩=>?_));refine ZzQ (wpAny_standAt (ZzQ (ZBb (thn (hs pins s2 σ H2 x y v ov iv u _ I2 r1 r2 r q2) λ_ s3 ⟨H3,I3,q3⟩=>?_))));exact wpAny_release ⟨σ,H3,I3,q3⟩
def ZxB(te:TE)(g:TG):TS:=λD σ H=>te σ H λx H1=>g x σ H1 D.nx
theorem Zx2{e:Expr}{te:TE}{g:TG}(he:PE X e te)(hg:PG X tg g)(hs:swapsWithSole [tg] e pos.line X.env=pure false:=by rfl)(hw:swappedStores [tg] e X.env=pure none:=by rfl)
  (h1:(ZB0 [tg] X.env).map (·.2)=[assign tg X.env]:=by rfl):PS X (.Assign [tg] e pos) (ZxB te g):=by
 intro pins s σ H D I h;refine wpAny_Assign_stores (thn (he pins s σ H _ I h) λv s1 ⟨x,H1,I1,r1,q1⟩=>?_) hs hw;rw[h1];exact thn (hg pins s1 σ H1 x v _ I1 r1 q1) λ_ s2 ⟨σ',H',I',q'⟩=>⟨σ',H',I',q'⟩
theorem Zo6{e:Expr}{te:TE}{pos':Pos}(hN:X.N.Nodup)(hi:X.N[i]?=some x)(hx:Loc X.env.scope x)(he:PE X e te)(hs:ZBT e (some (.Name x pos')) pos.line X.env=pure false:=by rfl)(hf:X.fn x=true\/X.env.scope.names.lookup x=some .local:=by first | exact .inl rfl | exact .inr rfl | assumption) :
  PS X (.Assign [.Name x pos'] e pos) (ZxB te (ZnT i)):=by
 intro pins s σ H D I h;refine wpAny_Assign_Name (thn (he pins s σ H _ I h) λv s1 ⟨y,H1,I1,r1,q1⟩=>?_) hs;exact ZpT I1 hN hi hx r1 (λs2 I2=>⟨_,H1,I2,q1⟩) hf
end
section
variable{X:Cx}{pos:Pos}
def Zyl(c:TT)(tb:TS):TS:=λD σ H=>∃W:Nat->St->Hp->Prop,(∃m,W m σ H)/\∀m σ H,W m σ H ->
 c σ H λb H1=>if b=true then ∃N:St->Hp->Prop,(∀σ' H',N σ' H'->∃m',m'<m/\W m' σ' H')/\tb { D with nx:=N,ct:=N,bk:=D.nx } σ H1 else D.nx σ H1
theorem Zur{body:List Stmt}{tc:TT}{tb:TS}(hp:PassesOwn (model X.prog X.w) X.A X.env X.xe)(hc:PT X c tc)(hb:PSs X body tb):PS X (.While c body [] pos) (Zyl tc tb):=by
 intro pins s σ H D I h;obtain⟨W,⟨m0,w0⟩,turn⟩:=h;refine wpAny_While (codeAny_whileLoop (λn s'=>∃σ' H',Inv X pins σ' H' s'/\W n σ' H') ?_ m0 ⟨σ,H,I,w0⟩)
 rintro n s1 ⟨σ1,H1,I1,w1⟩
 refine ZB6 hp (thn (hc pins s1 σ1 H1 _ I1 (turn n σ1 H1 w1)) λb s2 ⟨H2,I2,q2⟩=>?_);cases b with
 | true =>
  obtain⟨N,hN,q2⟩:=q2;rw[if_pos rfl];refine ZB6 hp (thn (hb pins s2 σ1 H2 _ I2 q2) λf s3 q3=>?_);cases f with
  | next=>obtain⟨σ3,H3,I3,n3⟩:=q3;obtain⟨m',hm,w3⟩:=hN σ3 H3 n3;exact⟨m',hm,σ3,H3,I3,w3⟩
  | cont=>obtain⟨σ3,H3,I3,n3⟩:=q3;obtain⟨m',hm,w3⟩:=hN σ3 H3 n3;exact⟨m',hm,σ3,H3,I3,w3⟩
  | brk=>exact q3
  | ret v=>exact q3
 | false=>rw[if_neg ZAC];exact ZDp ⟨σ1,H2,I2,q2⟩
end
structure It where
 go:Nat->Hp->Prop
 yld:Nat->Hp->V->Hp->Prop
 stop:Nat->Hp->Prop
def ZfO(X:Cx)(pins:List (Addr × Obj))(H:Hp)(b:Addr):Prop :=
 H b=none/\b≠X.env.locals/\b ∉ X.fs/\(b∈X.ex\/X.s₀.heap.objs.size<=b)/\(∀x c,X.env.cells.lookup x=some c->c≠b)/\∀p∈X.pn++pins,p.1≠b
theorem Inv.fpOk{H':Hp}{b:Addr}(I:Inv X pins σ H s)(hb:s.heap.objs.size<=b)(hn:H' b=none):ZfO X pins H' b:=by
 refine⟨hn,ZCU (ZAn I.lt hb),I.nofs hb,.inr (ZAR I.sz hb),λx c e z=>?_,λp hp z=>?_⟩
 ·obtain⟨v,q⟩:=I.cell x c e
  exact absurd (ZAn q.lt (by rw[z]; exact hb)) (ZBI _)
 ·exact absurd (ZAn (Zz9 (I.pin p hp).1) (by rw[z]; exact hb)) (ZBI _)
structure Turn(P:Program)(w:World)(K:ZzS)(tg:Expr)(J:It)(fp:List Addr)(it:Addr)(tn:Nat->Heap->Prop):Prop where
 mem:it∈fp
 obj:∀i h,tn i h->∀b∈fp,∃o,h.get? b=some o/\∀v,o.data≠.cell v
 keep:∀i h h',tn i h->(∀b∈fp,∀o,h.get? b=some o->h'.get? b=some o)->tn i h'
 item:∀(X:Cx),X.prog=P->X.w=w->X.K=K->X.calm=true->∀(i:Nat) (pins:List (Addr × Obj)) (s:Shared) (σ:St) (H:Hp) (E:Value->Shared->Prop),Inv X pins σ H s->(∀b∈fp,ZfO X pins H b)->tn i s.heap->J.go i H ->
  wpAny (model P w) X.A (pyNext (.ref it)) (λr s1=>∃u,r=some u /\
   wpAny (model P w) X.A (ZDq tg (.ref it) u) (λ_ s2=>∃x H',Inv X pins σ H' s2/\RelV x u/\J.yld i H x H'/\tn (i+1) s2.heap/\∀b∈fp,H' b=none) E s1) E s
 done:∀(X:Cx),X.prog=P->X.w=w->X.K=K->X.calm=true->∀(i:Nat) (pins:List (Addr × Obj)) (s:Shared) (σ:St) (H:Hp) (E:Value->Shared->Prop),Inv X pins σ H s->(∀b∈fp,ZfO X pins H b)->tn i s.heap->J.stop i H ->
  wpAny (model P w) X.A (pyNext (.ref it)) (λr s1=>r=none/\Inv X pins σ H s1) E s
 self:∀(A:Around) (i:Nat) (s:Shared) (Q:Value->Shared->Prop) (E:Value->Shared->Prop),tn i s.heap->Q (.ref it) s->wpAny (model P w) A (pyIter (.ref it)) Q E s
abbrev TI:=St->Hp->(It->Hp->Prop)->Prop
def PIE(X:Cx)(pins:List (Addr × Obj))(σ:St)(tg:Expr)(R:It->Hp->Prop)(itv:Value)(s2:Shared):Prop :=
 ∃(it:Addr) (fp:List Addr) (tn:Nat->Heap->Prop) (J:It) (H':Hp),itv=.ref it/\Inv X pins σ H' s2/\Turn X.prog X.w X.K tg J fp it tn/\tn 0 s2.heap/\(∀b∈fp,ZfO X pins H' b)/\R J H'
def PI(X:Cx)(tg iter:Expr)(wi:TI):Prop :=
 ∀(pins:List (Addr × Obj)) (s:Shared) (σ:St) (H:Hp) (R:It->Hp->Prop),Inv X pins σ H s->wi σ H R ->
  wpAny (model X.prog X.w) X.A (eval iter X.env) (λv s1=>wpAny (model X.prog X.w) X.A (pyIter v) (PIE X pins σ tg R) X.xe s1) X.xe s
theorem ZnO{M:Model}{A:Around}{it:Addr}{o:Obj}{n:String}{vs:Array Value}{Q:Unit->Shared->Prop}(ho:s.heap.get? it=some o)(hc:o.cls=.type n)(hd:o.data=.fields vs)
    (hn:["enumerate","zip","dict_itemiterator","dict_reverseitemiterator","odict_iterator","itertools.zip_longest","itertools.pairwise"].contains n=false) (hQ:Q () s):wpAny M A (ZDq tg (.ref it) u) Q E s:=by
  unfold ZDq
  cases tg<;>first
    | exact ZzV hQ
    | (cases u<;>first
        | exact ZzV hQ
        | (refine ZzQ (wpAny_load ho ?_)
           rw [hc, hd]
           show wpAny M A (if (["enumerate", "zip", "dict_itemiterator", "dict_reverseitemiterator", "odict_iterator", "itertools.zip_longest", "itertools.pairwise"].contains n && vs[0]? == some (rawInt _)) = true then _ else _) Q E s
           rw [if_neg (by intro h; rw [hn, Bool.false_and] at h; cases h)]
           exact ZzV hQ))
def Itl(K:ZzS)(a:Addr):It :=
 ⟨λi H=>∃xs x,SqL K H a xs/\xs[i]?=some x,λi H x H'=>H'=H/\∀xs,SqL K H a xs->xs[i]?=some x,λi H=>∃xs,SqL K H a xs/\xs.length<=i⟩
def Itt(K:ZzS)(a:Addr):It :=
 ⟨λi H=>∃xs x,SqT K H a xs/\xs[i]?=some x,λi H x H'=>H'=H/\∀xs,SqT K H a xs->xs[i]?=some x,λi H=>∃xs,SqT K H a xs/\xs.length<=i⟩
def Itr(lo:Int)(n:Nat):It:=⟨λi _=>i<n,λi H x H'=>H'=H/\x=.int (lo+i),λi _=>n<=i⟩
theorem ZsX(a it:Addr):Turn P w K tg (Itl K a) [it] it (λi h=>h.IsListIter it a i) where
 mem:=by simp
 obj:=λi h st b hb=>by
  have e:b=it:=by simpa using hb
  subst e;obtain⟨o,e,c,d⟩:=st;exact⟨o,e,λv z=>by rw[d]at z; cases z⟩
 keep:=λi h h' st k=>st.at λo e=>k it (by simp) o e
 item:=by intro X hP hw hK hc i pins s σ H E I hf st hg;subst hP hw hK;obtain⟨xs,x,hq,hx⟩:=hg;obtain⟨its,rv,p,hz⟩:=I.list hq;obtain⟨u,hu,ru⟩:=rv.get hx;obtain⟨f0,f1,f2,f3,f4,f5⟩:=hf it (by simp);refine wpAny_pyNext_list_item st p.isList (x:=u) (by simpa using hu) λh' st' sb=>?_;have I1:Inv X pins σ H { s with heap:=h' }:=I.turned (t':=s.toks) (λb o hb e=>(sb.2 b hb).trans e) f0 f1 f3 f4 f5;obtain⟨o,e,c,d⟩:=id st';exact⟨u,rfl,ZnO (s:={ s with heap:=h' }) e c d (by decide) ⟨x,H,I1,ru,⟨rfl,λys hy=>by rw[I.list_inj hy hq]; exact hx⟩,st',λb hb=>(hf b hb).1⟩⟩
 done:=by intro X hP hw hK hc i pins s σ H E I hf st hg;subst hP hw hK;obtain⟨xs,hq,hx⟩:=hg;obtain⟨its,rv,p,hz⟩:=I.list hq;obtain⟨f0,f1,f2,f3,f4,f5⟩:=hf it (by simp);have hl:=rv.length;exact wpAny_pyNext_list_end (I.ok.hd hc) st p.isList (by simp; omega) λh' eb=>⟨rfl,I.turned (t':=s.toks) (λb o hb e=>eb b o hb e) f0 f1 f3 f4 f5⟩
 self:=λ_ _ _ _ _ st h=>wpAny_pyIter_listiter st h
theorem ZrP(a it:Addr):Turn P w K tg (Itt K a) [it] it (λi h=>h.IsTupleIter it a i) where
 mem:=by simp
 obj:=λi h st b hb=>by
  have e:b=it:=by simpa using hb
  subst e;obtain⟨o,e,c,d⟩:=st;exact⟨o,e,λv z=>by rw[d]at z; cases z⟩
 keep:=λi h h' st k=>st.at λo e=>k it (by simp) o e
 item:=by intro X hP hw hK hc i pins s σ H E I hf st hg;subst hP hw hK;obtain⟨xs,x,hq,hx⟩:=hg;obtain⟨its,rv,p,hz⟩:=I.tuple hq;obtain⟨u,hu,ru⟩:=rv.get hx;obtain⟨f0,f1,f2,f3,f4,f5⟩:=hf it (by simp);refine wpAny_pyNext_tuple_item st (show s.heap.IsTuple a its.toArray from p) (x:=u) (by simpa using hu) λh' st' sb=>?_;have I1:Inv X pins σ H { s with heap:=h' }:=I.turned (t':=s.toks) (λb o hb e=>(sb.2 b hb).trans e) f0 f1 f3 f4 f5;obtain⟨o,e,c,d⟩:=id st';exact⟨u,rfl,ZnO (s:={ s with heap:=h' }) e c d (by decide) ⟨x,H,I1,ru,⟨rfl,λys hy=>by rw[I.tuple_inj hy hq]; exact hx⟩,st',λb hb=>(hf b hb).1⟩⟩
 done:=by intro X hP hw hK hc i pins s σ H E I hf st hg;subst hP hw hK;obtain⟨xs,hq,hx⟩:=hg;obtain⟨its,rv,p,hz⟩:=I.tuple hq;obtain⟨f0,f1,f2,f3,f4,f5⟩:=hf it (by simp);have hl:=rv.length;exact wpAny_pyNext_tuple_end (I.ok.hd hc) st (show s.heap.IsTuple a its.toArray from p) (by simp; omega) λh' eb=>⟨rfl,I.turned (t':=s.toks) (λb o hb e=>eb b o hb e) f0 f1 f3 f4 f5⟩
 self:=λ_ _ _ _ _ st h=>wpAny_pyIter_tupleiter st h
theorem Zr2(it:Addr)(lo:Int)(n:Nat):Turn P w K tg (Itr lo n) [it] it (λi h=>IsRangeIter h it (lo+(i:Nat)*1) ((n:Int)-(i:Nat)) 1) where
 mem:=by simp
 obj:=λi h st b hb=>by
  have e:b=it:=by simpa using hb
  subst e;exact⟨_,st,λv z=>by have z':Data.fields _=Data.cell v:=z;cases z'⟩
 keep:=λi h h' st k=>k it (by simp) _ st
 item:=by intro X hP hw hK hc i pins s σ H E I hf st hg;subst hP hw hK;obtain⟨f0,f1,f2,f3,f4,f5⟩:=hf it (by simp);have W:=Walks.range (prog:=X.prog) (w:=X.w) (I.ok.hd hc) it lo 1 n;refine W.item i s _ _ hg st λv h' tk hv st' kk=>?_;obtain⟨t,rfl⟩:=hv;have I1:Inv X pins σ H { s with heap:=h',toks:=tk }:=I.turned (λb o hb e=>kk b o (by simpa using hb) e) f0 f1 f3 f4 f5;refine⟨_,rfl,ZnO (s:={ s with heap:=h',toks:=tk }) (n:="range_iterator") st' rfl rfl (by decide) ⟨.int (lo+i),H,I1,⟨t,?_⟩,⟨rfl,rfl⟩,st',λb hb=>(hf b hb).1⟩⟩;rw[Int.mul_one]
 done:=by intro X hP hw hK hc i pins s σ H E I hf st hg;subst hP hw hK;obtain⟨f0,f1,f2,f3,f4,f5⟩:=hf it (by simp);exact wpAny_pyNext_range_end (I.ok.hd hc) st (by have:n<=i:=hg; omega) λh' eb=>⟨rfl,I.turned (t':=s.toks) (λb o hb e=>eb b o hb e) f0 f1 f3 f4 f5⟩
 self:=λ_ _ _ _ _ st h=>wpAny_pyIter_rangeiter st h
end L2
namespace L2
open PySem PySem.Spec PyProof.Rows
variable{h:Heap}{H:Hp}{pins:List (Addr × Obj)}{fp:List Addr}{pos:Pos}{s:Shared}{σ:St}
section
variable{X:Cx}{tg:Expr}
theorem ZuD{R:It->Hp->Prop}{E:Value->Shared->Prop}{lo hi:Int}{t u v:Tok}{tk:Nat}(I:Inv X pins σ H s)(h1:-(2 ^ 62)<=lo)(h2:lo<2 ^ 62)(h3:-(2 ^ 62)<=hi)(h4:hi<2 ^ 62)
  (q:R (Itr lo (hi-lo).toNat) H):wpAny (model X.prog X.w) X.A (pyIter (.ref s.heap.objs.size)) (PIE X pins σ tg R) E { s with heap:=s.heap.push { cls:=.type "range",data:=.fields #[.int lo t,.int hi u,.int 1 v] },toks:=tk }:=by
 refine wpAny_pyIter_range (IsRange.new ..) (small_one h1 h2 h3 h4) ?_;have I1:Inv X pins σ H { s with heap:=s.heap.push { cls:=.type "range",data:=.fields #[.int lo t,.int hi u,.int 1 v] },toks:=tk }:=I.kept λb o e=>ZzW _ e;refine⟨(s.heap.push { cls:=.type "range",data:=.fields #[.int lo t,.int hi u,.int 1 v] }).objs.size,[(s.heap.push { cls:=.type "range",data:=.fields #[.int lo t,.int hi u,.int 1 v] }).objs.size],_,_,H,rfl,
  I1.kept (t':=tk) λb o e=>ZzW _ e,Zr2 _ lo (hi-lo).toNat,?_,λb hb=>?_,q⟩
 ·have e1:lo+((0:Nat):Int)*1=lo:=by simp
  have e2:(((hi-lo).toNat:Nat):Int)-((0:Nat):Int)=ZCq lo hi 1:=by rw[rangeSize_one]; split<;>omega
  show IsRangeIter _ _ (lo+((0:Nat):Int)*1) ((((hi-lo).toNat:Nat):Int)-((0:Nat):Int)) 1;rw[e1,e2];exact ZAa _ rfl
 ·have e:b=(s.heap.push { cls:=.type "range",data:=.fields #[.int lo t,.int hi u,.int 1 v] }).objs.size:=by simpa using hb
  subst e;exact I1.fpOk (Zz3 _) (I1.hok.fresh (Zz3 _))
def Za6(ta:TA):TI:=λσ H R=>ta σ H λvs H1=>∃j:Int,vs=[.int j]/\-(2 ^ 62)<=j/\j<2 ^ 62/\R (Itr 0 j.toNat) H1
theorem Ztz{a:Expr}{ta:TA}{p:Pos}(hg:Gl X "range")(hm:X.mg "range" = none)(ha:PA X [a] ta)(hs:Zz6 [a] X.env=[(false,eval a X.env)]:=by rfl):PI X tg (.Call (.Name "range" p) [a] [] pos) (Za6 ta):=by
 intro pins s σ H R I h;refine Call_ (ZhX I hg hm boot_range (ZCH (thn (ha pos pins s σ H _ I h) λus s1 ⟨vs,H1,I1,r1,q1⟩=>?_) hs rfl));obtain⟨j,e,q1,q2,q⟩:=q1;subst e;cases r1 with
 | cons r rr=>cases rr;obtain⟨t,rfl⟩:=r;exact call_range_1 (ZuD I1 (by omega) (by omega) q1 q2 (by simpa using q))
def Zzy(wi:TI)(g:TG)(tb:TS):TS:=λD σ H=>wi σ H λJ H1=>∃W:Nat->Nat->St->Hp->Prop,(∃m,W 0 m σ H1)/\∀i m σ H,W i m σ H ->
 (J.stop i H/\D.nx σ H)\/(J.go i H/\∃N:St->Hp->Prop,(∀σ' H',N σ' H'->∃m',m'<m/\W (i+1) m' σ' H')/\∀x H',J.yld i H x H'->g x σ H' λσ2 H2=>tb { D with nx:=N,ct:=N,bk:=D.nx } σ2 H2)
def Zjt(fp:List Addr)(h:Heap):List (Addr × Obj):=fp.filterMap λb=>(h.get? b).map λo=>(b,o)
theorem Zf8{b:Addr}{o:Obj}(hb:b∈fp)(e:h.get? b=some o):(b,o)∈Zjt fp h:=ZAD.mpr ⟨b,hb,by rw[e]; rfl⟩
theorem Ztg{p:Addr × Obj}(hp:p∈Zjt fp h):p.1∈fp/\h.get? p.1=some p.2:=by
 obtain⟨b,hb,e⟩:=ZAD.mp hp;cases q:h.get? b with
 | none=>rw[q]at e; cases e
 | some o=>rw[q]at e;have e':(b,o)=p:=ZAz e;subst e';exact⟨hb,q⟩
theorem Inv.pinned(I:Inv X pins σ H s)(hf:∀b∈fp,ZfO X pins H b)(ho:∀b∈fp,∃o,s.heap.get? b=some o/\∀v,o.data≠.cell v):Inv X (pins++Zjt fp s.heap) σ H s :=
 I.pins_of λp hp=>(ZAp.mp hp).elim (λz=>I.pin p (ZAg _ z)) λz=>by obtain⟨hb,e⟩:=Ztg z;obtain⟨f0,f1,f2,_⟩:=hf p.1 hb;obtain⟨o,e',d⟩:=ho p.1 hb;rw[e]at e'; cases e';exact⟨e,f0,f1,f2,d⟩
theorem Inv.unpinned{pl:List (Addr × Obj)}(I:Inv X (pins++pl) σ H s):Inv X pins σ H s:=I.pins_of λp hp=>I.pin p (ZAg _ (ZAv _ hp))
theorem ZtJ{iter:Expr}{body:List Stmt}{wi:TI}{g:TG}{tb:TS}(hp:PassesOwn (model X.prog X.w) X.A X.env X.xe)(hc:X.calm=true)(hi:PI X tg iter wi)(hg:PG X tg g)(hb:PSs X body tb)
  (hs:∀x,ZBh iter X.env x=pure x:=by intro _; rfl):PS X (.For tg iter body [] pos) (Zzy wi g tb):=by
 intro pins s σ H D I h;refine wpAny_For (thn (hi pins s σ H _ I h) λv s1 h1=>thn h1 λitv s2 h2=>?_) hs;obtain⟨it,fp,tn,J,H2,e,I2,T,st2,f2,W,⟨m0,w0⟩,turn⟩:=h2;subst e;have stat:∀{H':Hp},(∀b∈fp,H' b=none)->∀b∈fp,ZfO X pins H' b:=λhn b hb=>⟨hn b hb,(f2 b hb).2⟩;refine codeAny_forLoop_any (λn s'=>∃i σ' H',Inv X pins σ' H' s'/\tn i s'.heap/\(∀b∈fp,H' b=none)/\W i n σ' H') ?_ m0 ⟨0,σ,H2,I2,st2,λb hb=>(f2 b hb).1,w0⟩
 rintro n s3 ⟨i,σ3,H3,I3,st3,fr3,w3⟩
 rcases turn i n σ3 H3 w3 with⟨stop,qn⟩ | ⟨go,N,hN,step⟩
 ·refine ZB6 hp (thn (T.done X rfl rfl rfl hc i pins s3 σ3 H3 X.xe I3 (stat fr3) st3 stop) λr s4 ⟨hr,I4⟩=>?_)
  subst hr;exact ZDp ⟨σ3,H3,I4,qn⟩
 ·refine ZB6 hp (thn (T.item X rfl rfl rfl hc i pins s3 σ3 H3 X.xe I3 (stat fr3) st3 go) λr s4 ⟨u,hr,h4⟩=>?_)
  subst hr;refine ZB6 hp (thn h4 λ_ s5 ⟨x,H5,I5,r5,y5,st5,fr5⟩=>?_);have I5':=I5.pinned (stat fr5) (T.obj _ _ st5);refine ZB6 hp (thn (hg _ s5 σ3 H5 x u _ I5' r5 (step x H5 y5)) λ_ s6 ⟨σ6,H6,I6,q6⟩=>?_);refine ZB6 hp (thn (hb _ s6 σ6 H6 _ I6 q6) λf s7 q7=>?_);have again:∀{σ7:St} {H7:Hp},Inv X (pins++Zjt fp s5.heap) σ7 H7 s7->N σ7 H7->∃m,m<n/\∃i σ' H',Inv X pins σ' H' s7/\tn i s7.heap/\(∀b∈fp,H' b=none)/\W i m σ' H':=λ{σ7 H7} I7 n7=>by obtain⟨m',hm,w7⟩:=hN σ7 H7 n7;refine⟨m',hm,i+1,σ7,H7,I7.unpinned,T.keep _ _ _ st5 λb hb o e=>(I7.pin (b,o) (ZAg _ (ZAg _ (Zf8 hb e)))).1,λb hb=>?_,w7⟩;obtain⟨o,e,d⟩:=T.obj _ _ st5 b hb;exact(I7.pin (b,o) (ZAg _ (ZAg _ (Zf8 hb e)))).2.1
  cases f with
  | next=>obtain⟨σ7,H7,I7,n7⟩:=q7; exact again I7 n7
  | cont=>obtain⟨σ7,H7,I7,n7⟩:=q7; exact again I7 n7
  | brk=>obtain⟨σ7,H7,I7,q7⟩:=q7; exact⟨σ7,H7,I7.unpinned,q7⟩
  | ret v=>obtain⟨x7,σ7,H7,I7,r7,q7⟩:=q7; exact⟨x7,σ7,H7,I7.unpinned,r7,q7⟩
end
end L2
namespace L2
open PySem PySem.Spec PyProof.Rows
variable{H:Hp}{g:Int->Int->Int}{pins:List (Addr × Obj)}{us:List Value}{s:Shared}{σ:St}{x:V}
abbrev R2:=V->V->Hp->VK->Prop
def OpR(X:Cx)(f:Value->Value->Sem Value)(r:R2):Prop :=
 ∀(pins:List (Addr × Obj)) (s:Shared) (σ:St) (H:Hp) (x y:V) (v u:Value) (Q:VK),Inv X pins σ H s->RelV x v->RelV y u->r x y H Q ->
  wpAny (model X.prog X.w) X.A (f v u) (EP X pins σ Q) X.xe s
def Zbh(X:Cx)(f:Value)(r:List V->Hp->VK->Prop):Prop :=
 ∀(pins:List (Addr × Obj)) (s:Shared) (σ:St) (H:Hp) (xs:List V) (us:List Value) (Q:VK),Inv X pins σ H s->Vals xs us->r xs H Q ->
  wpAny (model X.prog X.w) X.A (call f us) (EP X pins σ Q) X.xe s
def tOp(r:R2)(ta tb:TE):TE:=λσ H Q=>ta σ H λx H1=>tb σ H1 λy H2=>r x y H2 Q
def rI(C:Int->Int->Prop)(g:Int->Int->V):R2:=λx y H Q=>∃i j,x=.int i/\y=.int j/\C i j/\Q (g i j) H
def rI0(g:Int->Int->V):R2:=λx y H Q=>∃i j,x=.int i/\y=.int j/\Q (g i j) H
section
variable{X:Cx}{a b c:Expr}{ta tb tc:TE}{pos:Pos}
theorem ZuY(ha:PE X a ta)(hb:PE X b tb){R:V->V->Hp->Prop}(I:Inv X pins σ H s)
  (h:ta σ H λx H1=>tb σ H1 λy H2=>R x y H2) {Q:Value->Shared->Prop} {f:Value->Value->Sem Value}
  (hf:∀v u s2 x y H2,Inv X pins σ H2 s2->RelV x v->RelV y u->R x y H2->wpAny (model X.prog X.w) X.A (f v u) Q X.xe s2) :
  wpAny (model X.prog X.w) X.A (eval a X.env) (λv s₁=>wpAny (model X.prog X.w) X.A (eval b X.env) (λu s₂=>wpAny (model X.prog X.w) X.A (f v u) Q X.xe s₂) X.xe s₁) X.xe s:=by
 refine thn (ha pins s σ H _ I h) λv s1 ⟨x,H1,I1,r1,q1⟩=>?_;refine thn (hb pins s1 σ H1 _ I1 q1) λu s2 ⟨y,H2,I2,r2,q2⟩=>?_;exact hf v u s2 x y H2 I2 r1 r2 q2
theorem ZnN{op:Operator}{r:R2}(ho:OpR X (ZCV op) r)(ha:PE X a ta)(hb:PE X b tb):PE X (.BinOp a op b pos) (tOp r ta tb):=by intro pins s σ H Q I h;exact wpAny_BinOp (ZuY ha hb I h λv u s2 x y H2 I2 rx ry q=>ho pins s2 σ H2 x y v u Q I2 rx ry q)
theorem opI{f:Value->Value->Sem Value}{C:Int->Int->Prop}
  (rule:∀(i j:Int) (t u:Tok) (s:Shared) (Q:Value->Shared->Prop) (E:Value->Shared->Prop),C i j->Q (.int (g i j) s.toks) { s with toks:=s.toks+1 }->wpAny (model X.prog X.w) X.A (f (.int i t) (.int j u)) Q E s) :
  OpR X f (rI C λi j=>.int (g i j)):=by
 intro pins s σ H x y v u Q I rx ry h;obtain⟨i,j,rfl,rfl,hc,q⟩:=h;obtain⟨t,rfl⟩:=rx;obtain⟨t',rfl⟩:=ry;exact rule i j t t' s _ _ hc ⟨.int (g i j),H,I.tok _,⟨_,rfl⟩,q⟩
theorem Zxl{f:Value->Value->Sem Value}
  (rule:∀(i j:Int) (t u:Tok) (s:Shared) (Q:Value->Shared->Prop) (E:Value->Shared->Prop),Q (.int (g i j) s.toks) { s with toks:=s.toks+1 }->wpAny (model X.prog X.w) X.A (f (.int i t) (.int j u)) Q E s) :
  OpR X f (rI0 λi j=>.int (g i j)):=by
 intro pins s σ H x y v u Q I rx ry h;obtain⟨i,j,rfl,rfl,q⟩:=h;obtain⟨t,rfl⟩:=rx;obtain⟨t',rfl⟩:=ry;exact rule i j t t' s _ _ ⟨.int (g i j),H,I.tok _,⟨_,rfl⟩,q⟩
theorem ZuW{f:Value->Value->Sem Value}{g:Int->Int->Bool}
  (rule:∀(i j:Int) (t u:Tok) (s:Shared) (Q:Value->Shared->Prop) (E:Value->Shared->Prop),Q (.bool (g i j)) s->wpAny (model X.prog X.w) X.A (f (.int i t) (.int j u)) Q E s) :
  OpR X f (rI0 λi j=>.bl (g i j)):=by
 intro pins s σ H x y v u Q I rx ry h;obtain⟨i,j,rfl,rfl,q⟩:=h;obtain⟨t,rfl⟩:=rx;obtain⟨t',rfl⟩:=ry;exact rule i j t t' s _ _ ⟨.bl (g i j),H,I,rfl,q⟩
def Zsp(i j:Int):Prop:=(-(2 ^ 64)<i/\i<2 ^ 64)\/(-(2 ^ 64)<j/\j<2 ^ 64)
theorem Zsp.ok{i j:Int}(h:Zsp i j):IntMulOk i j:=by
 rcases h with⟨h1,h2⟩ | ⟨h1,h2⟩
 ·exact .of_left (intBits_le_64 h1 h2)
 ·exact .of_right (intBits_le_64 h1 h2)
theorem Zx6:OpR X (ZCV .Add) (rI0 λi j=>.int (i+j)):=Zxl λ_ _ _ _ _ _ _ q=>add_int q
theorem ZxX:OpR X (ZCV .Sub) (rI0 λi j=>.int (i-j)):=Zxl λ_ _ _ _ _ _ _ q=>sub_int q
theorem Zw6:OpR X (ZCV .Mult) (rI Zsp λi j=>.int (i*j)):=opI λ_ _ _ _ _ _ _ hc q=>mul_int q hc.ok
theorem ZxO:OpR X (ZCV .Mod) (rI (λ_ j=>0<j) λi j=>.int (i % j)):=opI λi j _ _ _ _ _ hc q=>by have h1:(0:Int)<j:=hc;exact mod_int' (by omega) (by rw[Int.fmod_eq_emod_of_nonneg i (by omega)]; exact q)
end
section
variable{X:Cx}{a b c:Expr}{ta tb tc:TE}{pos:Pos}
theorem ZsQ{Q:VK}{k k':Bool}(I:Inv X pins σ H s)(q:Q (.bl k) H)(e:k=k'):EP X pins σ Q (.bool k') s:=by subst e;exact⟨.bl k,H,I,rfl,q⟩
theorem ZyJ:OpR X (ZA7 .Lt) (rI0 λi j=>.bl (decide (i<j))):=ZuW λ_ _ _ _ _ _ _ q=>lt_int q
theorem ZyO:OpR X (ZA7 .LtE) (rI0 λi j=>.bl (decide (i<=j))):=ZuW λ_ _ _ _ _ _ _ q=>le_int q
theorem ZyL:OpR X (ZA7 .Gt) (rI0 λi j=>.bl (decide (j<i))):=ZuW λ_ _ _ _ _ _ _ q=>gt_int q
theorem Zx0:OpR X (ZA7 .Is) (λx y H Q=>y=.non/\Q (.bl (decide (x=.non))) H):=by
 intro pins s σ H x y v u Q I rx ry h;obtain⟨rfl,q⟩:=h;cases ry;refine is_none_gen (ZsQ I q ?_);cases x<;>first
  | (cases rx; rfl)
  | (obtain⟨t,rfl⟩:=rx; rfl)
theorem Zwn:OpR X (ZA7 .IsNot) (λx y H Q=>y=.non/\Q (.bl (!decide (x=.non))) H):=by
 intro pins s σ H x y v u Q I rx ry h;obtain⟨rfl,q⟩:=h;cases ry;refine isnot_none_gen (ZsQ I q ?_);cases x<;>first
  | (cases rx; rfl)
  | (obtain⟨t,rfl⟩:=rx; rfl)
theorem Zrr{op:CmpOp}{r:R2}(ho:OpR X (ZA7 op) r)(ha:PE X a ta)(hb:PE X b tb)(hm:ZBa op b=false):PE X (.Compare a [op] [b] pos) (tOp r ta tb):=by intro pins s σ H Q I h;exact wpAny_Compare1 (ZuY ha hb I h λv u s2 x y H2 I2 rx ry q=>ho pins s2 σ H2 x y v u Q I2 rx ry q) hm
def ZyM(t:TE):TT:=λσ H Q=>t σ H λx H'=>∃k,x=.bl k/\Q k H'
theorem Zmf{op:CmpOp}{r:R2}(ho:OpR X (ZA7 op) r)(ha:PE X a ta)(hb:PE X b tb)(hm:ZBa op b=false):PT X (.Compare a [op] [b] pos) (ZyM (tOp r ta tb)):=by intro pins s σ H Q I h;refine wpAny_isTrue_Compare1 (thn (ha pins s σ H _ I h) λv s1 ⟨x,H1,I1,r1,q1⟩=>thn (hb pins s1 σ H1 _ I1 q1) λu s2 ⟨y,H2,I2,r2,q2⟩=>thn (ho pins s2 σ H2 x y v u _ I2 r1 r2 q2) λc s3 ⟨z,H3,I3,r3,k,e,q3⟩=>?_) hm;subst e;cases r3;exact ZBE ⟨H3,I3,q3⟩
def Zxg(r r':R2)(ta tb tc:TE):TE:=λσ H Q=>ta σ H λx H1=>tb σ H1 λy H2=>r x y H2 λz H3=>∃k,z=.bl k /\
 (if k=true then tc σ H3 λw' H4=>r' y w' H4 Q else Q (.bl false) H3)
theorem ZpU{op op':CmpOp}{r r':R2}(ho:OpR X (ZA7 op) r)(ho':OpR X (ZA7 op') r')(ha:PE X a ta)(hb:PE X b tb)(hc:PE X c tc)
  (hm:lastMarks [op,op'] [b,c]=false:=by with_unfolding_all rfl):PE X (.Compare a [op,op'] [b,c] pos) (Zxg r r' ta tb tc):=by
 intro pins s σ H Q I h;refine Compare_chain (thn (ha pins s σ H _ I h) λv s1 ⟨x,H1,I1,r1,q1⟩=>chain_link (thn (hb pins s1 σ H1 _ I1 q1) λu s2 ⟨y,H2,I2,r2,q2⟩=>thn (ho pins s2 σ H2 x y v u _ I2 r1 r2 q2) λd s3 ⟨z,H3,I3,r3,k,e,q3⟩=>?_)) hm;subst e;cases r3;refine ZBE ?_;cases k with
 | false=>exact ite_ff ⟨.bl false,H3,I3,rfl,q3⟩
 | true=>exact ite_tt (chain_last (thn (hc pins s3 σ H3 _ I3 q3) λw' s4 ⟨z',H4,I4,r4,q4⟩=>ho' pins s4 σ H4 y z' u w' Q I4 r2 r4 q4))
theorem Zj1:(sizeLine:Nat)<2 ^ 63:=by rw[ZBn]; decide
theorem vals1(r:Vals [x] us):∃u,us=[u]/\RelV x u:=by
 cases r with
 | cons r1 r2=>cases r2; exact⟨_,rfl,r1⟩
theorem vals2{y:V}(r:Vals [x,y] us):∃u w',us=[u,w']/\RelV x u/\RelV y w':=by
 cases r with
 | cons r1 r2 =>
  cases r2 with
  | cons r3 r4=>cases r4; exact⟨_,_,rfl,r1,r3⟩
theorem ZsT(hc:X.calm=true):Zbh X (.builtin "max") (λxs H Q=>∃i j,xs=[.int i,.int j]/\Q (.int (if j > i then j else i)) H):=by
 intro pins s σ H xs us Q I r h;obtain⟨i,j,rfl,q⟩:=h;obtain⟨u,w',rfl,⟨t,rfl⟩,⟨t',rfl⟩⟩:=vals2 r;refine max_two_ints (I.ok.hd hc) λh' tk k=>⟨_,H,I.kept k,?_,q⟩
 by_cases hj:j > i
 ·rw[if_pos hj,if_pos hj]; exact⟨_,rfl⟩
 ·rw[if_neg hj,if_neg hj]; exact⟨_,rfl⟩
theorem ZtB(hc:X.calm=true):Zbh X (.builtin "min") (λxs H Q=>∃i j,xs=[.int i,.int j]/\Q (.int (if j<i then j else i)) H):=by
 intro pins s σ H xs us Q I r h;obtain⟨i,j,rfl,q⟩:=h;obtain⟨u,w',rfl,⟨t,rfl⟩,⟨t',rfl⟩⟩:=vals2 r;refine min_two_ints (I.ok.hd hc) λh' tk k=>⟨_,H,I.kept k,?_,q⟩
 by_cases hj:j<i
 ·rw[if_pos hj,if_pos hj]; exact⟨_,rfl⟩
 ·rw[if_neg hj,if_neg hj]; exact⟨_,rfl⟩
theorem Zna:Zbh X (.type "int") (λxs H Q=>(∃i,xs=[.int i]/\Q (.int i) H)\/∃k,xs=[.bl k]/\Q (.int (if k then 1 else 0)) H):=by
 intro pins s σ H xs us Q I r h;rcases h with⟨i,rfl,q⟩ | ⟨k,rfl,q⟩
 ·obtain⟨u,rfl,t,rfl⟩:=vals1 r
  exact call_int_int ⟨.int i,H,I,⟨_,rfl⟩,q⟩
 ·obtain⟨u,rfl,r1⟩:=vals1 r
  cases r1;exact call_int_bool ⟨.int (if k then 1 else 0),H,I.tok _,⟨_,rfl⟩,q⟩
end
end L2
namespace L2
open PySem PySem.Spec PyProof.Rows
theorem ZfT.some_of{v:V}{o:Option Value}(r:ZfT (some v) o):∃u,o=some u/\RelV v u:=by
 cases o with
 | none=>exact(show False from r).elim
 | some u=>exact⟨u,rfl,r⟩
end L2
namespace L2
open PySem PySem.Spec PyProof.Rows
variable{f:Addr}{base:Heap}{H:Hp}{ps:List Str}{vs:List V}{us:List Value}{P:Program}{K:ZzS}{scope:Scope}{s:Shared}{qual:Str}{mg:Str->Option Value}{w:World}
structure Zav(k:Nat)(A:Around):Prop where
 hd:A.handled=none
 dp:A.depth+3*k+5<recursionLimit
 un:A.units+16*k+200<cLine
theorem Zav.mono{j k:Nat}{A:Around}(r:Zav k A)(h:j<=k):Zav j A:=⟨r.hd,by have:=r.dp; omega,by have:=r.un; omega⟩
theorem Zav.deeper{k:Nat}{A:Around}(r:Zav (k+1) A)(env:Env):Zav k (A.deeper env) :=
 ⟨r.hd,by have:=r.dp; show A.depth+1+3*k+5<_; omega,by have:=r.un; show A.units+3+16*k+200<_; omega⟩
theorem Zav.depth{k:Nat}{A:Around}(r:Zav k A):A.depth<recursionLimit:=by have:=r.dp; omega
theorem Zav.units{k:Nat}{A:Around}(r:Zav k A):A.units+64<cLine:=by have:=r.un; omega
def Zzp:TA:=λ_ H Q=>Q [] H
def Zyz(ta:TE)(tr:TA):TA:=λσ H Q=>ta σ H λx H1=>tr σ H1 λxs H2=>Q (x::xs) H2
section
variable{X:Cx}{e:Expr}{es:List Expr}{te:TE}{t:TA}{pos:Pos}
theorem Zb2:PA X [] Zzp:=λ_ _ _ _ H Q I h=>ZDV ⟨[],H,I,.nil,h⟩
theorem ZaB(ha:PE X e te)(hr:PA X es t)(hs:Zz6 (e::es) X.env=(false,eval e X.env)::Zz6 es X.env:=by rfl):PA X (e::es) (Zyz te t):=by intro pos pins s σ H Q I h;rw[hs];show wpAny _ _ (spliced ((false,eval e X.env)::backTo pos (Zz6 es X.env))) _ _ s;refine ZCW (thn (ha pins s σ H _ I h) λu s1 ⟨x,H1,I1,r1,q1⟩=>?_);exact thn (hr pos pins s1 σ H1 _ I1 q1) λus s2 ⟨xs,H2,I2,r2,q2⟩=>⟨x::xs,H2,I2,.cons r1 r2,q2⟩
def ZzB(t:TA):TE:=λσ H Q=>t σ H λxs H1=>xs.length<=sizeLine/\∀p,H1 p=none->Q (.ref p) (upd H1 p (.tup xs))
def Zzz(t:TA):TE:=λσ H Q=>t σ H λxs H1=>xs.length<=sizeLine/\∀p,H1 p=none->Q (.ref p) (upd H1 p (.lst xs))
theorem Zxy{x1}(h:PA X es t):PE X (.Tuple es x1 pos) (ZzB t):=by intro pins s σ H Q I hq;refine wpAny_Tuple_spliced (thn (h pos pins s σ H _ I hq) λus s1 ⟨xs,H1,I1,r,z,q⟩=>⟨by rw[<-r.length]; exact z,?_⟩);have hf:H1 s1.heap.objs.size=none:=I1.hok.fresh (Zz3 _);refine⟨.ref s1.heap.objs.size,upd H1 s1.heap.objs.size (.tup xs),I1.laid (t':=s1.toks) (λb u e=>ZzW _ e) (Zz3 _) ?_,rfl,q _ hf⟩;exact⟨z,us,r,⟨_,ZAa _ rfl,rfl,_,rfl⟩⟩
theorem Zyn(h:PA X es t):PE X (.List es pos) (Zzz t):=by intro pins s σ H Q I hq;refine wpAny_List_spliced (thn (h pos pins s σ H _ I hq) λus s1 ⟨xs,H1,I1,r,z,q⟩=>⟨by rw[<-r.length]; exact z,?_⟩);have hf:H1 s1.heap.objs.size=none:=I1.hok.fresh (Zz3 _);refine⟨.ref s1.heap.objs.size,upd H1 s1.heap.objs.size (.lst xs),I1.laid (t':=s1.toks) (λb u e=>ZzW _ e) (Zz3 _) ?_,rfl,q _ hf⟩;exact⟨z,us,0,r,ZAa _ rfl⟩
end
abbrev Sp:=List V->Hp->VK->XK->Prop
abbrev CXT:=List Env->Hp->Shared->XK->Value->Shared->Prop
structure Ze6(P:Program)(w:World)(K:ZzS)(mg:Str->Option Value)(base:Heap)(A:Around)(outer:List Env)(s:Shared)(H:Hp):Prop where
 frames:A.frames=some outer
 mod:Mod K mg base
 bs:∀b o,base.get? b=some o->s.heap.get? b=some o/\H b=none
 bsz:base.objs.size<=s.heap.objs.size
 funs:s.heap.FunFrames base outer
 frf:∀b∈frs outer,H b=none
 hok:HOk P w H s.heap
 bare:AllBare s.gens
def CE(outer:List Env)(P:Program)(w:World)(H:Hp)(s:Shared)(Q:VK)(u:Value)(s':Shared):Prop :=
 ∃v H',s'.os=s.os/\AllBare s'.gens/\Un (frs outer) [] H H' s.heap s'.heap/\HOk P w H' s'.heap/\RelV v u/\Q v H'
def CR(CX:CXT)(outer:List Env)(P:Program)(w:World)(H:Hp)(s:Shared)(Q:VK)(E:XK)(r:Result)(s':Shared):Prop :=
 match r with
 | .ok (.ret u)=>CE outer P w H s Q u s'
 | .ok _=>False
 | .error e=>CX outer H s E e s'
structure ZdG(P:Program)(w:World)(K:ZzS)(mg:Str->Option Value)(base:Heap)(CX:CXT)(k:Nat)(f:Addr)(fd:FuncData)(ps:List Str)(sp:Sp):Prop where
 len:∀vs H Q E,sp vs H Q E->vs.length=ps.length
 run:∀(A:Around) (outer:List Env) (s:Shared) (H:Hp) (args:Args) (us:List Value) (vs:List V) (Q:VK) (E:XK),Zav k A->Ze6 P w K mg base A outer s H->BindsTo s fd args (ps.zip us)->Vals vs us->sp vs H Q E ->
  codeAny (model P w) A (.call (.ref f) args) (CR CX outer P w H s Q E) s
theorem ZdG.mono{P:Program}{w:World}{K:ZzS}{mg:Str->Option Value}{base:Heap}{CX:CXT}{j k:Nat}{f:Addr}{fd:FuncData}{ps:List Str}{sp:Sp}(F:ZdG P w K mg base CX j f fd ps sp)(h:j<=k) :
  ZdG P w K mg base CX k f fd ps sp:=⟨F.len,λA outer s H args us vs Q E hr=>F.run A outer s H args us vs Q E (hr.mono h)⟩
section
variable{X:Cx}{pins:List (Addr × Obj)}{σ:St}{H:Hp}{s s':Shared}
theorem Inv.env0(I:Inv X pins σ H s):Ze6 X.prog X.w X.K X.mg X.base X.A X.stack s H :=
 ⟨I.ok.frames,I.ok.mod,I.bs,ZAR I.ok.bsz I.sz,I.stack,I.stkFree,I.hok,I.bare⟩
theorem Inv.after{Q:VK}{u:Value}(I:Inv X pins σ H s)(h:CE X.stack X.prog X.w H s Q u s'):EP X pins σ Q u s':=by obtain⟨v,H',os,bare,un,hok,r,q⟩:=h;obtain⟨hh,g,d,t,os'⟩:=s';obtain rfl:os'=s.os:=os;exact⟨v,H',I.call (h':=hh) (g':=g) (d':=d) (t':=t) (ch:=[]) un hok bare (λb z=>absurd z (by simp)),r,q⟩
end
def Zyt(sp:Sp)(dvs:List V)(E:XK)(t:TA):TE:=λσ H Q=>t σ H λvs H1=>sp (vs++dvs) H1 Q E
def Binds(K:ZzS)(fd:FuncData)(ps:List Str)(ds:List Value):Prop :=
 ∀(s:Shared) (us:List Value),K.In s.heap->(us++ds).length=ps.length->BindsTo s fd ⟨us,[]⟩ (ps.zip (us++ds))
theorem Binds.all{fd:FuncData}(h:∀us:List Value,us.length=ps.length->bindArgs fd ⟨us,[]⟩=pure (ps.zip us)):Binds K fd ps []:=λs us _ hl=>by rw[ZAE]at hl ⊢;exact .of_eq (h us hl)
def Passes(CX:CXT)(X:Cx)(E:XK):Prop:=∀(pins:List (Addr × Obj)) (σ:St) (H:Hp) (s:Shared) (e:Value) (s':Shared),Inv X pins σ H s->CX X.stack H s E e s'->X.xe e s'
section
variable{X:Cx}{CX:CXT}{k:Nat}{f C:Addr}{fd:FuncData}{ps:List Str}{sp:Sp}{dvs:List V}{ds:List Value}{E:XK}{x m:Str}{p pos apos:Pos}{e o:Expr}{es:List Expr}{ta:TE}{t:TA}
theorem ZwY{pins:List (Addr × Obj)}{σ:St}{Q:VK}(F:ZdG X.prog X.w X.K X.mg X.base CX k f fd ps sp)(hr:Zav k X.A)(hb:Binds X.K fd ps ds)(hd:Vals dvs ds)(hx:Passes CX X E)
  (I:Inv X pins σ H s) (r:Vals vs us) (h:sp (vs++dvs) H Q E):wpAny (model X.prog X.w) X.A (call (.ref f) us) (EP X pins σ Q) X.xe s:=by
 have r2:Vals (vs++dvs) (us++ds):=r.append hd;have hl:(us++ds).length=ps.length:=by rw[<-r2.length]; exact F.len _ _ _ _ h
 refine wpAny_call (ZB2 (F.run X.A X.stack s H ⟨us,[]⟩ (us++ds) (vs++dvs) Q E hr I.env0 (hb s us I.kIn hl) r2 h) λr s' hq=>?_);cases r with
 | error e=>exact hx pins σ H s e s' I hq
 | ok fl =>
  cases fl with
  | ret u=>exact I.after hq
  | next=>exact ZAY hq
  | brk=>exact ZAY hq
  | cont=>exact ZAY hq
theorem Zme(F:ZdG X.prog X.w X.K X.mg X.base CX k f fd ps sp)(hr:Zav k X.A)(hg:Gl X x)(hm:X.mg x=some (.ref f))(hk:ZBo X.K (.ref f)=true)(hb:Binds X.K fd ps ds)(hd:Vals dvs ds)(hx:Passes CX X E)
  (ha:PA X (e::es) t) (hdb:(x==("__debug__":Str))=false:=by decide) (he:Zz6 (e::es) X.env=(false,eval e X.env)::Zz6 es X.env:=by rfl) (hpl:(backTo pos (Zz6 es X.env)).any (·.1)=false:=by rfl) :
  PE X (.Call (.Name x p) (e::es) [] pos) (Zyt sp dvs E t):=by
 intro pins s σ H Q I h;refine ZB3 (Zmy I hg hm ?_ hdb);refine ZEQ (h₀:=X.base) I.ok.mod.kin hk (thn (ha pos pins s σ H _ I h) λus s1 ⟨vs,H1,I1,r,q⟩=>⟨I1.kIn,?_⟩) he hpl;exact ZwY F hr hb hd hx I1 r q
end
structure Zs(N P:List Str)(sc:Scope):Prop where
 kind:sc.kind=.function
 co:sc.isCoroutine=false
 gen:sc.isGenerator=false
 nd:N.Nodup
 pre:N.take P.length=P
 par:∀x∈P,sc.names.lookup x=some .local\/sc.names.lookup x=some .cell
 nofree:∀y∈sc.names,y.2≠.free
theorem Zm7{kindOf:Str->Option NameKind}{x:Str}:∀{binds:List (Str × Value)} {m:Str->Option Value},(∀v,(x,v) ∉ binds)->bindL kindOf binds m x=m x
 | [],_,_=>rfl
 | (n,v)::r,m,h=>by
  unfold bindL;rw[Zm7 λw hw=>h w (ZzU _ hw)];split
  ·have:x≠n:=by rintro rfl; exact h v ZzT
   simp[this]
  ·rfl
theorem ZmL{kindOf:Str->Option NameKind}{x:Str}:∀{binds:List (Str × Value)} {m:Str->Option Value},(∀v,(x,v) ∉ binds)->bindC kindOf binds m x=m x
 | [],_,_=>rfl
 | (n,v)::r,m,h=>by
  unfold bindC;rw[ZmL λw hw=>h w (ZzU _ hw)];split
  ·rfl
  ·have:x≠n:=by rintro rfl; exact h v ZzT
   simp[this]
theorem ZmW{kindOf:Str->Option NameKind}{x:Str}{v:Value}:∀{P:List Str} {vs:List Value} {i:Nat} {m:Str->Option Value},P.Nodup->P[i]?=some x->vs[i]?=some v->kindOf x=some .local ->
  bindL kindOf (P.zip vs) m x=some v
 | [],_,_,_,_,h,_,_=>by simp at h
 | _::_,[],_,_,_,_,h,_=>by simp at h
 | p::P,w::vs,0,m,nd,h1,h2,hk=>by simp at h1 h2; subst h1; subst h2;show bindL kindOf ((p,w)::P.zip vs) m p=_;unfold bindL;rw[Zm7 λv hv=>(ZAT.mp nd).1 (ZEj hv).1,if_pos hk];simp
 | p::P,w::vs,i+1,m,nd,h1,h2,hk=>by show bindL kindOf ((p,w)::P.zip vs) m x=_;unfold bindL;exact ZmW (i:=i) (ZAT.mp nd).2 (by simpa using h1) (by simpa using h2) hk
theorem Zm1{kindOf:Str->Option NameKind}{x:Str}{v:Value}:∀{P:List Str} {vs:List Value} {i:Nat} {m:Str->Option Value},P.Nodup->P[i]?=some x->vs[i]?=some v->kindOf x≠some .local ->
  bindC kindOf (P.zip vs) m x=some v
 | [],_,_,_,_,h,_,_=>by simp at h
 | _::_,[],_,_,_,_,h,_=>by simp at h
 | p::P,w::vs,0,m,nd,h1,h2,hk=>by simp at h1 h2; subst h1; subst h2;show bindC kindOf ((p,w)::P.zip vs) m p=_;unfold bindC;rw[ZmL λv hv=>(ZAT.mp nd).1 (ZEj hv).1,if_neg hk];simp
 | p::P,w::vs,i+1,m,nd,h1,h2,hk=>by show bindC kindOf ((p,w)::P.zip vs) m x=_;unfold bindC;exact Zm1 (i:=i) (ZAT.mp nd).2 (by simpa using h1) (by simpa using h2) hk
def start(N:List Str)(vs:List V):St:=vs.map some++ZAs (N.length-vs.length) none
def ZgF(CX:CXT)(P:Program)(w:World)(K:ZzS)(mg:Str->Option Value)(base:Heap)(N:List Str)(qual:Str)(scope:Scope)(f:Addr)(cd:Value)(A:Around)(outer:List Env)(s:Shared)(H:Hp)(E:XK):Cx where
 prog:=P
 w:=w
 K:=K
 mg:=mg
 base:=base
 A:=A.deeper (envOfC qual scope s.heap.objs.size f cd)
 N:=N
 s₀:=s
 H₀:=H
 env:=envOfC qual scope s.heap.objs.size f cd
 outer:=outer
 stack:=envOfC qual scope s.heap.objs.size f cd::outer
 ex:=[]
 calm:=true
 fn:=λ_=>true
 pn:=[]
 xe:=λe s'=>wpAny (model P w) (A.deeper (envOfC qual scope s.heap.objs.size f cd)) (leaving (envOfC qual scope s.heap.objs.size f cd) e) (λ_ s''=>CX outer H s E e s'') (λe' s''=>CX outer H s E e' s'') s'
theorem ZoW{sc:Scope}{n:Nat}{x:Str}(h:sc.names.lookup x=some .cell):∃c,(cellsFrom n sc.names []).lookup x=some c:=by have q:=ZEr sc.names n [] (.inl h);exact ZAt.mp q
theorem ZtA{CX:CXT}{N:List Str}{cd:Value}{A:Around}{outer:List Env}{s1:Shared}{E:XK}
  (S:Zs N ps scope) (hd:A.handled=none) (e0:Ze6 P w K mg base A outer s H) (hl:vs.length=ps.length) (r:Vals vs us)
  (x:InCallC s s.heap.objs.size (bindL (envOfC qual scope s.heap.objs.size f cd).kindOf (ps.zip us) λ_=>none) (cellsFrom (s.heap.objs.size+1) scope.names []) (bindC (envOfC qual scope s.heap.objs.size f cd).kindOf (ps.zip us) λ_=>none) s1) :
  Inv (ZgF CX P w K mg base N qual scope f cd A outer s H E) [] (start N vs) H s1:=by
 have hpl:ps.length<=N.length:=by have:=congrArg ZAF S.pre; rw[ZBz]at this; omega
 obtain⟨h1,tk,rfl,hk⟩:=x.done;have noA:∀b:Addr,b ∉ (ZgF CX P w K mg base N qual scope f cd A outer s H E).ex:=λb z=>absurd (show b∈([]:List Addr) from z) (by simp);refine⟨⟨e0.mod,S.kind,rfl,rfl,Zz3 _,λy z c h1 h2=>?_,λy hy=>?_,λy c _ h=>?_,λ_=>hd,ZEG e0.frames,.inr ⟨rfl,rfl⟩,λb z=>absurd z (noA b),e0.bs,e0.bsz,λb _ _=>noA b,λb z=>absurd z (noA b),e0.funs,e0.frf⟩,
  rfl,e0.bare,Un.kept hk,⟨_,x.toInCall.ns,λi y v h1 h2 h3=>?_⟩,λy c h=>⟨_,x.cell y c h⟩,e0.hok.fresh (Zz3 _),λy c h=>?_,λp hp=>absurd (show p∈([]:List (Addr × Obj)) from hp) (by simp),e0.hok.kept hk,?_⟩
 ·exact name_of_addr x.apart (ZBu h1) (ZBu h2)
 ·have hy:scope.names.lookup y=some .cell\/scope.names.lookup y=some .free:=hy
  rcases hy with hy | hy
  ·exact ZoW hy
  ·exact absurd rfl (S.nofree _ (ZBu hy))
 ·exact ZBP (x.above y c (ZBu h))
 ·have hi:i<vs.length:=by
   unfold start at h2
   by_cases hi:i<vs.length
   ·exact hi
   ·rw[ZAG (by simpa using hi)]at h2
    rw[ZCr]at h2;split at h2<;>cases h2
  have ha:vs[i]?=some v:=by
   unfold start at h2;rw[ZAw (by simpa using hi),ZAk]at h2;cases e:vs[i]? with
   | none=>rw[e]at h2; cases h2
   | some a=>rw[e]at h2; cases h2; rfl
  obtain⟨u,hu,rv⟩:=r.get ha;have hp:ps[i]?=some y:=by rw[<-S.pre,ZD8 (by omega)]; exact h1
  have ndP:ps.Nodup:=by rw[<-S.pre]; exact S.nd.sublist (List.take_sublist _ _)
  refine⟨u,rv,?_⟩;rcases S.par y (ZAo hp)with k | k
  ·exact .inl ⟨k,ZmW ndP hp hu k⟩
  ·obtain⟨c,e⟩:=ZoW (n:=s.heap.objs.size+1) k
   refine .inr ⟨.inl k,c,e,?_⟩;have q:=x.cell y c e;rw[Zm1 ndP hp hu (by show scope.names.lookup y≠_; rw[k]; decide)]at q;exact q
 ·exact e0.hok.fresh (ZBP (x.above y c (ZBu h)))
 ·unfold start
  show _=N.length;rw[ZAb,ZzP,ZAI];omega
theorem Zvy{CX:CXT}{k:Nat}{name:Str}{params:Arguments}{body:List Stmt}{dV kV doc pm cdv ct oc:Value}{an od:Option Addr}
  {osl:Array (Option Value)} {N ps:List Str} {sp:Sp} (lk:K.lookup f=some ⟨oc,od,.func (ZBi name qual params body scope dV kV doc pm an cdv ct),osl⟩) (hcd:ZBY K cdv qual=true) (S:Zs N ps scope)
  (len:∀vs H Q E,sp vs H Q E->vs.length=ps.length)
  (hbody:∀(A:Around) (outer:List Env) (s:Shared) (H:Hp) (vs:List V) (Q:VK) (E:XK),Zav k (A.deeper (envOfC qual scope s.heap.objs.size f cdv))->sp vs H Q E ->
   ∃t,PSs (ZgF CX P w K mg base N qual scope f cdv A outer s H E) body t/\t { nx:=λ_ H'=>Q .non H',rt:=Q } (start N vs) H) :
  ZdG P w K mg base CX (k+1) f (ZBi name qual params body scope dV kV doc pm an cdv ct) ps sp:=by
 refine⟨len,λA outer s H args us vs Q E hr e0 hb r hsp=>?_⟩;have hl:=len _ _ _ _ hsp;have KX:K.In s.heap:=e0.mod.kin.keeps λb o e=>(e0.bs b o e).1;have lim:s.heap.NoLimit:=e0.mod.nolimit.keeps λb o e=>(e0.bs b o e).1;have hkind:∀y∈ps.zip us,scope.names.lookup y.1=some .local\/(scope.names.lookup y.1=some .cell/\((cellsFrom (s.heap.objs.size+1) scope.names []).lookup y.1).isSome=true):=λ⟨n,v⟩ hy=>by
  rcases S.par n (ZEj hy).1 with q | q
  ·exact .inl q
  ·exact .inr ⟨q,ZEr _ _ _ (.inl q)⟩
 refine codeAny_call_function hr.depth (KX _ _ lk) rfl S.co S.gen rfl (PySem.W.codeRec_of KX hcd) (hb _ _ _ _ ?_);refine wpAny_newFunctionEnv_cells S.kind hkind λenv he s1 x=>?_;subst he;refine⟨lim.keeps x.toInCall.keep,codeAny_func ?_⟩;obtain⟨t,ht,hq⟩:=hbody A outer s H vs Q E (hr.deeper _) hsp;have I:Inv (ZgF CX P w K mg base N qual scope f cdv A outer s H E) [] (start N vs) H s1:=ZtA S hr.hd e0 hl r x;refine ZBg (ht [] s1 (start N vs) H _ I hq) (λfl s' hs=>?_) λe s' hs=>hs;have fin:∀{σ':St} {H':Hp} {v:V} {u:Value},Inv (ZgF CX P w K mg base N qual scope f cdv A outer s H E) [] σ' H' s'->RelV v u->Q v H'->CE outer P w H s Q u s' :=
  λ{σ' H' v u} J rv q=>⟨v,H',J.os,J.bare,J.base,J.hok,rv,q⟩
 cases fl with
 | ret u=>obtain⟨v,σ',H',J,rv,q⟩:=hs;exact fin J rv q
 | next=>obtain⟨σ',H',J,q⟩:=hs;exact fin (v:=V.non) (u:=ZAQ) J rfl q
 | brk=>obtain⟨_,_,_,q⟩:=hs;exact ZAY q
 | cont=>obtain⟨_,_,_,q⟩:=hs;exact ZAY q
end L2
namespace L2
open PySem PySem.Spec PyProof.Rows
section
variable{X:Cx}{x:Str}{p pos:Pos}{e:Expr}{es:List Expr}{t:TA}{id T:String}{r:List V->Hp->VK->Prop}
def tCB(r:List V->Hp->VK->Prop)(t:TA):TE:=λσ H Q=>t σ H λvs H1=>r vs H1 Q
theorem ZdJ(hc:Zbh X (.builtin id) r)(hg:Gl X x)(hm:X.mg x=none)(hv:ZAW x=some (.builtin id))(ha:PA X (e::es) t)(hn:x ≠ "__name__":=by decide)(hdb:(x==("__debug__":Str))=false:=by decide)
  (he:Zz6 (e::es) X.env=(false,eval e X.env)::Zz6 es X.env:=by rfl) (hpl:(backTo pos (Zz6 es X.env)).any (·.1)=false:=by rfl):PE X (.Call (.Name x p) (e::es) [] pos) (tCB r t):=by
 intro pins s σ H Q I h;refine ZB3 (ZhX I hg hm hv ?_ hn hdb);exact PyProof.Rows.callWith_builtin1 (thn (ha pos pins s σ H _ I h) λus s1 ⟨vs,H1,I1,r1,q1⟩=>hc pins s1 σ H1 vs us Q I1 r1 q1) he hpl
theorem ZdD(hc:Zbh X (.type T) r)(hg:Gl X x)(hm:X.mg x=none)(hv:ZAW x=some (.type T))(ha:PA X (e::es) t)(hn:x ≠ "__name__":=by decide)(hdb:(x==("__debug__":Str))=false:=by decide)
  (he:Zz6 (e::es) X.env=(false,eval e X.env)::Zz6 es X.env:=by rfl) (hpl:(backTo pos (Zz6 es X.env)).any (·.1)=false:=by rfl):PE X (.Call (.Name x p) (e::es) [] pos) (tCB r t):=by
 intro pins s σ H Q I h;refine ZB3 (ZhX I hg hm hv ?_ hn hdb);exact ZCH (thn (ha pos pins s σ H _ I h) λus s1 ⟨vs,H1,I1,r1,q1⟩=>hc pins s1 σ H1 vs us Q I1 r1 q1) he hpl
end
end L2
namespace HT
set_option maxHeartbeats 8000000
open PySem PyProof.Rows
section
open PySem.SeqAt
open PySem.AutoSeq1 (wpAny_loadPart')
open PySem.MeetsSeq PySem.MeetsSeq2 PySem.MeetsSeq3
end
section
variable{prog:Program}{w:World}{A:Around}{E:Value->Shared->Prop}{s:Shared}
def sIx(n d:Nat):Option Int->Nat
 | none=>d
 | some v=>if v<0 then(v+(n:Int)).toNat else min v.toNat n
end
end HT
namespace L2
open PySem PySem.Spec PyProof.Rows
abbrev TO:=St->Hp->(Option Int->Hp->Prop)->Prop
def PO(X:Cx)(e:Option Expr)(t:TO):Prop :=
 ∀(pins:List (Addr × Obj)) (s:Shared) (σ:St) (H:Hp) (Q:Option Int->Hp->Prop),Inv X pins σ H s->t σ H Q ->
  wpAny (model X.prog X.w) X.A (evalPart e X.env) (λu s'=>∃o H',Inv X pins σ H' s'/\IsPart u o/\Q o H') X.xe s
def ZwC:TO:=λ_ H Q=>Q none H
def ZyI(t:TE):TO:=λσ H Q=>t σ H λx H1=>∃i,x=.int i/\Q (some i) H1
section
variable{X:Cx}{e:Expr}{te:TE}{lo hi:Option Expr}{tl th:TO}{pos p2:Pos}
theorem Zv9:PO X none ZwC:=by intro pins s σ H Q I h;rw[evalPart_none];exact ZzV ⟨none,H,I,.none,h⟩
theorem Zwj(h:PE X e te):PO X (some e) (ZyI te):=by intro pins s σ H Q I hw;rw[evalPart_some];refine thn (h pins s σ H _ I hw) λu s1 ⟨x,H1,I1,r1,q1⟩=>?_;obtain⟨i,rfl,q⟩:=q1;obtain⟨t,rfl⟩:=r1;exact⟨some i,H1,I1,.int i t,q⟩
def SlR(X:Cx)(r:V->Option Int->Option Int->Hp->VK->Prop):Prop :=
 ∀(pins:List (Addr × Obj)) (s:Shared) (σ:St) (H:Hp) (x:V) (v vl vu:Value) (lo hi:Option Int) (sl:Addr) (Q:VK),Inv X pins σ H s->RelV x v->s.heap.IsSliceOf sl vl vu .none->IsPart vl lo->IsPart vu hi->r x lo hi H Q ->
  ∃T id,typeLookup (.type T) "__getitem__" = pure (some (.builtin id))/\s.TypeIs v T/\wpAny (model X.prog X.w) X.A (getItem v (.ref sl)) (EP X pins σ Q) X.xe s
def tSl(r:V->Option Int->Option Int->Hp->VK->Prop)(te:TE)(tl th:TO):TE:=λσ H Q=>te σ H λx H1=>tl σ H1 λl H2=>th σ H2 λu H3=>r x l u H3 Q
theorem Zu2{r:V->Option Int->Option Int->Hp->VK->Prop}(hr:SlR X r)(he:PE X e te)(hl:PO X lo tl)(hu:PO X hi th):PE X (.Subscript e (.Slice lo hi none p2) pos) (tSl r te tl th):=by intro pins s σ H Q I h;refine Subscript_ (thn (he pins s σ H _ I h) λv s1 ⟨x,H1,I1,r1,q1⟩=>?_);refine wpAny_Slice (thn (hl pins s1 σ H1 _ I1 q1) λvl s2 ⟨l,H2,I2,pl,q2⟩=>thn (hu pins s2 σ H2 _ I2 q2) λvu s3 ⟨u,H3,I3,pu,q3⟩=>?_);rw[evalPart_none];refine ZzV ?_;have I4:Inv X pins σ H3 { s3 with heap:=s3.heap.push { cls:=.type "slice",data:=.fields #[vl,vu,.none] } }:=I3.kept (t':=s3.toks) λb ob q=>ZzW _ q;obtain⟨T,id,hT,ht,hg⟩:=hr pins { s3 with heap:=s3.heap.push { cls:=.type "slice",data:=.fields #[vl,vu,.none] } } σ H3 x v vl vu l u s3.heap.objs.size Q I4 r1 (Heap.IsSliceOf.new ..) pl pu q3;show wpAny (model X.prog X.w) X.A (subscriptTail e (.Slice lo hi none p2) v (.ref s3.heap.objs.size)) (EP X pins σ Q) X.xe { s3 with heap:=s3.heap.push { cls:=.type "slice",data:=.fields #[vl,vu,.none] } };exact tail_any (ops:=[.ref s3.heap.objs.size,v]) ht hT hg (by with_unfolding_all rfl)
def ZoR(xs:List V)(lo hi:Option Int):List V:=(xs.drop (HT.sIx xs.length 0 lo)).take (HT.sIx xs.length xs.length hi-HT.sIx xs.length 0 lo)
theorem ZqM(xs:List V)(lo hi:Option Int):(ZoR xs lo hi).length<=xs.length:=by unfold ZoR;rw[ZBz,ZCI];omega
end
end L2
namespace L2
open PySem PySem.Spec PyProof.Rows
variable{H:Hp}{i:Int}{pins:List (Addr × Obj)}{n:Nat}{s:Shared}{σ:St}{x y:V}{u:Value}
def ixN(n:Nat)(i:Int):Option Nat:=if 0<=i then(if i<n then some i.toNat else none)else if -(n:Int)<=i then some (i+n).toNat else none
def atI{α:Type}(xs:List α)(i:Int):Option α:=(ixN xs.length i).bind λj=>xs[j]?
theorem Zre{j:Nat}(h:ixN n i=some j):seqIndex? i n=some j/\j<n/\-(n:Int)<=i/\i<n:=by
 unfold ixN at h
 by_cases h0:0<=i
 ·rw[if_pos h0]at h
  by_cases h1:i<n
  ·rw[if_pos h1]at h
   have e:i.toNat=j:=ZAz h;exact⟨by rw[seqIndex_of h0 h1,e],by omega,by omega,h1⟩
  ·rw[if_neg h1]at h; cases h
 ·rw[if_neg h0]at h
  by_cases h1:-(n:Int)<=i
  ·rw[if_pos h1]at h
   have e:(i+n).toNat=j:=ZAz h;exact⟨by rw[seqIndex_neg (by omega) h1,e],by omega,h1,by omega⟩
  ·rw[if_neg h1]at h; cases h
theorem Zmt{α:Type}{xs:List α}{v:α}(h:atI xs i=some v):∃j,seqIndex? i xs.length=some j/\xs[j]?=some v/\j<xs.length/\-(xs.length:Int)<=i/\i<xs.length:=by
 unfold atI at h;cases e:ixN xs.length i with
 | none=>rw[e]at h; cases h
 | some j=>rw[e]at h;obtain⟨h1,h2,h3,h4⟩:=Zre e;exact⟨j,h1,h,h2,h3,h4⟩
def Zrh(b:Expr):Prop:=∀o i,ZEs b false o i=operate [o,i] (getItem o i)
def IxR(X:Cx)(r:R2):Prop :=
 ∀(value slice:Expr) (pins:List (Addr × Obj)) (s:Shared) (σ:St) (H:Hp) (x y:V) (v u:Value) (Q:VK),Inv X pins σ H s->RelV x v->RelV y u->r x y H Q ->
  ZEs slice false v u=operate [v,u] (getItem v u)->wpAny (model X.prog X.w) X.A (subscriptTail value slice v u) (EP X pins σ Q) X.xe s
def MtR(X:Cx)(id:String)(r:V->List V->Hp->VK->Prop):Prop :=
 ∀(pins:List (Addr × Obj)) (s:Shared) (σ:St) (H:Hp) (x:V) (xs:List V) (v:Value) (us:List Value) (Q:VK),Inv X pins σ H s->RelV x v->Vals xs us->r x xs H Q ->
  wpAny (model X.prog X.w) X.A (call (.builtin id) (v::us)) (EP X pins σ Q) X.xe s
section
variable{X:Cx}{a b:Expr}{ta tb:TE}{pos:Pos}
theorem IxR.or{r r':R2}(h:IxR X r)(h':IxR X r'):IxR X (λx y H Q=>r x y H Q\/r' x y H Q):=by
 intro value slice pins s σ H x y v u Q I rx ry q hs;rcases q with q | q
 ·exact h value slice pins s σ H x y v u Q I rx ry q hs
 ·exact h' value slice pins s σ H x y v u Q I rx ry q hs
theorem ZyR{r:R2}(hr:IxR X r)(ha:PE X a ta)(hb:PE X b tb)(hs:Zrh b):PE X (.Subscript a b pos) (tOp r ta tb):=by intro pins s σ H Q I h;exact Subscript_ (ZuY ha hb I h λv u s2 x y H2 I2 rx ry q=>hr a b pins s2 σ H2 x y v u Q I2 rx ry q (hs _ _))
def Zym(K:ZzS):R2:=λx y H Q=>∃p xs i v,x=.ref p/\y=.int i/\SqL K H p xs/\atI xs i=some v/\Q v H
def Zw0(K:ZzS):R2:=λx y H Q=>∃p xs i v,x=.ref p/\y=.int i/\SqT K H p xs/\atI xs i=some v/\Q v H
def Zxt:R2:=λx y H Q=>∃z i c,x=.str z/\y=.int i/\z.length<=sizeLine/\atI z.cps.toList i=some c/\Q (.str ⟨#[c]⟩) H
theorem Zwd:IxR X (Zym X.K):=by
 intro value slice pins s σ H x y v u Q I rx ry h hs;obtain⟨p,xs,i,z,rfl,rfl,hq,he,q⟩:=h;cases rx;obtain⟨t,rfl⟩:=ry;obtain⟨its,r,pl,hz⟩:=I.list hq;obtain⟨j,h1,h2,h3,h4,h5⟩:=Zmt he;obtain⟨w,ew,rw'⟩:=r.get h2;have hl:=r.length;have hn:=Zj1;have fin:EP X pins σ Q w s:=⟨z,H,I,rw',q⟩
 by_cases h0:0<=i
 ·have hj:i.toNat=j:=by
   rw[seqIndex_of h0 h5]at h1;exact ZAz h1
  exact item_listR pl.isList h0 (by omega) (by rw[hj]; simpa using ew) fin hs
 ·have hj:(i+(its.toArray.size:Int)).toNat=j:=by
   rw[seqIndex_neg (by omega) h4]at h1;rw[ZAd,<-hl];exact ZAz h1
  exact subscriptTail_builtinR (x:=w) pl.isList.typeIs slot_list_getitem.lookup
   (wpAny_getItem_list_neg (Q:=λr s'=>r=w/\EP X pins σ Q r s') pl.isList (by omega) (by rw[ZAd]<;>omega) (by omega) (by rw[hj]; simpa using ew) ⟨rfl,fin⟩) hs
theorem ZxR:IxR X (Zw0 X.K):=by
 intro value slice pins s σ H x y v u Q I rx ry h hs;obtain⟨p,xs,i,z,rfl,rfl,hq,he,q⟩:=h;cases rx;obtain⟨t,rfl⟩:=ry;obtain⟨its,r,pl,hz⟩:=I.tuple hq;obtain⟨j,h1,h2,h3,h4,h5⟩:=Zmt he;obtain⟨w,ew,rw'⟩:=r.get h2;have hl:=r.length;have hn:=Zj1;have fin:EP X pins σ Q w s:=⟨z,H,I,rw',q⟩;exact subscriptTail_builtinR (x:=w) pl.typeIs slot_tuple_getitem.lookup
  (getItem_tuple (j:=j) (Q:=λr s'=>r=w/\EP X pins σ Q r s') pl (by omega) (by omega) (by rw[ZAd,<-hl]; exact h1) (by simpa using ew) ⟨rfl,fin⟩) hs
theorem Zxd:IxR X Zxt:=by
 intro value slice pins s σ H x y v u Q I rx ry h hs;obtain⟨z,i,c,rfl,rfl,hz,he,q⟩:=h;obtain⟨t,rfl⟩:=rx;obtain⟨t',rfl⟩:=ry;obtain⟨j,h1,h2,h3,h4,h5⟩:=Zmt he;have hl:z.cps.toList.length=z.length:=by simp[Str.length]
 rw[hl]at h1 h4 h5;have hn:=Zj1;exact tail_any (typeIs_str s z t) slot_str_getitem.lookup (getItem_str (c:=c) (by have e1:decide (i < -(2 ^ 63:Int))=false:=decide_eq_false (by omega);have e2:decide (i ≥ 2 ^ 63)=false:=decide_eq_false (by omega);rw[e1,e2,Bool.or_false]) (by rw[h1]; simpa using h2) ⟨.str ⟨#[c]⟩,H,I.tok _,⟨_,rfl⟩,q⟩) hs
def rIx(K:ZzS):R2:=λx y H Q=>Zym K x y H Q\/Zw0 K x y H Q\/Zxt x y H Q
theorem ZxV:IxR X (rIx X.K):=Zwd.or (ZxR.or Zxd)
theorem Zsd(its:List Value)(n j:Nat)(u:Value):ZC1 (·.setIfInBounds j u) { cls:=.type "list",data:=.seq its.toArray n }={ cls:=.type "list",data:=.seq (its.set j u).toArray n }:=by simp[ZC1]
theorem Inv.lst{pins:List (Addr × Obj)}{σ:St}{H:Hp}{s:Shared}{p:Addr}{xs:List V}(I:Inv X pins σ H s)(h:H p=some (.lst xs)) :
  ∃(its:List Value) (n:Nat),Vals xs its/\s.heap.get? p=some { cls:=.type "list",data:=.seq its.toArray n }/\xs.length<=sizeLine:=by
 obtain⟨z,its,n,r,e⟩:=I.hok p _ h;exact⟨its,n,r,e,z⟩
theorem Inv.lstUpd{p:Addr}{xs ys:List V}{its its':List Value}{n':Nat}{f:Obj->Obj}(I:Inv X pins σ H s)(h:H p=some (.lst xs))
  (ho:s.heap.get? p=some { cls:=.type "list",data:=.seq its.toArray n }) (hf:f { cls:=.type "list",data:=.seq its.toArray n }={ cls:=.type "list",data:=.seq its'.toArray n' }) (r:Vals ys its') (hz:ys.length<=sizeLine) (t:Nat) :
  Inv X pins σ (upd H p (.lst ys)) { s with heap:=s.heap.update p f,toks:=t }:=by
 have e:(s.heap.update p f).get? p=some { cls:=.type "list",data:=.seq its'.toArray n' }:=by rw[ZAZ f ho (by rw[hf]<;>rfl),hf]
 refine I.write (x:=p) (e:=p) (by rw[h]; trivial) (.inl rfl) (λb u hb q=>(ZBp _ _ (ZA0 hb)).trans q) ⟨_,e⟩ ?_;exact⟨hz,its',n',r,e⟩
def ZyP:V->V->V->Hp->(Hp->Prop)->Prop:=λo i v H Q=>∃p xs k j,o=.ref p/\i=.int k/\H p=some (.lst xs)/\ixN xs.length k=some j/\Q (upd H p (.lst (xs.set j v)))
theorem set_list:ZxD X ZyP:=by
 intro pins s σ H o i v ov iv u Q I ro ri rv h;obtain⟨p,xs,k,j,rfl,rfl,hp,hj,q⟩:=h;cases ro;obtain⟨t,rfl⟩:=ri;obtain⟨its,n,r,ho,hz⟩:=I.lst hp;obtain⟨h1,h2,h3,h4⟩:=Zre hj;have hl:=r.length;have hn:=Zj1;have I':Inv X pins σ (upd H p (.lst (xs.set j v))) { s with heap:=s.heap.update p (ZC1 (·.setIfInBounds j u)) } :=
  I.lstUpd hp ho (Zsd its n j u) (r.set rv j) (by rw[ZBc]; exact hz) s.toks
 by_cases h0:0<=k
 ·have hk:k.toNat=j:=by
   rw[seqIndex_of h0 h4]at h1;exact ZAz h1
  exact PySem.W.ki_setAt ho h0 (by omega) (by rw[ZAd,<-hl]; exact h4) (by rw[hk]; exact⟨_,I',q⟩)
 ·have hk:(k+(its.toArray.size:Int)).toNat=j:=by
   rw[seqIndex_neg (by omega) h3]at h1;rw[ZAd,<-hl];exact ZAz h1
  exact PySem.W.ki_setBack ho (by omega) (by rw[ZAd,<-hl]; exact h3) (by omega) (by rw[hk]; exact⟨_,I',q⟩)
theorem Zqa(lo hi:Option Int)(n:Nat):(ZCM lo hi none n).1=((HT.sIx n 0 lo:Nat):Int)/\(ZCM lo hi none n).2.1=((HT.sIx n n hi:Nat):Int)/\(ZCM lo hi none n).2.2=1:=by
 refine⟨?_,?_,rfl⟩
 ·cases lo with
  | none=>simp[ZCM,HT.sIx]
  | some i =>
   simp only[ZCM,HT.sIx,Option.getD_none,show(1:Int) > 0 by decide,if_true]
   by_cases h:i<0
   ·simp only[h,if_true]<;>omega
   ·simp only[h,if_false]<;>omega
 ·cases hi with
  | none=>simp[ZCM,HT.sIx]
  | some i =>
   simp only[ZCM,HT.sIx,Option.getD_none,show(1:Int) > 0 by decide,if_true]
   by_cases h:i<0
   ·simp only[h,if_true]<;>omega
   ·simp only[h,if_false]<;>omega
theorem ZnI(its:List Value)(lo hi:Option Int):slicePick its.toArray lo hi none=((its.drop (HT.sIx its.length 0 lo)).take (HT.sIx its.length its.length hi-HT.sIx its.length 0 lo)).toArray:=by obtain⟨h1,h2,h3⟩:=Zqa lo hi its.toArray.size;unfold slicePick;rw[h1,h2,h3];simp only[sliceRange_one,pick_run,ZAd]<;>rfl
def Zzf(K:ZzS):V->Option Int->Option Int->Hp->VK->Prop:=λx lo hi H Q=>∃a xs,x=.ref a/\SqL K H a xs/\∀p,H p=none->Q (.ref p) (upd H p (.lst (ZoR xs lo hi)))
theorem ZvT:SlR X (Zzf X.K):=by intro pins s σ H x v vl vu lo hi sl Q I rx hs pl pu h;obtain⟨a,xs,rfl,hx,q⟩:=h;cases rx;obtain⟨its,r,ht,hz⟩:=I.list hx;have hlen:=r.length;refine⟨"list",_,slot_list_getitem.lookup,ht.isList.typeIs,?_⟩;refine wpAny_getItem_list_slice ht.isList hs pl pu .none (by simp) ?_ (by rw[ZAd]<;>omega);rw[ZnI,<-hlen];refine⟨.ref s.heap.objs.size,_,I.laid (t':=s.toks) (o:=.lst (ZoR xs lo hi)) (λb ob q=>ZzW _ q) (Zz3 _) ?_,rfl,q _ (I.hok.fresh (Zz3 _))⟩;exact⟨ZAR (ZqM xs lo hi) hz,_,0,(r.drop (HT.sIx xs.length 0 lo)).take (HT.sIx xs.length xs.length hi-HT.sIx xs.length 0 lo),ZAa _ rfl⟩
def Zbg:V->Bool
 | .non=>true
 | .bl _=>true
 | .int _=>true
 | .str _=>true
 | _=>false
def eqV:V->V->Bool
 | .non,.non=>true
 | .bl a,.bl b=>a==b
 | .bl a,.int b=>(if a then 1 else 0)==b
 | .int a,.bl b=>a==(if b then 1 else 0)
 | .int a,.int b=>a==b
 | .str a,.str b=>a==b
 | _,_=>false
theorem Zw2{A:Around}{v:Value}(ry:RelV y u)(rx:RelV x v)(fy:Zbg y=true)(fx:Zbg x=true):SeqAt.EqAt A s u v (eqV y x):=by
 cases y with
 | non =>
  cases ry;cases x with
  | non=>cases rx; exact SeqAt.EqAt.same _
  | bl b=>cases rx; exact SeqAt.EqAt.none_bool b
  | int b=>obtain⟨t,rfl⟩:=rx; exact SeqAt.EqAt.none_int b t
  | str b=>obtain⟨t,rfl⟩:=rx; exact SeqAt.EqAt.none_str b t
  | _=>exact absurd (show false=true from fx) ZAC
 | bl a =>
  cases ry;cases x with
  | non=>cases rx; exact SeqAt.EqAt.bool_none a
  | bl b=>cases rx; exact SeqAt.EqAt.bool_bool a b
  | int b=>obtain⟨t,rfl⟩:=rx; exact SeqAt.EqAt.bool_int a b t
  | str b=>obtain⟨t,rfl⟩:=rx; exact SeqAt.EqAt.bool_str a b t
  | _=>exact absurd (show false=true from fx) ZAC
 | int a =>
  obtain⟨t',rfl⟩:=ry;cases x with
  | non=>cases rx; exact SeqAt.EqAt.int_none a t'
  | bl b=>cases rx; exact SeqAt.EqAt.int_bool a t' b
  | int b=>obtain⟨t,rfl⟩:=rx; exact SeqAt.EqAt.int_int a t' b t
  | str b=>obtain⟨t,rfl⟩:=rx; exact ZEO a t' b t
  | _=>exact absurd (show false=true from fx) ZAC
 | str a =>
  obtain⟨t',rfl⟩:=ry;cases x with
  | non=>cases rx; exact SeqAt.EqAt.str_none a t'
  | bl b=>cases rx; exact SeqAt.EqAt.str_bool a t' b
  | int b=>obtain⟨t,rfl⟩:=rx; exact ZEP a t' b t
  | str b=>obtain⟨t,rfl⟩:=rx; exact SeqAt.EqAt.str_str a t' b t
  | _=>exact absurd (show false=true from fx) ZAC
 | _=>exact absurd (show false=true from fy) ZAC
def eqU(x:V)(u:Value):Bool:=match u with
 | .none=>eqV .non x
 | .bool b=>eqV (.bl b) x
 | .int i _=>eqV (.int i) x
 | .str z _=>eqV (.str z) x
 | _=>false
theorem Zts(r:RelV y u)(f:Zbg y=true):eqU x u=eqV y x:=by
 cases y with
 | non=>cases r; rfl
 | bl b=>cases r; rfl
 | int i=>obtain⟨t,rfl⟩:=r; rfl
 | str z=>obtain⟨t,rfl⟩:=r; rfl
 | _=>exact absurd (show false=true from f) ZAC
theorem ZhW{x:V}:∀{xs:List V} {us:List Value},Vals xs us->xs.all Zbg=true->us.any (eqU x)=xs.any λy=>eqV y x
 | _,_,.nil,_=>rfl
 | y::xs,u::us,.cons r t,f=>by rw[ZAV,ZAc]at f;rw[ZBJ,ZBJ,Zts r f.1,ZhW t f.2]
theorem ZgR{A:Around}{s:Shared}{x:V}{v:Value}(rx:RelV x v)(fx:Zbg x=true):∀{xs:List V} {us:List Value},Vals xs us->xs.all Zbg=true->∀u∈us,SeqAt.EqAt A s u v (eqU x u)
 | _,_,.nil,_=>λu hu=>by cases hu
 | y::xs,u::us,.cons r t,f=>λu' hu=>by
  rw[ZAV,ZAc]at f;rcases Zz7.mp hu with rfl | hu
  ·rw[Zts r f.1]; exact Zw2 r rx f.1 fx
  ·exact ZgR rx fx t f.2 u' hu
def inV(x:V)(xs:List V):Bool:=xs.any λy=>eqV y x
def rIn(K:ZzS)(neg:Bool):R2:=λx y H Q=>∃p xs,y=.ref p/\(SqL K H p xs\/SqT K H p xs)/\Zbg x=true/\xs.all Zbg=true/\Q (.bl (if neg then !inV x xs else inV x xs)) H
theorem Ztj:OpR X (ZA7 .In) (rIn X.K false):=by
 intro pins s σ H x y v u Q I rx ry h;obtain⟨p,xs,rfl,hq,fx,fs,q⟩:=h;cases ry;rcases hq with hq | hq
 ·obtain⟨its,r,pl,hz⟩:=I.list hq
  refine SeqAt.in_listAt (eqU x) pl.isList (λw hw=>ZgR rx fx r fs w (by simpa using hw)) ⟨.bl _,H,I,rfl,?_⟩;rw[show its.toArray.any (eqU x)=its.any (eqU x) by simp,ZhW r fs];exact q
 ·obtain⟨its,r,pl,hz⟩:=I.tuple hq
  refine SeqAt.in_tupleAt (eqU x) pl (λw hw=>ZgR rx fx r fs w (by simpa using hw)) ⟨.bl _,H,I,rfl,?_⟩;rw[show its.toArray.any (eqU x)=its.any (eqU x) by simp,ZhW r fs];exact q
theorem ZpD:OpR X (ZA7 .NotIn) (rIn X.K true):=by
 intro pins s σ H x y v u Q I rx ry h;obtain⟨p,xs,rfl,hq,fx,fs,q⟩:=h;cases ry;rcases hq with hq | hq
 ·obtain⟨its,r,pl,hz⟩:=I.list hq
  refine SeqAt.notIn_listAt (eqU x) pl.isList (λw hw=>ZgR rx fx r fs w (by simpa using hw)) ⟨.bl _,H,I,rfl,?_⟩;rw[show its.toArray.any (eqU x)=its.any (eqU x) by simp,ZhW r fs];exact q
 ·obtain⟨its,r,pl,hz⟩:=I.tuple hq
  refine SeqAt.notIn_tupleAt (eqU x) pl (λw hw=>ZgR rx fx r fs w (by simpa using hw)) ⟨.bl _,H,I,rfl,?_⟩;rw[show its.toArray.any (eqU x)=its.any (eqU x) by simp,ZhW r fs];exact q
theorem Zpl:Zbh X (.builtin "len") (λxs H Q=>∃p ys,xs=[.ref p]/\(SqL X.K H p ys\/SqT X.K H p ys)/\Q (.int ys.length) H):=by
 intro pins s σ H xs us Q I r h;obtain⟨p,ys,rfl,hq,q⟩:=h;obtain⟨u,rfl,rx⟩:=vals1 r;cases rx;have hn:=Zj1;rcases hq with hq | hq
 ·obtain⟨its,r',pl,hz⟩:=I.list hq
  have hlen:=r'.length;exact Calls.call_len_list pl.isList (by simp only[ZAd]<;>omega) ⟨.int ys.length,H,I.tok _,⟨s.toks+1,by rw[ZAd,hlen]⟩,q⟩
 ·obtain⟨its,r',pl,hz⟩:=I.tuple hq
  have hlen:=r'.length;exact len_tuple pl (by simp only[ZAd]<;>omega) ⟨.int ys.length,H,I.tok _,⟨s.toks+1,by rw[ZAd,hlen]⟩,q⟩
theorem Zbh.or{f:Value}{r r':List V->Hp->VK->Prop}(h:Zbh X f r)(h':Zbh X f r'):Zbh X f (λxs H Q=>r xs H Q\/r' xs H Q):=by
 intro pins s σ H xs us Q I rs q;rcases q with q | q
 ·exact h pins s σ H xs us Q I rs q
 ·exact h' pins s σ H xs us Q I rs q
theorem ZoQ:Zbh X (.type "list") (λxs H Q=>∃p ys,xs=[.ref p]/\(SqL X.K H p ys\/SqT X.K H p ys)/\∀l,H l=none->Q (.ref l) (upd H l (.lst ys))):=by
 intro pins s σ H xs us Q I r h;obtain⟨p,ys,rfl,hq,q⟩:=h;obtain⟨u,rfl,rx⟩:=vals1 r;cases rx;have fin:∀(its:List Value),Vals ys its->ys.length<=sizeLine->∀(h':Heap) (c':Nat),(∀b o',s.heap.get? b=some o'->h'.get? b=some o') ->
   h'.get? s.heap.objs.size=some { cls:=.type "list",dict:=none,data:=.seq its.toArray c',slots:=#[] }->EP X pins σ Q (.ref s.heap.objs.size) { s with heap:=h' }:=λits r' hz h' c' kp e =>
  ⟨.ref s.heap.objs.size,_,I.laid (t':=s.toks) kp (Zz3 _) (show Zac X.prog X.w _ h' _ (.lst ys) from⟨hz,its,c',r',e⟩),rfl,q _ (I.hok.fresh (Zz3 _))⟩
 rcases hq with hq | hq
 ·obtain⟨its,r',pl,hz⟩:=I.list hq
  have hlen:=r'.length;obtain⟨o,ho,hc,n,hd⟩:=pl.isList;exact call_list_seq p (.inl rfl) ho hc hd (λh' c' kp e=>fin its r' hz h' c' kp e) (by simp only[ZAd]<;>omega)
 ·obtain⟨its,r',pl,hz⟩:=I.tuple hq
  have hlen:=r'.length;obtain⟨o,ho,hc,n,hd⟩:=pl;exact call_list_seq p (.inr rfl) ho hc hd (λh' c' kp e=>fin its r' hz h' c' kp e) (by simp only[ZAd]<;>omega)
theorem ZnK:Zbh X (.type "tuple") (λxs H Q=>∃p ys,xs=[.ref p]/\((SqL X.K H p ys/\∀l,H l=none->Q (.ref l) (upd H l (.tup ys)))\/(SqT X.K H p ys/\Q (.ref p) H))):=by
 intro pins s σ H xs us Q I r h;obtain⟨p,ys,rfl,h⟩:=h;obtain⟨u,rfl,rx⟩:=vals1 r;cases rx;rcases h with⟨hq,q⟩ | ⟨hq,q⟩
 ·obtain⟨its,r',pl,hz⟩:=I.list hq
  have hlen:=r'.length;refine call_tuple_list pl.isList (λh' kp=>?_) (by simp only[ZAd]<;>omega);have I1:Inv X pins σ H { s with heap:=h' }:=I.kept (t':=s.toks) kp;have I2:Inv X pins σ (upd H h'.objs.size (.tup ys)) { s with heap:=h'.push { cls:=.type "tuple",data:=.seq its.toArray } } :=
   I1.laid (t':=s.toks) (λb o e=>ZzW _ e) (Zz3 _) (show Zac X.prog X.w _ _ _ (.tup ys) from⟨hz,its,r',IsTup.new _ _⟩)
  exact⟨.ref h'.objs.size,_,I2,rfl,q _ (I1.hok.fresh (Zz3 _))⟩
 ·obtain⟨its,r',pl,hz⟩:=I.tuple hq
  exact call_tuple_same pl ⟨.ref p,H,I,rfl,q⟩
def tyV(K:ZzS)(T:String)(x:V)(H:Hp):Prop:=match x with
 | .str _=>T = "str"
 | .int _=>T = "int"
 | .ref p=>(T = "list"/\∃xs,SqL K H p xs)\/(T = "tuple"/\∃o,K.lookup p=some o/\o.cls=.type "tuple"/\o.dict=none) \/
   (T = "dict"/\((∃kvs,H p=some (.dK kvs))\/∃kvs,H p=some (.dT kvs)))\/(T = "set"/\∃S n,H p=some (.set S n))
 | _=>False
theorem ZsK{T:String}{v:Value}(I:Inv X pins σ H s)(r:RelV x v)(ty:tyV X.K T x H) :
  s.TypeIs v T/\∀a,v=.ref a->∃ob,s.heap.get? a=some ob/\ob.dict=none:=by
 cases x with
 | str z=>obtain⟨t,rfl⟩:=r;cases(show T = "str" from ty);exact⟨typeIs_str s z t,λ_ e=>nomatch e⟩
 | int i=>obtain⟨t,rfl⟩:=r;cases(show T = "int" from ty);exact⟨typeIs_int s i t,λ_ e=>nomatch e⟩
 | ref p =>
  cases r;rcases ty with⟨rfl,xs,hq⟩ | ⟨rfl,o,hk,hc,hd⟩ | ⟨rfl,hk⟩ | ⟨rfl,S,n,hk⟩
  ·obtain⟨its,_,pl,_⟩:=I.list hq
   refine⟨pl.isList.typeIs,λa e=>?_⟩;cases e;obtain⟨o,n,e,c,hd,_⟩:=pl;exact⟨o,e,hd⟩
  ·refine⟨⟨o,I.kIn p o hk,hc⟩,λa e=>?_⟩
   cases e;exact⟨o,I.kIn _ o hk,hd⟩
  ·have z:∃o,s.heap.get? p=some o/\o.ExactDict:=by
    rcases hk with⟨kvs,hk⟩ | ⟨kvs,hk⟩
    ·obtain⟨_,_,_,_,o,_,_,e,ex,_⟩:=I.hok p _ hk
     exact⟨o,e,ex⟩
    ·obtain⟨_,_,_,_,o,_,_,e,ex,_⟩:=I.hok p _ hk
     exact⟨o,e,ex⟩
   obtain⟨o,e,ex⟩:=z;refine⟨⟨o,e,ex.1⟩,λa e2=>?_⟩;cases e2;exact⟨o,e,ex.2.1⟩
  ·obtain⟨o,_,_,_,e,ex,_⟩:=I.hok p _ hk
   refine⟨⟨o,e,ex.1⟩,λa e2=>?_⟩;cases e2;exact⟨o,e,ex.2.1⟩
 | _=>exact ZAY ty
def Zzw(K:ZzS)(T:String)(r:V->List V->Hp->VK->Prop)(to:TE):TE:=λσ H Q=>to σ H λx H1=>tyV K T x H1/\r x [] H1 Q
def tBM(K:ZzS)(T:String)(r:V->List V->Hp->VK->Prop)(to:TE)(t:TA):TE:=λσ H Q=>to σ H λx H1=>tyV K T x H1/\t σ H1 λxs H2=>r x xs H2 Q
variable{o e:Expr}{es:List Expr}{to:TE}{t:TA}{name:Str}{apos cpos:Pos}{T id:String}{r:V->List V->Hp->VK->Prop}
theorem Zye(pa:PlainAttrs T)(slot:Slot T name id)(hty:typeOf (.builtin id)=pure (.type "method_descriptor"))(hm:MtR X id r)(ho:PE X o to)
  (hbase:ZBU o name X.env (eval o X.env)=eval o X.env:=by rfl) (hline:(apos.endLine==cpos.line)=true:=by rfl):PE X (.Call (.Attribute o name apos) [] [] cpos) (Zzw X.K T r to):=by
 intro pins s σ H Q I h;refine wpAny_Call_method0_late hbase hline (thn (ho pins s σ H _ I h) λv s1 ⟨x,H1,I1,r1,ty,q1⟩=>?_);obtain⟨h1,h2⟩:=ZsK I1 r1 ty;exact⟨T,id,pa,slot,hty,h1,h2,ZCw rfl (PySem.evalArgs_none (hm pins s1 σ H1 x [] v [] Q I1 r1 .nil q1))⟩
theorem ZnQ(pa:PlainAttrs T)(slot:Slot T name id)(hty:typeOf (.builtin id)=pure (.type "method_descriptor"))(hm:MtR X id r)(ho:PE X o to)(ha:PA X (e::es) t)
  (hbase:ZBU o name X.env (eval o X.env)=eval o X.env:=by rfl)
  (hfew:((backTo cpos (Zz6 (e::es) X.env)).all (λx=>!x.1)&&(ZDC cpos (ZCN [] X.env)).all (λx=>x.1.isSome)
   && decide ((e::es).length+([]:List Keyword).length+(if([]:List Keyword).isEmpty then 0 else 1)<30))=true:=by rfl)
  (hline:(apos.endLine==cpos.line)=true:=by rfl) (hs:Zz6 (e::es) X.env=(false,eval e X.env)::Zz6 es X.env:=by rfl) (hplain:(backTo cpos (Zz6 es X.env)).any (·.1)=false:=by rfl) :
  PE X (.Call (.Attribute o name apos) (e::es) [] cpos) (tBM X.K T r to t):=by
 intro pins s σ H Q I h;refine wpAny_Call_method_late hbase hfew hline rfl (thn (ho pins s σ H _ I h) λv s1 ⟨x,H1,I1,r1,ty,q1⟩=>?_);obtain⟨h1,h2⟩:=ZsK I1 r1 ty;refine⟨T,id,pa,slot,hty,h1,h2,?_⟩;have hA:=ha cpos pins s1 σ H1 _ I1 q1;rw[hs]at hA ⊢;refine ZCw (by show(false||(backTo cpos (Zz6 es X.env)).any (·.1))=false; rw[hplain]<;>rfl) (ZDr ?_);exact thn hA λus s2 ⟨vs,H2,I2,r2,q2⟩=>hm pins s2 σ H2 x vs v us Q I2 r1 r2 q2
end
end L2
namespace L2
open PySem PySem.Spec PyProof.Rows
variable{its:List Value}{n t':Nat}
def MtM(X:Cx)(id:String)(r:V->List V->Hp->VK->Prop):Prop :=
 ∀(pins:List (Addr × Obj)) (s:Shared) (σ:St) (H:Hp) (x:V) (xs:List V) (v:Value) (us:List Value) (Q:VK),Inv X pins σ H s->RelV x v->Vals xs us->r x xs H Q ->
  wpAny (model X.prog X.w) X.A (call (.builtin id) (v::us)) (EP X pins σ Q) X.xe s
theorem Vals.one:∀{x:V} {us:List Value},Vals [x] us->∃u,us=[u]/\RelV x u
 | _,_,.cons r .nil=>⟨_,rfl,r⟩
theorem Vals.zero:∀{us:List Value},Vals [] us->us=[]
 | _,.nil=>rfl
theorem Vals.dropLast{xs:List V}{us:List Value}(h:Vals xs us):Vals xs.dropLast us.dropLast:=by
 induction h with
 | nil=>exact .nil
 | cons r t ih =>
  cases t with
  | nil=>exact .nil
  | cons q t'=>exact .cons r ih
theorem Vals.rep{xs:List V}{us:List Value}(h:Vals xs us):∀k:Nat,Vals (ZAs k xs).flatten (ZAs k us).flatten
 | 0=>.nil
 | k+1=>by rw[ZBF,ZBF,ZCc,ZCc];exact Vals.append h (Vals.rep h k)
theorem Zr1{α:Type}(l:List α):l.eraseIdx (l.length-1)=l.dropLast:=by
 induction l with
 | nil=>rfl
 | cons a r ih =>
  cases r with
  | nil=>rfl
  | cons b r =>
   have e:(a::b::r).length-1=((b::r).length-1)+1:=by have h1:(a::b::r).length=r.length+2:=rfl;have h2:(b::r).length=r.length+1:=rfl;omega
   rw[e,List.eraseIdx_cons_succ,ih]
   all_goals rfl
theorem foldl_rep(its:List Value):∀(k:Nat) (acc:List Value),
  List.foldl (λx1 x2=>x1++x2) acc.toArray (ZAs k its.toArray)=(acc++(ZAs k its).flatten).toArray
 | 0,acc=>by simp
 | k+1,acc=>by
  have e:acc.toArray++its.toArray=(acc++its).toArray:=by simp
  have e2:(acc++its)++(ZAs k its).flatten=acc++(ZAs (k+1) its).flatten:=by rw[ZBF,ZCc,ZA8]
  rw[<-e2,<-foldl_rep its k (acc++its),<-e,ZBF,ZA3]
section
variable{X:Cx}{pins:List (Addr × Obj)}{σ:St}{H:Hp}{s:Shared}{l b:Addr}{xs ys zs:List V}
theorem Inv.lset{its':List Value}{f:Array Value->Array Value}(I:Inv X pins σ H s)(hH:H l=some (.lst xs))
  (e:s.heap.get? l=some { cls:=.type "list",data:=.seq its.toArray n }) (hf:f its.toArray=its'.toArray) (hv:Vals ys its') (hz:ys.length<=sizeLine) :
  Inv X pins σ (upd H l (.lst ys)) { s with heap:=s.heap.update l (ZC1 f),toks:=t' }:=by
 have q:=PySem.IsL.update e f;rw[hf]at q;refine I.write (x:=l) (e:=l) (by rw[hH]; exact trivial) (.inl rfl) (λb' u hb hu=>(ZBp s.heap (ZC1 f) (ZA0 hb)).trans hu) ⟨_,q⟩ ?_;exact⟨hz,its',_,hv,q⟩
theorem Inv.lnew(I:Inv X pins σ H s)(hv:Vals ys its)(hz:ys.length<=sizeLine) :
  Inv X pins σ (upd H s.heap.objs.size (.lst ys)) { s with heap:=s.heap.push { cls:=.type "list",data:=.seq its.toArray },toks:=t' } :=
 I.laid (λ_ _ q=>ZzW _ q) (Zz3 _) ⟨hz,its,0,hv,ZAa _ rfl⟩
theorem Inv.fresh(I:Inv X pins σ H s):H s.heap.objs.size=none:=I.hok.fresh (Zz3 _)
theorem Inv.lstM(I:Inv X pins σ H s)(hH:H l=some (.lst xs)):xs.length<=sizeLine/\∃(its:List Value) (n:Nat),Vals xs its/\xs.length=its.length/\s.heap.get? l=some { cls:=.type "list",data:=.seq its.toArray n }:=by obtain⟨z,its,n,r,e⟩:=I.hok l _ hH;exact⟨z,its,n,r,r.length,e⟩
theorem ZoL(h:n<=sizeLine):ZCj n=false:=by unfold ZCj;exact decide_eq_false (by omega)
end
section
variable{X:Cx}
def Zrt:V->List V->Hp->VK->Prop:=λx vs H Q=>∃l xs y,x=.ref l/\vs=[y]/\H l=some (.lst xs)/\xs.length<sizeLine/\Q .non (upd H l (.lst (xs++[y])))
theorem Zg6:MtM X "list.append" Zrt:=by intro pins s σ H x vs v us Q I rx rv h;obtain⟨l,xs,y,rfl,rfl,hH,hz,q⟩:=h;cases rx;obtain⟨u,rfl,ru⟩:=rv.one;obtain⟨z,its,n,r,hl,e⟩:=I.lstM hH;refine ZD2 F.slot_list_append ⟨_,e,rfl⟩ F.entry_list_append (F.args_list_append_2 _ _) (PySem.list_append l its.toArray n u (by rw[ZAd]; omega)) ⟨e,?_⟩;refine⟨.non,_,I.lset (its':=its++[u]) hH e (by simp) (r.append (.cons ru .nil)) ?_,rfl,q⟩;rw[ZAb,ZBN];omega
def ZwK:V->List V->Hp->VK->Prop:=λx vs H Q=>∃l b xs zs,x=.ref l/\vs=[.ref b]/\H l=some (.lst xs)/\H b=some (.lst zs)/\xs.length+zs.length<=sizeLine/\Q .non (upd H l (.lst (xs++zs)))
theorem ZtD:MtM X "list.extend" ZwK:=by
 intro pins s σ H x vs v us Q I rx rv h;obtain⟨l,b,xs,zs,rfl,rfl,hH,hB,hz,q⟩:=h;cases rx;obtain⟨u,rfl,ru⟩:=rv.one;cases ru;obtain⟨z,its,n,r,hl,e⟩:=I.lstM hH;obtain⟨z2,its2,n2,r2,hl2,e2⟩:=I.lstM hB;have hsz:its.toArray.size+its2.toArray.size<=sizeLine:=by rw[ZAd,ZAd]; omega
 have hlong:¬(!its.toArray.isEmpty&&ZCj (its.toArray.size+its2.toArray.size))=true:=by rw[ZoL hsz,Bool.and_false];exact ZAC
 refine ZD2 F.slot_list_extend ⟨_,e,rfl⟩ F.entry_list_extend (F.args_list_extend_2 _ _)
  (AutoSeq1.list_extend_list_list_0 l its.toArray n b its2.toArray n2 hlong (by rw[ZAd]; omega) (by omega)) ⟨e,e2,?_⟩
 refine⟨.non,_,I.lset (its':=its++its2) hH e (by simp) (r.append r2) ?_,rfl,q⟩;rw[ZAb];omega
def Zzq:V->List V->Hp->VK->Prop:=λx vs H Q=>∃l xs y,x=.ref l/\vs=[]/\H l=some (.lst xs)/\xs[xs.length-1]?=some y/\Q y (upd H l (.lst xs.dropLast))
theorem Zxf:MtM X "list.pop" Zzq:=by
 intro pins s σ H x vs v us Q I rx rv h;obtain⟨l,xs,y,rfl,rfl,hH,hy,q⟩:=h;cases rx;have hus:=rv.zero;subst hus;obtain⟨z,its,n,r,hl,e⟩:=I.lstM hH;obtain⟨u,hu,ru⟩:=r.get hy;have hy':its.toArray[its.toArray.size-1]?=some u:=by show its.toArray[its.length-1]?=some u;rw[<-ZAP,<-hl];exact hu
 refine ZD2 F.slot_list_pop ⟨_,e,rfl⟩ F.entry_list_pop (F.args_list_pop_1 _) (MeetsSeq.list_pop_last l its.toArray n u hy' (by rw[ZAd]; omega)) ⟨e,?_⟩;refine⟨y,_,I.lset (its':=its.dropLast) hH e ?_ r.dropLast ?_,ru,q⟩
 ·show its.toArray.eraseIdxIfInBounds (its.toArray.size-1)=its.dropLast.toArray
  rw[ZAd,List.eraseIdxIfInBounds_toArray,Zr1]
 ·rw[List.length_dropLast]
  omega
def Zzm:R2:=λx y H Q=>∃l b xs zs,x=.ref l/\y=.ref b/\H l=some (.lst xs)/\H b=some (.lst zs)/\xs.length+zs.length<=sizeLine/\∀p,H p=none->Q (.ref p) (upd H p (.lst (xs++zs)))
theorem Zx3:OpR X (ZCV .Add) Zzm:=by
 intro pins s σ H x y v u Q I rx ry h;obtain⟨l,b,xs,zs,rfl,rfl,hH,hB,hz,q⟩:=h;cases rx;cases ry;obtain⟨z,its,n,r,hl,e⟩:=I.lstM hH;obtain⟨z2,its2,n2,r2,hl2,e2⟩:=I.lstM hB;refine PySem.P.add_list e e2 ?_ (by rw[ZAd,ZAd]; omega);have ea:its.toArray++its2.toArray=(its++its2).toArray:=by simp
 rw[ea];exact⟨.ref _,_,I.lnew (t':=s.toks) (r.append r2) (by rw[ZAb]; omega),rfl,q _ I.fresh⟩
def Zzg:R2:=λx y H Q=>∃l k xs,x=.ref l/\y=.int k/\H l=some (.lst xs)/\-(2 ^ 63)<=k/\k<2 ^ 63/\xs.length*k.toNat<=sizeLine /\
 ∀p,H p=none->Q (.ref p) (upd H p (.lst (ZAs k.toNat xs).flatten))
theorem len_rep{α:Type}(xs:List α)(k:Nat):(ZAs k xs).flatten.length=k*xs.length:=by
 induction k with
 | zero=>simp
 | succ k ih=>rw[ZBF,ZCc,ZAb,ih,Nat.succ_mul,Nat.add_comm]
theorem Zxr:OpR X (ZCV .Mult) Zzg:=by
 intro pins s σ H x y v u Q I rx ry h;obtain⟨l,k,xs,rfl,rfl,hH,h1,h2,hz,q⟩:=h;cases rx;obtain⟨t,rfl⟩:=ry;obtain⟨z,its,n,r,hl,e⟩:=I.lstM hH;have hlen:its.toArray.size*k.toNat<=sizeLine:=by rw[ZAd,<-hl]; exact hz
 have hcap:¬its.toArray.size*k.toNat > (2 ^ 63-1) / 8:=by
  have:(sizeLine:Nat)<=(2 ^ 63-1) / 8:=by decide
  omega
 have hfit:¬(!Builtin.List.listFitsIndex k)=true:=by rw[fitsIndex_both h1 h2];exact ZAC
 have hlong:¬ZCj (its.toArray.size*k.toNat)=true:=by rw[ZoL hlen];exact ZAC
 have hnew:List.foldl (λx1 x2=>x1++x2) #[] (ZAs (if its.toArray.isEmpty=true then 0 else k.toNat) its.toArray)=(ZAs k.toNat its).flatten.toArray:=by
  have f0:∀m:Nat,List.foldl (λx1 x2=>x1++x2) #[] (ZAs m its.toArray)=(ZAs m its).flatten.toArray:=λm=>by have:=foldl_rep its m [];rw[ZCQ]at this;exact this
  rw[f0];cases its with
  | nil=>simp
  | cons a r'=>rw[if_neg (by simp)]
 refine wpAny_binaryOp_repeat_ref (T:="list") (U:="int") (by decide) ⟨_,e,rfl⟩ (λs'=>typeIs_int s' k t) noFill_list_mul F.fills_int_mul F.slot_int_rmul repeat_list F.slot_int_index.lookup
  (ZD2 F.slot_int_rmul (typeIs_int s k t) F.entry_int_rmul (F.args_int_rmul_2 _ _) (int___rmul___int_list k t l its.toArray n)
   ⟨e,rfl,⟨_,e,rfl⟩,ZD2 F.slot_list_mul ⟨_,e,rfl⟩ F.entry_list_mul (F.args_list_mul_2 _ _) (AutoListH.list___mul___list_int_3 l its.toArray n k t hfit hcap hlong) ⟨e,?_⟩⟩)
 rw[hnew];exact⟨.ref _,_,I.lnew (t':=s.toks) (r.rep k.toNat) (by rw[len_rep,Nat.mul_comm]; exact hz),rfl,q _ I.fresh⟩
end
end L2
namespace L2
open PySem PySem.Spec PyProof.Rows
variable{a b:Addr}{X:Cx}{h':Heap}{H H':Hp}{pins:List (Addr × Obj)}{xs:List (List Key × Addr × Value)}{kvs:List (List Key × V)}{o:Option V}{pos:Pos}{P:Program}{s:Shared}{σ:St}{y:V}{u:Value}{Q:Value->Shared->Prop}{w:World}
section
variable{κ:Type}[DecidableEq κ]
def ZaZ(kvs:List (κ × V))(k:κ):Option V:=(kvs.find? λkv=>decide (kv.1=k)).map (·.2)
def putK(kvs:List (κ × V))(k:κ)(v:V):List (κ × V) :=
 if(kvs.any λkv=>decide (kv.1=k))=true then kvs.map (λkv=>if kv.1=k then(kv.1,v)else kv)else kvs++[(k,v)]
theorem Zeh{p:κ × V}{r:List (κ × V)}{k:κ}(e:p.1=k):ZaZ (p::r) k=some p.2:=by simp[ZaZ,ZAU,e]
theorem Zee{p:κ × V}{r:List (κ × V)}{k:κ}(e:¬p.1=k):ZaZ (p::r) k=ZaZ r k:=by simp[ZaZ,ZAU,e]
theorem ZiM(k:κ):∀kvs:List (κ × V),(kvs.any λkv=>decide (kv.1=k))=(ZaZ kvs k).isSome
 | []=>rfl
 | p::r=>by
  rw[ZBJ]
  by_cases e:p.1=k
  ·simp only[Zeh e,decide_eq_true e,Bool.true_or,Option.isSome_some]
  ·rw[Zee e,decide_eq_false e,ZEH]; exact ZiM k r
theorem ZhI(kvs:List (κ × V))(k:κ)(v:V):(putK kvs k v).length<=kvs.length+1:=by
 unfold putK;split
 ·rw[ZzP]; omega
 ·rw[ZAb,Zz8,ZEk]; omega
theorem ZfT.isSome_eq{u:Option Value}(r:ZfT o u):o.isSome=u.isSome:=by
 cases o with
 | none=>cases u with
  | none=>rfl
  | some _=>exact(show False from r).elim
 | some _=>cases u with
  | none=>exact(show False from r).elim
  | some _=>rfl
theorem ZfT.getD{o:Option V}{u:Option Value}{d:V}{d':Value}(r:ZfT o u)(rd:RelV d d'):RelV (o.getD d) (u.getD d'):=by
 cases o with
 | none=>cases u with
  | none=>exact rd
  | some _=>exact(show False from r).elim
 | some _=>cases u with
  | none=>exact(show False from r).elim
  | some _=>exact r
theorem KV.val{kvs:List (κ × V)}{vs:List (κ × Value)}(r:KV kvs vs)(k:κ):ZfT (ZaZ kvs k) (valueAt vs k):=by
 unfold KV at r
 induction r with
 | nil=>exact ZC2
 | @cons p q ps qs h t ih =>
  obtain⟨h1,h2⟩:=h
  by_cases e:p.1=k
  ·have e':q.1=k:=h1.symm.trans e
   have b:valueAt (q::qs) k=some q.2:=by simp[valueAt,ZAU,e']
   rw[Zeh e,b]; exact h2
  ·have e':¬q.1=k:=λz=>e (h1.trans z)
   have b:valueAt (q::qs) k=valueAt qs k:=by simp[valueAt,ZAU,e']
   rw[Zee e,b]; exact ih
theorem KV.any{kvs:List (κ × V)}{vs:List (κ × Value)}(r:KV kvs vs)(k:κ):(kvs.any λkv=>decide (kv.1=k))=vs.any λkv=>decide (kv.1=k):=by
 unfold KV at r
 induction r with
 | nil=>rfl
 | cons h t ih=>rw[ZBJ,ZBJ,ih,h.1]
theorem KV.repl{kvs:List (κ × V)}{vs:List (κ × Value)}(r:KV kvs vs)(k:κ)(ry:RelV y u) :
  KV (kvs.map λkv=>if kv.1=k then(kv.1,y)else kv) (vs.map λkv=>if kv.1=k then(kv.1,u)else kv):=by
 unfold KV at r ⊢
 induction r with
 | nil=>exact .nil
 | @cons p q ps qs h t ih =>
  rw[ZzZ,ZzZ];refine .cons ?_ ih;obtain⟨h1,h2⟩:=h
  by_cases e:p.1=k
  ·rw[if_pos e,if_pos (h1.symm.trans e)]; exact⟨h1,ry⟩
  ·rw[if_neg e,if_neg (λz=>e (h1.trans z))]; exact⟨h1,h2⟩
theorem KV.put{kvs:List (κ × V)}{vs:List (κ × Value)}(r:KV kvs vs)(k:κ)(ry:RelV y u):KV (putK kvs k y) (stored vs k u):=by
 unfold putK stored;rw[r.any k]
 by_cases e:(vs.any λkv=>decide (kv.1=k))=true
 ·rw[if_pos e,if_pos e]; exact r.repl k ry
 ·rw[if_neg e,if_neg e]; exact Paired.snoc r ⟨rfl,ry⟩
theorem KV.length{kvs:List (κ × V)}{vs:List (κ × Value)}(r:KV kvs vs):kvs.length=vs.length:=ZCu r
end
theorem Zio{k:Key}(r:RelV (kV k) u):(ZaA P w).is k u=true:=by
 cases k with
 | inl i=>obtain⟨t,e⟩:=(show ∃t,u=ZBM i t from r); subst e; exact ZqN P w i t
 | inr x=>obtain⟨t,e⟩:=(show ∃t,u=Value.str x t from r); subst e; exact ZqW P w x t
theorem ZmY{P:Program}{w:World}:∀{ks:List Key} {us:List Value},Vals (ks.map kV) us->ItemsAre (ZaA P w) ks us
 | [],_,r=>by rw[ZB4]at r; cases r; exact .nil
 | k::ks,_,r=>by
  rw[ZzZ]at r;cases r with
  | cons h t=>exact .cons (Zio h) (ZmY t)
abbrev KT(H:Hp):List (List Key × V)->List (List Key × Addr × Value)->Prop:=Paired λp q=>p.1=q.1/\H q.2.1=some (.tup (p.1.map kV))/\RelV p.2 q.2.2
theorem KT.val(r:KT H kvs xs)(k:List Key):ZfT (ZaZ kvs k) ((atKey xs k).map (·.2)):=by
 induction r with
 | nil=>exact ZC2
 | @cons p q ps qs h t ih =>
  obtain⟨h1,_,h2⟩:=h
  by_cases e:p.1=k
  ·have e':q.1=k:=h1.symm.trans e
   have b:atKey (q::qs) k=some q.2:=by simp[atKey,ZAU,e']
   rw[Zeh e,b]; exact h2
  ·have e':¬q.1=k:=λz=>e (h1.trans z)
   have b:atKey (q::qs) k=atKey qs k:=by simp[atKey,ZAU,e']
   rw[Zee e,b]; exact ih
theorem KT.repl(r:KT H kvs xs)(k:List Key)(ry:RelV y u) :
  KT H (kvs.map λkv=>if kv.1=k then(kv.1,y)else kv) (xs.map (putAt k u)):=by
 induction r with
 | nil=>exact .nil
 | @cons p q ps qs h t ih =>
  rw[ZzZ,ZzZ];refine .cons ?_ ih;obtain⟨h1,h2,h3⟩:=h;unfold putAt
  by_cases e:p.1=k
  ·rw[if_pos e,if_pos (h1.symm.trans e)]; exact⟨h1,h2,ry⟩
  ·rw[if_neg e,if_neg (λz=>e (h1.trans z))]; exact⟨h1,h2,h3⟩
theorem KT.put(r:KT H kvs xs)(k:List Key)(hb:H b=some (.tup (k.map kV)))(ry:RelV y u) :
  KT H (putK kvs k y) (storedH xs k b u):=by
 have e:(kvs.any λkv=>decide (kv.1=k))=(atKey xs k).isSome:=by rw[ZiM,(r.val k).isSome_eq,ZBs]
 unfold putK storedH;rw[e]
 by_cases q:(atKey xs k).isSome=true
 ·rw[if_pos q,if_pos q]; exact r.repl k ry
 ·rw[if_neg q,if_neg q]; exact Paired.snoc r ⟨rfl,hb,ry⟩
theorem KT.keeps(r:KT H kvs xs)(ht:∀b ys,H b=some (.tup ys)->H' b=some (.tup ys)):KT H' kvs xs :=
 Paired.mapP r λ_ _ z=>⟨z.1,ht _ _ z.2.1,z.2.2⟩
section
variable{P:Program}{w:World}{H:Hp}{h:Heap}{a:Addr}
theorem Zlv{u:HO}(ok:HOk P w H h)(e:Rd H a u):Zac P w H h a u:=e.ok ok
theorem Zhd{kvs:List (Key × V)}(ok:HOk P w H h)(e:Rd H a (.dK kvs)):kvs.length<=sizeLine/\(a==ZBx)=false/\∃vs,KV kvs vs/\h.DictOf (ZaA P w) a vs :=
 show Zac P w H h a (.dK kvs) from Zlv ok e
theorem Zst{kvs:List (Key × V)}(ok:HOk P w H h)(e:H a=some (.dK kvs)):kvs.length<=sizeLine/\(a==ZBx)=false/\∃vs,KV kvs vs/\h.DictOf (ZaA P w) a vs:=Zhd ok (.inl e)
theorem ZgV{ks:List Key}(ok:HOk P w H h)(e:H a=some (.tup (ks.map kV))):(ZCT (ZaA P w)).is h ks a:=by obtain⟨_,its,r,o,h1,h2,n,h3⟩:=(show Zac P w H h a (.tup (ks.map kV)) from ok a _ e);exact⟨o,its.toArray,n,h1,h2,h3,by simpa using ZmY r⟩
theorem Zil(ok:HOk P w H h)(e:Rd H a (.dT kvs)):kvs.length<=sizeLine/\(a==ZBx)=false /\
  ∃xs,KT H kvs xs/\h.DictOfH (ZCT (ZaA P w)) a xs:=by
 obtain⟨z,y,xs,r,o,es,ep,h1,h2,h3,h4,h5⟩:=(show Zac P w H h a (.dT kvs) from Zlv ok e);refine⟨z,y,xs,r,o,es,ep,h1,h2,h3,h4,λx hx=>?_,h5⟩;have all:∀{l:List (List Key × V)} {m:List (List Key × Addr × Value)},KT H l m->∀x∈m,(ZCT (ZaA P w)).is h x.1 x.2.1:=by
  intro l m q
  induction q with
  | nil=>intro x hx; exact nomatch hx
  | @cons p q ps qs hq t ih =>
   intro x hx;rcases Zz7.mp hx with e | hx
   ·subst e
    exact ZgV ok (by rw[<-hq.1]; exact hq.2.1)
   ·exact ih x hx
 exact all r x hx
theorem ZvC(ok:HOk P w H h)(e:H a=some (.dT kvs)):kvs.length<=sizeLine/\(a==ZBx)=false /\
  ∃xs,KT H kvs xs/\h.DictOfH (ZCT (ZaA P w)) a xs:=Zil ok (.inl e)
end
def Zch(H:Hp)(a:Addr)(y:V)(r:Option V):Prop :=
 (∃kvs k,Rd H a (.dK kvs)/\y=kV k/\r=ZaZ kvs k)\/∃kvs k b,Rd H a (.dT kvs)/\y=.ref b/\H b=some (.tup (k.map kV))/\r=ZaZ kvs k
def ZiA(H:Hp)(a:Addr)(y v:V)(H':Hp):Prop :=
 (∃kvs k,H a=some (.dK kvs)/\y=kV k/\kvs.length<sizeLine/\H'=upd H a (.dK (putK kvs k v))) \/
 ∃kvs k b,H a=some (.dT kvs)/\y=.ref b/\H b=some (.tup (k.map kV))/\kvs.length<sizeLine/\H'=upd H a (.dT (putK kvs k v))
theorem Zch.k{H:Hp}{a:Addr}{kvs:List (Key × V)}{k:Key}(e:H a=some (.dK kvs)):Zch H a (kV k) (ZaZ kvs k):=.inl ⟨kvs,k,.inl e,rfl,rfl⟩
theorem Zch.t{k:List Key}(e:H a=some (.dT kvs))(eb:H b=some (.tup (k.map kV))):Zch H a (.ref b) (ZaZ kvs k):=.inr ⟨kvs,k,b,.inl e,rfl,eb,rfl⟩
theorem ZiA.k{H:Hp}{a:Addr}{kvs:List (Key × V)}{k:Key}{v:V}(e:H a=some (.dK kvs))(hl:kvs.length<sizeLine):ZiA H a (kV k) v (upd H a (.dK (putK kvs k v))):=.inl ⟨kvs,k,e,rfl,hl,rfl⟩
theorem ZiA.t{k:List Key}{v:V}(e:H a=some (.dT kvs))(eb:H b=some (.tup (k.map kV)))(hl:kvs.length<sizeLine) :
  ZiA H a (.ref b) v (upd H a (.dT (putK kvs k v))):=.inr ⟨kvs,k,b,e,rfl,eb,hl,rfl⟩
section
variable{X:Cx}{pins:List (Addr × Obj)}{σ:St}{H:Hp}{s:Shared}{a:Addr}{y v:V}{u r:Value}{o:Option V}{A:Around}{E:Value->Shared->Prop}
theorem Inv.big(I:Inv X pins σ H s):ZBx<s.heap.objs.size:=by have h:ZAy<s.heap.objs.size:=(I.mod.glob.keeps I.bk).lt;exact ZBQ (by decide) h
theorem ZsU(hu:A.units+1<cLine)(I:Inv X pins σ H s)(g:Zch H a y (some v))(ry:RelV y u)(h:∀w' s',Inv X pins σ H s'->RelV v w'->Q w' s') :
  wpAny (model X.prog X.w) A (getItem (.ref a) u) Q E s:=by
 rcases g with⟨kvs,k,e,ey,l⟩ | ⟨kvs,k,b,e,ey,eb,l⟩
 ·subst ey
  obtain⟨z,hd,vs,rel,dd⟩:=Zhd I.hok e;obtain⟨w',hw,rw'⟩:=ZfT.some_of (v:=v) (o:=valueAt vs k) (by rw[l]; exact rel.val k);exact wpAny_getItem_of (Zio ry) dd.mapOf hw (h w' _ (I.tok _) rw')
 ·subst ey
  cases(show u=ZAL b from ry);obtain⟨z,hd,xs,rel,dd⟩:=Zil I.hok e;obtain⟨w',hw,rw'⟩:=ZfT.some_of (v:=v) (o:=(atKey xs k).map (·.2)) (by rw[l]; exact rel.val k);obtain⟨p,hp,hp2⟩:=ZzR.mp hw;refine wpAny_getItem_heap (ZB5 hu) (ZgV I.hok eb) dd hp ?_;rw[hp2];exact h w' _ (I.tok _) rw'
theorem Zzl(hu:A.units+1<cLine)(I:Inv X pins σ H s)(g:Zch H a y o)(ry:RelV y u)(h:∀s',Inv X pins σ H s'->Q (.bool o.isSome) s') :
  wpAny (model X.prog X.w) A (ZA7 .In u (.ref a)) Q E s:=by
 rcases g with⟨kvs,k,e,ey,l⟩ | ⟨kvs,k,b,e,ey,eb,l⟩
 ·subst ey
  obtain⟨z,hd,vs,rel,dd⟩:=Zhd I.hok e;refine wpAny_in_of (Zio ry) hd dd.mapOf ?_;rw[<-(rel.val k).isSome_eq,<-l];exact h _ (I.tok _)
 ·subst ey
  cases(show u=ZAL b from ry);obtain⟨z,hd,xs,rel,dd⟩:=Zil I.hok e;refine wpAny_in_heap (ZB5 hu) (ZgV I.hok eb) hd dd ?_;have q:=(rel.val k).isSome_eq;rw[ZBs]at q;rw[<-q,<-l];exact h _ (I.tok _)
theorem Zwo(hu:A.units+1<cLine)(I:Inv X pins σ H s)(g:Zch H a y o)(ry:RelV y u)(h:∀s',Inv X pins σ H s'->Q (.bool (!o.isSome)) s') :
  wpAny (model X.prog X.w) A (ZA7 .NotIn u (.ref a)) Q E s:=by
 rcases g with⟨kvs,k,e,ey,l⟩ | ⟨kvs,k,b,e,ey,eb,l⟩
 ·subst ey
  obtain⟨z,hd,vs,rel,dd⟩:=Zhd I.hok e;refine wpAny_notIn_of (Zio ry) hd dd.mapOf ?_;rw[<-(rel.val k).isSome_eq,<-l];exact h _ (I.tok _)
 ·subst ey
  cases(show u=ZAL b from ry);obtain⟨z,hd,xs,rel,dd⟩:=Zil I.hok e;refine wpAny_notIn_heap (ZB5 hu) (ZgV I.hok eb) hd dd ?_;have q:=(rel.val k).isSome_eq;rw[ZBs]at q;rw[<-q,<-l];exact h _ (I.tok _)
theorem Zj8{t':Nat}{ob:HO}(I:Inv X pins σ H s)(mu:Mut (H a))(hs:ZBG a s.heap h')(he:∃q,h'.get? a=some q)(new:Zac X.prog X.w (upd H a ob) h' a ob) :
  Inv X pins σ (upd H a ob) { s with heap:=h',toks:=t' } :=
 I.write (x:=a) (e:=a) mu (.inl rfl) (λb q hb z=>(hs.2 b hb).trans z) he new
theorem ZtW{kvs:List (Key × V)}{vs:List (Key × Value)}(z:kvs.length<=sizeLine)(hd:(a==ZBx)=false)(rel:KV kvs vs)(dd:h'.DictOf (ZaA P w) a vs) :
  Zac P w H' h' a (.dK kvs):=⟨z,hd,vs,rel,dd⟩
theorem ZtM{Q:Unit->Shared->Prop}(hu:A.units+1<cLine)(I:Inv X pins σ H s)(g:ZiA H a y v H')(ry:RelV y u)(rv:RelV v r)(h:∀s',Inv X pins σ H' s'->Q () s') :
  wpAny (model X.prog X.w) A (setItem (.ref a) u r) Q E s:=by
 rcases g with⟨kvs,k,e,ey,l,eH⟩ | ⟨kvs,k,b,e,ey,eb,l,eH⟩
 ·subst ey eH
  obtain⟨z,hd,vs,rel,dd⟩:=Zst I.hok e;have hz:vs.length<=sizeLine:=by rw[<-rel.length]; exact z
  have hl:(putK kvs k v).length<=sizeLine:=by have:=ZhI kvs k v; omega
  refine wpAny_setItem_pairs (hsz:=hz) (Zio ry) dd λh' dd' hs=>h _ ?_;have he:∃q,h'.get? a=some q:=let ⟨q,_,_,hq,_⟩:=dd'; ⟨q,hq⟩
  exact Zj8 I (by rw[e]; exact ZC2) hs he (ZtW hl hd (rel.put k rv) dd')
 ·subst ey eH
  cases(show u=ZAL b from ry);obtain⟨z,hd,xs,rel,dd⟩:=ZvC I.hok e;have hz:xs.length<=sizeLine:=by rw[<-ZCu rel]; exact z
  have hl:(putK kvs k v).length<=sizeLine:=by have:=ZhI kvs k v; omega
  refine wpAny_setItem_heap (hsz:=hz) (ZB5 hu) (ZgV I.hok eb) dd λh' dd' hs=>h _ ?_;obtain⟨q,es,ep,hq,h2,h3,h4,_,h5⟩:=dd';refine Zj8 I (by rw[e]; exact ZC2) hs ⟨q,hq⟩ ⟨hl,hd,_,(rel.put k eb rv).keeps λc ys ec=>?_,q,es,ep,hq,h2,h3,h4,h5⟩;rw[ZB (ZvI ec e (λz=>nomatch z))];exact ec
end
section
variable{X:Cx}{pins:List (Addr × Obj)}{σ:St}{H:Hp}{s:Shared}{a:Addr}{kvs:List (Key × V)}{k:Key}{u:Value}{A:Around}{E:Value->Shared->Prop}
theorem Zyv(I:Inv X pins σ H s)(e:Rd H a (.dK kvs))(h:∀t s',Inv X pins σ H s'->Q (.int kvs.length t) s'):wpAny (model X.prog X.w) A (call (.builtin "len") [.ref a]) Q E s:=by obtain⟨z,hd,vs,rel,dd⟩:=Zhd I.hok e;refine call_len_dict hd dd (by rw[<-rel.length]; rw[ZBn]at z; omega) ?_;rw[<-rel.length];exact h _ _ (I.tok _)
end
def ZpV(i:Expr):Prop:=∀ov iv,ZEs i false ov iv=operate [ov,iv] (getItem ov iv)
theorem ZvO{prog:Program}{A:Around}{E:Value->Shared->Prop}{env:Env}{value slice:Expr}{T id:String}
  (hl:typeLookup (.type T) "__getitem__" = pure (some (.builtin id))) (hs:ZpV slice)
  (h:wpAny (model prog w) A (eval value env) (λo s₁=>wpAny (model prog w) A (eval slice env) (λi s₂=>s₂.TypeIs o T/\wpAny (model prog w) A (getItem o i) Q E s₂) E s₁) E s) :
  wpAny (model prog w) A (eval (.Subscript value slice pos) env) Q E s:=by
 refine Subscript_ (ZBg h (λo s₁ h₁=>ZBg h₁ (λi s₂ h₂=>?_) λ_ _ x=>x) λ_ _ x=>x);obtain⟨hT,h₂⟩:=h₂;unfold subscriptTail;refine ZzQ ?_;rw[getitemInPython_of_ne hT.not_modules];refine ZzQ (wpAny_specialOf hT hl ?_);have fin:wpAny (model prog w) A (ZEs slice false o i) (λr s₃=>wpAny (model prog w) A (letTemporaryGo value o r >>= λ_=>pure r) Q E s₃) E s₂:=by rw[hs o i];exact wpAny_operating (ZBg h₂ (λr s₃ h₃=>ZzQ (wpAny_letTemporaryGo (ZzV h₃))) λ_ _ x=>x)
 first
  | exact ZzV (ZzQ fin)
  | exact ZzQ (ZzV (ZzQ fin))
  | exact ZzQ fin
theorem ZqV(I:Inv X pins σ H s)(g:Zch H a y o):s.TypeIs (.ref a) "dict":=by
 rcases g with⟨kvs,k,e,_,_⟩ | ⟨kvs,k,b,e,_,_,_⟩
 ·obtain⟨_,_,vs,_,dd⟩:=Zhd I.hok e
  exact dd.typeIs
 ·obtain⟨_,_,xs,_,dd⟩:=Zil I.hok e
  exact dd.typeIs
def ZyB(td ty:TE):TE:=λσ H Q=>td σ H λx H1=>ty σ H1 λy H2=>∃a v,x=.ref a/\Zch H2 a y (some v)/\Q v H2
def ZzD(ty td:TE):TE:=λσ H Q=>ty σ H λy H1=>td σ H1 λx H2=>∃a o,x=.ref a/\Zch H2 a y o/\Q (.bl o.isSome) H2
def Zv4(ty td:TE):TE:=λσ H Q=>ty σ H λy H1=>td σ H1 λx H2=>∃a o,x=.ref a/\Zch H2 a y o/\Q (.bl (!o.isSome)) H2
def ZyD(td ty tv:TE):TS:=λD σ H=>tv σ H λv H1=>td σ H1 λx H2=>ty σ H2 λy H3=>∃a H4,x=.ref a/\ZiA H3 a y v H4/\D.nx σ H4
section
variable{X:Cx}{o i e value:Expr}{pos pos' tpos:Pos}{td ty tv:TE}
theorem Zma(hu:X.A.units+1<cLine)(ho:PE X o td)(hi:PE X i ty)(hs:ZpV i):PE X (.Subscript o i pos) (ZyB td ty):=by intro pins s σ H Q I h;refine ZvO PySem.F.slot_dict_getitem.lookup hs (thn (ho pins s σ H _ I h) λu s1 ⟨x,H1,I1,rx,q1⟩=>thn (hi pins s1 σ H1 _ I1 q1) λiv s2 ⟨y,H2,I2,ry,a,v,ex,g,q2⟩=>?_);subst ex;obtain rfl:u=ZAL a:=rx;exact⟨ZqV I2 g,ZsU hu I2 g ry λw' s3 I3 rw'=>⟨v,H2,I3,rw',q2⟩⟩
theorem Zxa(hu:X.A.units+1<cLine)(hi:PE X i ty)(ho:PE X o td):PC X .In i o (ZzD ty td):=by intro pins s σ H Q I h;refine thn (hi pins s σ H _ I h) λiv s1 ⟨y,H1,I1,ry,q1⟩=>thn (ho pins s1 σ H1 _ I1 q1) λu s2 ⟨x,H2,I2,rx,a,ov,ex,g,q2⟩=>?_;subst ex;obtain rfl:u=ZAL a:=rx;exact Zzl hu I2 g ry λs3 I3=>⟨.bl ov.isSome,H2,I3,rfl,q2⟩
theorem Zm3(hu:X.A.units+1<cLine)(hi:PE X i ty)(ho:PE X o td):PC X .NotIn i o (Zv4 ty td):=by intro pins s σ H Q I h;refine thn (hi pins s σ H _ I h) λiv s1 ⟨y,H1,I1,ry,q1⟩=>thn (ho pins s1 σ H1 _ I1 q1) λu s2 ⟨x,H2,I2,rx,a,ov,ex,g,q2⟩=>?_;subst ex;obtain rfl:u=ZAL a:=rx;exact Zwo hu I2 g ry λs3 I3=>⟨.bl (!ov.isSome),H2,I3,rfl,q2⟩
theorem Zmb(hu:X.A.units+1<cLine)(ho:PE X o td)(hi:PE X i ty)(hv:PE X value tv)(hs:ZBT value (some (.Subscript o i pos')) pos.line X.env=pure false) :
  PS X (.Assign [.Subscript o i pos'] value pos) (ZyD td ty tv):=by
 intro pins s σ H D I h;refine wpAny_Assign_Subscript (thn (hv pins s σ H _ I h) λr s1 ⟨v,H1,I1,rv,q1⟩=>thn (ho pins s1 σ H1 _ I1 q1) λu s2 ⟨x,H2,I2,rx,q2⟩=>thn (hi pins s2 σ H2 _ I2 q2) λiv s3 ⟨y,H3,I3,ry,a,H4,ex,g,q3⟩=>?_) hs;subst ex;obtain rfl:u=ZAL a:=rx;exact ZtM hu I3 g ry rv λs4 I4=>⟨σ,H4,I4,q3⟩
end
theorem ZpP(h:Heap)(hb:ZBx<h.objs.size):Zac P w H (h.push { cls:=.type "dict",data:=.dict #[] }) h.objs.size (.dK []) :=
 ⟨ZBq _,beq_eq_false_iff_ne.mpr (ZA0 (ZAf hb)),[],.nil,Heap.DictOf.new h⟩
theorem Zvw(h:Heap)(hb:ZBx<h.objs.size):Zac P w H (h.push { cls:=.type "dict",data:=.dict #[] }) h.objs.size (.dT []) :=
 ⟨ZBq _,beq_eq_false_iff_ne.mpr (ZA0 (ZAf hb)),[],.nil,_,#[],0,ZAa _ rfl,⟨rfl,rfl,rfl⟩,rfl,rfl,ZBB⟩
def Zyf:TE:=λ_ H Q=>∀p,H p=none->Q (.ref p) (upd H p (.dK []))
def Zyd:TE:=λ_ H Q=>∀p,H p=none->Q (.ref p) (upd H p (.dT []))
section
variable{X:Cx}{pos:Pos}
theorem ZuE:PE X (.Dict [] [] pos) Zyf:=λpins s σ H Q I h=>wpAny_Dict_empty ⟨.ref s.heap.objs.size,_,I.laid (a:=s.heap.objs.size) (o:=.dK []) (t':=s.toks) (λ_ _ q=>ZzW _ q) (Zz3 _) (ZpP s.heap I.big),rfl,h _ (I.hok.fresh (Zz3 _))⟩
theorem ZpR:PE X (.Dict [] [] pos) Zyd:=λpins s σ H Q I h=>wpAny_Dict_empty ⟨.ref s.heap.objs.size,_,I.laid (a:=s.heap.objs.size) (o:=.dT []) (t':=s.toks) (λ_ _ q=>ZzW _ q) (Zz3 _) (Zvw s.heap I.big),rfl,h _ (I.hok.fresh (Zz3 _))⟩
end
def Zqd:List (TE × TE)->St->Hp->(List (V × V)->Hp->Prop)->Prop
 | [],_,H,Q=>Q [] H
 | (tk,tv)::r,σ,H,Q=>tk σ H λx H1=>tv σ H1 λy H2=>Zqd r σ H2 λps H3=>Q ((x,y)::ps) H3
abbrev VV:List (V × V)->List (Value × Value)->Prop:=Paired λp q=>RelV p.1 q.1/\RelV p.2 q.2
def PPs(X:Cx)(pos:Pos)(keys:List (Option Expr))(values:List Expr)(trs:List (TE × TE)):Prop :=
 ∀(pins:List (Addr × Obj)) (s:Shared) (σ:St) (H:Hp) (Q:List (V × V)->Hp->Prop),Inv X pins σ H s->Zqd trs σ H Q ->
  wpAny (model X.prog X.w) X.A (evalPairs (pairTrees keys values X.env pos)) (λvs s'=>∃ps H',Inv X pins σ H' s'/\VV ps vs/\Q ps H') X.xe s
theorem ZvW:PPs X pos [] [] []:=λpins s σ H Q I h=>pairTrees_nil_walk ⟨[],H,I,.nil,h⟩
theorem Zvn{k v:Expr}{ks:List (Option Expr)}{vs:List Expr}{tk tv:TE}{trs:List (TE × TE)}(hk:PE X k tk)(hv:PE X v tv)(hr:PPs X pos ks vs trs) :
  PPs X pos (some k::ks) (v::vs) ((tk,tv)::trs):=λpins s σ H Q I h =>
 pairTrees_cons_walk (thn (hk pins s σ H _ I h) λu s1 ⟨x,H1,I1,rx,q1⟩=>thn (hv pins s1 σ H1 _ I1 q1) λw2 s2 ⟨y,H2,I2,ry,q2⟩=>thn (hr pins s2 σ H2 _ I2 q2) λws s3 ⟨ps,H3,I3,rel,q3⟩=>⟨(x,y)::ps,H3,I3,.cons ⟨rx,ry⟩ rel,q3⟩)
def Zh2(kvs more:List (Key × V)):List (Key × V):=more.foldl (λacc kv=>putK acc kv.1 kv.2) kvs
theorem KV.merge:∀{more:List (Key × V)} {rs:List (Key × Value)} {kvs:List (Key × V)} {vs:List (Key × Value)},KV more rs->KV kvs vs->KV (Zh2 kvs more) (merged vs rs):=by
 intro more rs kvs vs r;unfold KV at r
 induction r generalizing kvs vs with
 | nil=>intro q; exact q
 | @cons p q ps qs h t ih =>
  intro r0;have e:KV (putK kvs p.1 p.2) (stored vs q.1 q.2):=by have:=r0.put p.1 h.2;rw[<-h.1]; exact this
  exact ih e
theorem ZiW:∀(more kvs:List (Key × V)),(Zh2 kvs more).length<=kvs.length+more.length
 | [],kvs=>by show kvs.length<=kvs.length+0; omega
 | p::r,kvs=>by have h1:=ZiW r (putK kvs p.1 p.2);have h2:=ZhI kvs p.1 p.2;show(Zh2 (putK kvs p.1 p.2) r).length<=_;rw[Zz8]; omega
theorem Zl0{P:Program}{w:World}:∀{kvs:List (Key × V)} {ws:List (Value × Value)},VV (kvs.map λkv=>(kV kv.1,kv.2)) ws->∃rs,Carries (ZaA P w) ws rs/\KV kvs rs
 | [],_,r=>by rw[ZB4]at r; cases r; exact⟨[],ZC2,.nil⟩
 | p::kvs,_,r=>by
  rw[ZzZ]at r;cases r with
  | @cons a b as bs h t=>obtain⟨rs,c,q⟩:=Zl0 (P:=P) (w:=w) t;obtain⟨b1,b2⟩:=b;exact⟨(p.1,b2)::rs,⟨Zio h.1,rfl,c⟩,.cons ⟨rfl,h.2⟩ q⟩
def ZyQ(trs:List (TE × TE)):TE:=λσ H Q=>∀p,H p=none->Zqd trs σ (upd H p (.dK [])) λps H2=>H2 p=some (.dK [])/\∃kvs:List (Key × V),ps=kvs.map (λkv=>(kV kv.1,kv.2))/\kvs.length<=15/\Q (.ref p) (upd H2 p (.dK (Zh2 [] kvs)))
theorem ZwE{keys:List (Option Expr)}{values:List Expr}{trs:List (TE × TE)}(h:PPs X pos keys values trs)(hall:keys.all (·.isSome)=true)(hl:keys.length=values.length)(h0:keys≠[])
  (h15:keys.length<=15):PE X (.Dict keys values pos) (ZyQ trs):=by
 intro pins s σ H Q I q;have hn:=I.hok.fresh (Zz3 s.heap.objs.size);have I1:=I.laid (a:=s.heap.objs.size) (o:=.dK []) (h':=s.heap.push { cls:=.type "dict",data:=.dict #[] }) (t':=s.toks) (λ_ _ q=>ZzW _ q) (Zz3 _) (ZpP s.heap I.big);refine wpAny_Dict_walk (knd:=ZaA X.prog X.w) hall hl h0 h15 (thn (h pins _ σ _ _ I1 (q _ hn)) λws s2 ⟨ps,H2,I2,rel,e,kvs,ep,lk,q2⟩=>?_);subst ep;obtain⟨rs,c,rk⟩:=Zl0 (P:=X.prog) (w:=X.w) rel;obtain⟨z,hd,vs0,r0,dd⟩:=Zst I2.hok e;cases r0;refine⟨rs,c,dd,λh' dd' hs=>⟨.ref s.heap.objs.size,_,?_,rfl,q2⟩⟩;have hz:(Zh2 [] kvs).length<=sizeLine:=by have h1:=ZiW kvs [];rw[ZEk]at h1;rw[ZBn]; omega
 have he:∃q,h'.get? s.heap.objs.size=some q:=let ⟨q,_,_,hq,_⟩:=dd'; ⟨q,hq⟩
 exact Zj8 I2 (by rw[e]; exact ZC2) hs he (ZtW hz hd (rk.merge .nil) dd')
structure M1(X:Cx)(o:Expr)(m:Str)(apos:Pos)(e:Expr)(cpos:Pos):Prop where
 base:ZBU o m X.env (eval o X.env)=eval o X.env
 few:((backTo cpos (Zz6 [e] X.env)).all (λx=>!x.1)&&(ZDC cpos (ZCN [] X.env)).all (λx=>x.1.isSome)
  && decide (([e]:List Expr).length+([]:List Keyword).length+(if([]:List Keyword).isEmpty then 0 else 1)<30))=true
 line:(apos.endLine==cpos.line)=true
 trees:backTo cpos (Zz6 [e] X.env)=[(false,eval e X.env)]
structure M2(X:Cx)(o:Expr)(m:Str)(apos:Pos)(e f:Expr)(cpos:Pos):Prop where
 base:ZBU o m X.env (eval o X.env)=eval o X.env
 few:((backTo cpos (Zz6 [e,f] X.env)).all (λx=>!x.1)&&(ZDC cpos (ZCN [] X.env)).all (λx=>x.1.isSome)
  && decide (([e,f]:List Expr).length+([]:List Keyword).length+(if([]:List Keyword).isEmpty then 0 else 1)<30))=true
 line:(apos.endLine==cpos.line)=true
 trees:backTo cpos (Zz6 [e,f] X.env)=[(false,eval e X.env),(false,eval f X.env)]
def IsD(H:Hp)(a:Addr):Prop:=(∃kvs,Rd H a (.dK kvs))\/∃kvs,Rd H a (.dT kvs)
theorem ZsY(I:Inv X pins σ H s)(d:IsD H a) :
  s.TypeIs (.ref a) "dict"/\(∀b,ZAL a=.ref b->∃ob,s.heap.get? b=some ob/\ob.dict=none)/\(a==ZBx)=false:=by
 rcases d with⟨kvs,e⟩ | ⟨kvs,e⟩
 ·obtain⟨_,hd,vs,_,dd⟩:=Zhd I.hok e
  refine⟨dd.typeIs,λb q=>?_,hd⟩;cases q;obtain⟨ob,_,_,h1,h2,_⟩:=dd;exact⟨ob,h1,h2.2.1⟩
 ·obtain⟨_,hd,xs,_,dd⟩:=Zil I.hok e
  refine⟨dd.typeIs,λb q=>?_,hd⟩;cases q;obtain⟨ob,_,_,h1,h2,_⟩:=dd;exact⟨ob,h1,h2.2.1⟩
section
variable{X:Cx}{pins:List (Addr × Obj)}{σ:St}{H:Hp}{s:Shared}{a:Addr}{y d:V}{u r:Value}{o:Option V}{A:Around}{E:Value->Shared->Prop}
theorem Zyo(hu:A.units+1<cLine)(I:Inv X pins σ H s)(g:Zch H a y o)(ry:RelV y u)(h:∀w' s',Inv X pins σ H s'->RelV (o.getD .non) w'->Q w' s') :
  wpAny (model X.prog X.w) A (call (.builtin "dict.get") [.ref a,u]) Q E s:=by
 rcases g with⟨kvs,k,e,ey,l⟩ | ⟨kvs,k,b,e,ey,eb,l⟩
 ·subst ey
  obtain⟨z,hd,vs,rel,dd⟩:=Zhd I.hok e;refine call_meetsIn ZDn dd.typeIs ZEt (ZEf _ _) (meets_dict_get (ZaA X.prog X.w) a (Zio ry) hd) ⟨_,dd.mapOf,h _ _ (I.tok _) ?_⟩;rw[l];exact(rel.val k).getD rfl
 ·subst ey
  cases(show u=ZAL b from ry);obtain⟨z,hd,xs,rel,dd⟩:=Zil I.hok e;refine call_meetsIn ZDn dd.typeIs ZEt (ZEf _ _) (meetsH_dict_get (ZCT (ZaA X.prog X.w)) a b hd) ⟨ZB5 hu,k,xs,ZgV I.hok eb,dd,h _ _ (I.tok _) ?_⟩;rw[l];exact(rel.val k).getD rfl
end
def ZxY(td ty:TE):TE:=λσ H Q=>td σ H λx H1=>∃a,x=.ref a/\IsD H1 a/\ty σ H1 λy H2=>∃o,Zch H2 a y o/\Q (o.getD .non) H2
section
variable{X:Cx}{o e f:Expr}{apos cpos:Pos}{td ty tx:TE}
theorem Zum(hu:X.A.units+1<cLine)(ho:PE X o td)(he:PE X e ty)(m:M1 X o "get" apos e cpos):PE X (.Call (.Attribute o "get" apos) [e] [] cpos) (ZxY td ty):=by intro pins s σ H Q I h;refine wpAny_Call_method m.base m.few m.line ZEg ZDn PySem.F.type_dict_get (thn (ho pins s σ H _ I h) λu s1 ⟨x,H1,I1,rx,a,ex,d,q1⟩=>?_);subst ex;obtain rfl:u=ZAL a:=rx;obtain⟨t1,t2,_⟩:=ZsY I1 d;refine⟨t1,t2,?_⟩;rw[m.trees];refine ZCw rfl (ZDr (ZCW (thn (he pins s1 σ H1 _ I1 q1) λiv s2 ⟨y,H2,I2,ry,ov,g,q2⟩=>ZDV ?_)));exact Zyo hu I2 g ry λw' s3 I3 rw'=>⟨_,H2,I3,rw',q2⟩
end
end L2
namespace Att
open PySem PySem.W PySem.Calls PyProof.Rows
variable{h:Heap}{n:Nat}
theorem ZlY{P:Params}:∀(ns:List Int) (vs:List Value),WellAll P h vs (ns.map WData.int)->IntsAre vs ns:=by
 intro ns
 induction ns with
 | nil=>intro vs w;rw[ZB4]at w;cases w;exact .nil
 | cons n ns ih =>
  intro vs w;rw[ZzZ]at w;cases w with
  | cons a b=>cases a;exact .cons _ _ (ih _ b)
theorem Zs1{l:OpenLaw}(hn:l.most=some n){P:Params}{args:List WData}{vals:List Value}
  (hpre:l.row.toRowW.claim.pre args=true) (hwl:WellAll P h vals args) :
  ∃a vs ns,vals=[ZAL a]/\args=[WData.list (ns.map WData.int)]/\h.get? a=some { cls:=.type "list",data:=.seq vs.toArray }/\IntsAre vs ns/\ns.length<=n:=by
 have hsh:WShape.hasAll [] args [.list .int]=true:=(pre_splitW hpre).1;have hc:l.pre.holds [] { args:=args }=true:=(pre_splitW hpre).2;obtain⟨d,r,rfl,h1,h2⟩:=hasAllW_cons hsh;obtain rfl:=hasAllW_nil h2;obtain⟨xs,rfl,h3⟩:=hasW_list h1;obtain⟨ns,rfl⟩:=items_int h3;have hlen:ns.length<=n:=by
  unfold OpenLaw.pre at hc;have h4:(WTm.not (.lt (.lit (.int (n:Int))) (.len (.arg 0)))).holds [] { args:=[.list (ns.map .int)] }=true:=by have h4:=(holds_andW hc).1;rw[hn]at h4;exact h4
  have h5:=condW_of h4 (w_not (w_lt w_lit (w_len_list (w_arg rfl))));rw[ZzP]at h5;refine ZCk λq=>?_;have q':(n:Int)<((ns.length:Nat):Int):=by omega
  first
   | (rw[decide_eq_true q']at h5; exact absurd h5 (by decide))
   | (simp at h5; omega)
 cases hwl with
 | cons w1 w2 =>
  cases w2;cases w1 with
  | list ho hall=>exact⟨_,_,ns,rfl,rfl,ho,ZlY ns _ hall,hlen⟩
theorem ZtN(l:OpenLaw)(args:List WData):l.row.toRowW.claim.post args (.bool true) args=true :=
 postW_of (r:=l.row.toRowW) (X:=(true==true))
  (show WShape.has [] (.bool true) .bool=true by first | rfl | decide | simp[WShape.has,WShape.arms,WShape.armsAll])
  (show(WTm.eq .res (.lit (.bool true))).value [] { args:=args,res:=some (.bool true),after:=args }=some (.bool (true==true)) from w_eq_bool (w_res rfl) w_lit) rfl
theorem ZqS{l:OpenLaw}{q:Program}{loose:List Str}{XP:(Str->Option Value)->Heap->Prop}{YP:World->Heap->Prop}{d:DefRec}
  (hn:l.most=some n) (hdf:d.params.defaults=[])
  (call:∀(w:World) (s₀ s₁:Shared) (mg mb:Str->Option Value) (fa:Addr) (o:Obj) (pm cd doc:Value) (a:Addr) (vs:List Value) (ns:List Int),
   Ground q loose [] XP w s₀ mg mb s₁.heap->YP w s₁.heap ->
   s₁.heap.get? fa=some o->o.data=.func (docDef d.name d.params d.body d.scope pm cd doc)->s₁.heap.CodeRec cd d.name->mg d.name=some (.ref fa) ->
   s₁.heap.get? a=some { cls:=.type "list",data:=.seq vs.toArray }->IntsAre vs ns->ns.length<=n->s₁.gens=#[] ->
   codeAny (model l.prog w) callerA (.call (.ref fa) ⟨[.ref a],[]⟩) (λr s'=>r=.ok (.ret (.bool true))/\OldK s₁.heap s'.heap/\s'.os=s₁.os/\AllBare s'.gens) s₁) :
  WalkO q loose XP YP l.row.toRowW d [] (λf vs=>PySem.call f vs):=by
 intro w s₀ s₁ mg mb G Y fa o pm cd doc dV kV ho hd hcd hD hmg hg args vals as hpre hlay hrd hwl hlo;obtain rfl:dV=.none:=Dflts.none hD hdf;obtain rfl:kV=.none:=Dflts.noKw hD;obtain⟨a,vs,ns,rfl,rfl,hobj,hints,hlen⟩:=Zs1 hn hpre hwl;refine enter_call (ZB2 (call w s₀ s₁ mg mb fa o pm cd doc a vs ns G Y ho (fd_plain hd) hcd hmg hobj hints hlen hg) λr s' hq=>?_);obtain⟨rfl,h2,h3,h4⟩:=hq;exact⟨.inl ⟨.bool true,.bool true,[],rfl,λ_=>rfl,.bool true,ZtN l _,λ_=>⟨List.Pairwise.nil,λ_ hm=>(nomatch hm)⟩⟩,h2,h3,h4⟩
end Att
namespace L2
open PySem PySem.Spec PyProof.Rows
theorem Zm4:∀{vs:List Value} {ns:List Int},IntsAre vs ns->Vals (ns.map V.int) vs
 | _,_,.nil=>.nil
 | _,_,.cons n t h=>.cons ⟨t,rfl⟩ (Zm4 h)
end L2
namespace L2
open PySem PySem.Spec PyProof.Rows
end L2
namespace L2
open PySem PySem.Spec PyProof.Rows
variable{f:Addr}{H H':Hp}{A:Prop}{st:Stmt}{qual x:Str}
def Zcl(s:Stmt):Arguments:=match s with
 | .FunctionDef _ a _ _ _ _ _ _ _ _=>a
 | _=>{ posonlyargs:=[],args:=[],vararg:=none,kwonlyargs:=[],kw_defaults:=[],kwarg:=none,defaults:=[] }
def Za7(s:Stmt):List Stmt:=match s with
 | .FunctionDef _ _ b _ _ _ _ _ _ _=>b
 | _=>[]
def Ze(s:Stmt):Scope:=match s with
 | .FunctionDef _ _ _ _ _ _ sc _ _ _=>sc
 | _=>{ kind:=.function,names:=[],isGenerator:=false,isCoroutine:=false }
abbrev CX0:CXT:=λ_ _ _ _ _ _=>False
abbrev E0:XK:=λ_ _ _=>False
theorem Zr0{X:Cx}:Passes CX0 X E0:=λ_ _ _ _ _ _ _ h=>h.elim
structure Fun(K:ZzS)(x qual:Str)(st:Stmt)(f:Addr)(fd:FuncData):Prop where
 ex:∃(oc:Value) (od:Option Addr) (kV doc pm:Value) (an:Option Addr) (cdv ct:Value) (osl:Array (Option Value)),
  fd=ZBi x qual (Zcl st) (Za7 st) (Ze st) .none kV doc pm an cdv ct/\K.lookup f=some ⟨oc,od,.func fd,osl⟩/\ZBY K cdv qual=true
 kp:ZBo K (.ref f)=true
section
variable{P:Program}{w:World}{K:ZzS}{mg:Str->Option Value}{base:Heap}
theorem Fun.ok{x qual:Str}{st:Stmt}{f:Addr}{fd:FuncData}{N ps:List Str}{k:Nat}{sp:Sp}(F:Fun K x qual st f fd)(S:Zs N ps (Ze st))(len:∀vs H Q E,sp vs H Q E->vs.length=ps.length)
  (hbody:∀(cdv:Value) (A:Around) (outer:List Env) (s:Shared) (H:Hp) (vs:List V) (Q:VK) (E:XK),Zav k (A.deeper (envOfC qual (Ze st) s.heap.objs.size f cdv))->sp vs H Q E ->
   ∃t,PSs (ZgF CX0 P w K mg base N qual (Ze st) f cdv A outer s H E).nox (Za7 st) t/\t { nx:=λ_ H'=>Q .non H',rt:=Q } (start N vs) H):ZdG P w K mg base CX0 (k+1) f fd ps sp:=by
 obtain⟨oc,od,kV,doc,pm,an,cdv,ct,osl,rfl,lk,hcd⟩:=F.ex;refine Zvy lk hcd S len λA outer s H vs Q E hr hsp=>?_;obtain⟨t,h,q⟩:=hbody cdv A outer s H vs Q E hr hsp;exact⟨t,h.nox,q⟩
theorem Fun.binds{fd:FuncData}{ps:List Str}(F:Fun K x qual st f fd)
  (h:∀(kV doc pm:Value) (an:Option Addr) (cdv ct:Value) (us:List Value),us.length=ps.length->bindArgs (ZBi x qual (Zcl st) (Za7 st) (Ze st) .none kV doc pm an cdv ct) ⟨us,[]⟩=pure (ps.zip us)):Binds K fd ps []:=by
 obtain⟨oc,od,kV,doc,pm,an,cdv,ct,osl,rfl,lk,hcd⟩:=F.ex;exact .all (h kV doc pm an cdv ct)
theorem ZoZ{oc:Value}{od an:Option Addr}{osl:Array (Option Value)}{kV doc pm cdv ct:Value}(l:K.lookup f=some ⟨oc,od,.func (ZBi x qual (Zcl st) (Za7 st) (Ze st) .none kV doc pm an cdv ct),osl⟩)
  (c:ZBY K cdv qual=true) (k:ZBo K (.ref f)=true):Fun K x qual st f (ZBi x qual (Zcl st) (Za7 st) (Ze st) .none kV doc pm an cdv ct):=⟨⟨oc,od,kV,doc,pm,an,cdv,ct,osl,rfl,l,c⟩,k⟩
end
theorem ZH{A:Around}{k:Nat}(hr:Zav k A):A.units+1<cLine:=Nat.lt_of_le_of_lt (Nat.add_le_add_left (by decide:1<=64) _) hr.units
theorem ZoJ{B:Prop}(h:B):if false=true then A else B:=by rw[if_neg ZAC];exact h
theorem ZpG{B:Prop}(h:A):if true=true then A else B:=by rw[if_pos rfl];exact h
def Zq(H H':Hp):Prop:=∀b o,H b=some o->H' b=some o
theorem Zq.refl(H:Hp):Zq H H:=λ_ _ h=>h
theorem Zq.trans{H1 H2:Hp}(a:Zq H H1)(b:Zq H1 H2):Zq H H2:=λc o h=>b c o (a c o h)
theorem Zq.free(e:Zq H H'){l:Addr}(h:H' l=Option.none):H l=Option.none:=by
 cases q:H l with
 | none=>rfl
 | some o=>rw[e l o q]at h;cases h
theorem Zq.seq{K:ZzS}{a:Addr}{xs:List V}(e:Zq H H')(h:SqL K H a xs):SqL K H' a xs:=by
 rcases h with(h | ⟨o,h⟩) | h
 ·exact .inl (.inl (e _ _ h))
 ·exact .inl (.inr ⟨o,e _ _ h⟩)
 ·exact .inr h
end L2
namespace L2
open PySem PySem.Spec PyProof.Rows
section
variable{X:Cx}
theorem ZsN:Zbh X (.builtin "len") (λxs H Q=>∃a kvs,xs=[V.ref a]/\H a=some (.dK kvs)/\Q (.int kvs.length) H):=by intro pins s σ H xs us Q I r h;obtain⟨a,kvs,rfl,ha,q⟩:=h;obtain⟨u,rfl,ru⟩:=vals1 r;cases ru;exact Zyv I (.inl ha) λt s' I'=>⟨.int kvs.length,H,I',⟨t,rfl⟩,q⟩
end
end L2
namespace HM
open PySem
abbrev D:=PyData
abbrev Ky:=Sum Int Str
inductive B where
 | pl (d:D)
 | ol (ds:List D)
 | ok (kvs:List (Ky × D))
 | ot (kvs:List (List Ky × D))
 | otl (kvs:List (List Ky × List D))
 | hd (es:List (D × D))
abbrev Env:=List (Option B)
inductive Out where
 | nx (r:Env)
 | rt (d:D)
 | bk (r:Env)
 | ct (r:Env)
abbrev EF:=Env->Option D
abbrev BF:=Env->Option B
abbrev TF:=Env->Option Bool
abbrev IF:=Env->Option (List D)
abbrev AF:=Env->Option (List D)
abbrev SF:=Env->Option Out
@[simp] def big:Nat:=1000000
@[simp] def Za(i:Nat):EF:=λr=>match r[i]? with
 | some (some (.pl d))=>some d
 | _=>none
@[simp] def Zo(i:Nat):BF:=λr=>match r[i]? with
 | some (some b)=>some b
 | _=>none
@[simp] def bOf(f:EF):BF:=λr=>(f r).map B.pl
def ZaU:Ky->D
 | .inl i=>.int i
 | .inr x=>.str x
def Zn(kvs:List (List Ky × D)):List (D × D):=kvs.map λp=>(.tuple (p.1.map ZaU),p.2)
@[simp] def frz:B->Option D
 | .pl d=>some d
 | .ol ds=>some (.list ds)
 | .ot kvs=>some (.dict (Zn kvs))
 | .hd es=>some (.dict es)
 | _=>none
@[simp] def eOf(f:BF):EF:=λr=>(f r).bind frz
@[simp] def eC(d:D):EF:=λ_=>some d
@[simp] def op2(g:D->D->Option D)(a b:EF):EF:=λr=>match a r with
 | some x=>match b r with
  | some y=>g x y
  | none=>none
 | none=>none
@[simp] def ZfW(g:Int->Int->Option D):D->D->Option D
 | .int i,.int j=>g i j
 | _,_=>none
def Z3(i:Int):Bool:=Nat.blt i.natAbs 18446744073709551616
@[simp] def ZaE(x y:D):Option D:=ZfW (λi j=>some (.int (i+j))) x y
@[simp] def ZmE(x y:D):Option D:=ZfW (λi j=>some (.int (i-j))) x y
@[simp] def Zcv(x y:D):Option D:=ZfW (λi j=>if Z3 i||Z3 j then some (.int (i*j))else none) x y
@[simp] def Zuz(x y:D):Option D:=ZfW (λi j=>if 0<j then some (.int (i % j))else none) x y
@[simp] def gLt(x y:D):Option D:=ZfW (λi j=>some (.bool (decide (i<j)))) x y
@[simp] def gLe(x y:D):Option D:=ZfW (λi j=>some (.bool (decide (i<=j)))) x y
@[simp] def gGt(x y:D):Option D:=ZfW (λi j=>some (.bool (decide (j<i)))) x y
def Zao(d:D):Bool:=d.canLay0&&decide (d.depth<=60)
@[simp] def gEq(a b:D):Option D:=if Zao a&&Zao b then some (.bool (ZA1 a b))else none
@[simp] def gNe(a b:D):Option D:=if Zao a&&Zao b then some (.bool (!PyData.eqv a b))else none
@[simp] def Zfd(a b:D):Option D:=match b with
 | .none=>match a with
  | .none=>some (.bool true)
  | _=>some (.bool false)
 | _=>none
@[simp] def Zhh(a b:D):Option D:=match b with
 | .none=>match a with
  | .none=>some (.bool false)
  | _=>some (.bool true)
 | _=>none
@[simp] def ZlT(g g':D->D->Option D)(a b c:EF):EF:=λr=>match a r with
 | some x=>match b r with
  | some y=>match g x y with
   | some (.bool true)=>match c r with
    | some z=>g' y z
    | none=>none
   | some (.bool false)=>some (.bool false)
   | _=>none
  | none=>none
 | none=>none
@[simp] def Zup(a:EF):EF:=λr=>match a r with
 | some (.bool b)=>some (.bool (!b))
 | _=>none
@[simp] def ZeT(a b:EF):EF:=λr=>match a r with
 | some (.bool true)=>b r
 | some (.bool false)=>some (.bool false)
 | _=>none
@[simp] def tV(a:EF):TF:=λr=>match a r with
 | some (.bool b)=>some b
 | _=>none
@[simp] def Zej(a:TF):TF:=λr=>(a r).map (!·)
@[simp] def tOr(a b:TF):TF:=λr=>match a r with
 | some true=>some true
 | some false=>b r
 | none=>none
@[simp] def eIf(c:TF)(a b:EF):EF:=λr=>match c r with
 | some true=>a r
 | some false=>b r
 | none=>none
@[simp] def ZcP:B->Option (List D)
 | .pl (.tuple ds)=>some ds
 | .pl (.list ds)=>some ds
 | .ol ds=>some ds
 | _=>none
def ixN(n:Nat)(i:Int):Option Nat :=
 if 0<=i then(if i<n then some i.toNat else none)else(if -(n:Int)<=i then some (i+n).toNat else none)
def atD(ds:List D)(i:Int):Option D:=match ixN ds.length i with
 | some j=>ds[j]?
 | none=>none
@[simp] def eIx(a:BF)(b:EF):EF:=λr=>match a r with
 | some x=>match ZcP x with
  | some ds=>match b r with
   | some (.int i)=>atD ds i
   | _=>none
  | none=>none
 | none=>none
@[simp] def Zzx:B->Option Nat
 | .pl (.tuple ds)=>some ds.length
 | .pl (.list ds)=>some ds.length
 | .ol ds=>some ds.length
 | .ok kvs=>some kvs.length
 | _=>none
@[simp] def Zaf(a:BF):EF:=λr=>match a r with
 | some x=>(Zzx x).map λ(n:Nat)=>ZAx (n:Int)
 | none=>none
@[simp] def Zan(a:BF):EF:=λr=>match a r with
 | some x=>(ZcP x).map λds=>.tuple ds
 | none=>none
@[simp] def ZhU(a:BF):BF:=λr=>match a r with
 | some x=>(ZcP x).map λds=>.ol ds
 | none=>none
def ZeU:List D->Option (List Bool)
 | []=>some []
 | .bool b::r=>(ZeU r).map (b::·)
 | _::_=>none
@[simp] def ZjU:B->Option (List D)
 | .pl (.list ds)=>some ds
 | .ol ds=>some ds
 | _=>none
@[simp] def ZiG(a:BF):EF:=λr=>match a r with
 | some x=>match ZjU x with
  | some ds=>(ZeU ds).map λbs=>.bool (bs.all id)
  | none=>none
 | none=>none
@[simp] def Zi:AF:=λ_=>some []
@[simp] def Zc(a:EF)(b:AF):AF:=λr=>match a r with
 | some x=>(b r).map (x::·)
 | none=>none
@[simp] def Za9(a:AF):EF:=λr=>(a r).map λds=>.tuple ds
@[simp] def Zdj(a:AF):BF:=λr=>(a r).map λds=>.ol ds
inductive Ty where
 | bool | int | str | tuple | list | dict
@[simp] def Zjy:Ty->D->Bool
 | .bool,.bool _=>true
 | .int,.int _=>true
 | .int,.bool _=>true
 | .str,.str _=>true
 | .tuple,.tuple _=>true
 | .list,.list _=>true
 | .dict,.dict _=>true
 | _,_=>false
@[simp] def ZgZ(a:EF)(t:Ty):EF:=λr=>match a r with
 | some (.dict _)=>none
 | some d=>some (.bool (Zjy t d))
 | none=>none
@[simp] def Zx8(x y:D):Option D:=ZfW (λi j=>some (.int (if j > i then j else i))) x y
@[simp] def ZxG(x y:D):Option D:=ZfW (λi j=>some (.int (if j<i then j else i))) x y
@[simp] def ZpF(a:EF):EF:=λr=>match a r with
 | some (.int i)=>some (.int i)
 | some (.bool b)=>some (.int (if b then 1 else 0))
 | _=>none
@[simp] def ZmG(a b:BF):BF:=λr=>match a r with
 | some (.ol xs)=>match b r with
  | some (.ol ys)=>if xs.length+ys.length<big then some (.ol (xs++ys))else none
  | _=>none
 | _=>none
@[simp] def Zu8(a:BF)(b:EF):BF:=λr=>match a r with
 | some (.ol xs)=>match b r with
  | some (.int k)=>if decide (k.natAbs<1000)&&decide (xs.length<1000)then some (.ol (ZAs k.toNat xs).flatten)else none
  | _=>none
 | _=>none
def sIx(n d:Nat):Option Int->Nat
 | none=>d
 | some v=>if v<0 then(v+(n:Int)).toNat else min v.toNat n
def cutD(xs:List D)(lo hi:Option Int):List D:=(xs.drop (sIx xs.length 0 lo)).take (sIx xs.length xs.length hi-sIx xs.length 0 lo)
@[simp] def ZrS(a:Option EF)(r:Env):Option (Option Int):=match a with
 | none=>some none
 | some f=>match f r with
  | some (.int i)=>some (some i)
  | _=>none
@[simp] def Zvd(a:BF)(lo hi:Option EF):BF:=λr=>match a r with
 | some x=>match ZjU x with
  | some xs=>match ZrS lo r with
   | some l=>match ZrS hi r with
    | some h=>some (.ol (cutD xs l h))
    | none=>none
   | none=>none
  | none=>none
 | none=>none
def ZaP:List D->Option (List Int)
 | []=>some []
 | .int i::r=>(ZaP r).map (i::·)
 | _::_=>none
def Zkg:List D->Option (List (List Int))
 | []=>some []
 | .tuple ds::r=>match ZaP ds with
  | some ns=>(Zkg r).map (ns::·)
  | none=>none
 | _::_=>none
def lexLt:List Int->List Int->Bool
 | [],[]=>false
 | [],_::_=>true
 | _::_,[]=>false
 | a::r,b::q=>if a=b then lexLt r q else decide (a<b)
def sortI(ns:List Int):List Int:=ns.mergeSort λa b=>decide (a<=b)
def Zd8(ts:List (List Int)):List (List Int):=ts.mergeSort λa b=>!lexLt b a
def ofInts(ns:List Int):List D:=ns.map λi=>ZAx i
def ZfA(ts:List (List Int)):List D:=ts.map λt=>ZAJ (ofInts t)
def Zft(ds:List D):Option (List D) :=
 if ds.length<64 then match ZaP ds with
  | some ns=>some (ofInts (sortI ns))
  | none=>match Zkg ds with
   | some ts=>if ds.length<2||ts.all (λt=>!t.isEmpty)then some (ZfA (Zd8 ts))else none
   | none=>none
 else none
@[simp] def Zvx:B->Option (List D)
 | .pl (.tuple ds)=>some ds
 | .pl (.list ds)=>some ds
 | .ol ds=>some ds
 | .ok kvs=>some (kvs.map λp=>ZaU p.1)
 | .ot kvs=>some (kvs.map λp=>.tuple (p.1.map ZaU))
 | .otl kvs=>some (kvs.map λp=>.tuple (p.1.map ZaU))
 | _=>none
@[simp] def Zgd(a:BF):BF:=λr=>match a r with
 | some x=>match Zvx x with
  | some ds=>(Zft ds).map λds=>.ol ds
  | none=>none
 | none=>none
def dedup:List Int->List Int->List Int
 | acc,[]=>acc
 | acc,i::r=>if acc.contains i then dedup acc r else dedup (acc++[i]) r
def ZrZ(ns:List Int):Bool:=ns.all λn=>decide (0<=n)&&decide (n<8)
@[simp] def Zf6(a:BF):BF:=λr=>match a r with
 | some x=>match ZjU x with
  | some ds=>match ZaP ds with
   | some ns=>if ZrZ ns then some (.ol (ofInts (sortI (dedup [] ns))))else none
   | none=>none
  | none=>none
 | none=>none
@[simp] def Zm(m:List D->Option D)(a:AF):EF:=λr=>match a r with
 | some ds=>m ds
 | none=>none
@[simp] def ZS(a:BF):IF:=λr=>match a r with
 | some x=>ZcP x
 | none=>none
def Zc5(lo:Int)(n:Nat):List D:=(ZzX n).map λ(k:Nat)=>ZAx (lo+(k:Int))
def okR(j:Int):Bool:=Nat.blt j.natAbs 1000000
@[simp] def Za6(a:EF):IF:=λr=>match a r with
 | some (.int j)=>if okR j then some (Zc5 0 j.toNat)else none
 | _=>none
@[simp] def Zir(i:IF):EF:=λr=>match i r with
 | some ds=>if ds.length<big then some (.tuple ds)else none
 | none=>none
def Zap(c:TF)(e:EF)(r:Env):List D->Option (List D)
 | []=>some []
 | x::xs=>match c (some (.pl x)::r)with
  | some true=>match e (some (.pl x)::r)with
   | some y=>(Zap c e r xs).map (y::·)
   | none=>none
  | some false=>Zap c e r xs
  | none=>none
@[simp] def ZN:TF:=λ_=>some true
@[simp] def ZK(i:IF)(c:TF)(e:EF):BF:=λr=>match i r with
 | some xs=>if xs.length<big then(Zap c e r xs).map λys=>.ol ys else none
 | none=>none
@[simp] def Zu(a b:SF):SF:=λr=>match a r with
 | some (.nx r')=>b r'
 | some (.rt d)=>some (.rt d)
 | some (.bk r')=>some (.bk r')
 | some (.ct r')=>some (.ct r')
 | none=>none
@[simp] def Zay:SF:=λr=>some (.nx r)
@[simp] def ZjV:SF:=λ_=>none
@[simp] def ZE(a:EF):SF:=λr=>(a r).map Out.rt
@[simp] def Z4(i:Nat)(a:EF):SF:=λr=>(a r).map λd=>.nx (r.set i (some (.pl d)))
@[simp] def ZW(i:Nat)(a:BF):SF:=λr=>(a r).map λb=>.nx (r.set i (some b))
@[simp] def ZlR(i:Nat)(r:Env):Env:=match r[i]? with
 | some (some (.ol ds))=>r.set i (some (.pl (.list ds)))
 | some (some (.ot kvs))=>r.set i (some (.pl (.dict (Zn kvs))))
 | _=>r
@[simp] def ZeR(i:Nat):SF->SF:=λa r=>a (ZlR i r)
@[simp] def ZlW(a:EF):SF:=λr=>(a r).map λ_=>.nx r
@[simp] def sIf(c:TF)(a b:SF):SF:=λr=>match c r with
 | some true=>a r
 | some false=>b r
 | none=>none
def ZaQ(i:Nat)(body:SF):List D->Env->Option Out
 | [],r=>some (.nx r)
 | x::xs,r=>match body (r.set i (some (.pl x)))with
  | some (.nx r')=>ZaQ i body xs r'
  | some (.ct r')=>ZaQ i body xs r'
  | some (.bk r')=>some (.nx r')
  | some (.rt d)=>some (.rt d)
  | none=>none
@[simp] def Zba(i:Nat)(it:IF)(body:SF):SF:=λr=>match it r with
 | some xs=>if xs.length<big then ZaQ i body xs r else none
 | none=>none
def ZaV(c:TF)(body:SF):Nat->Env->Option Out
 | 0,_=>none
 | n+1,r=>match c r with
  | some true=>match body r with
   | some (.nx r')=>ZaV c body n r'
   | some (.ct r')=>ZaV c body n r'
   | some (.bk r')=>some (.nx r')
   | some (.rt d)=>some (.rt d)
   | none=>none
  | some false=>some (.nx r)
  | none=>none
@[simp] def Zdf(i:Nat)(a:EF):SF:=λr=>match r[i]? with
 | some (some (.ol ds))=>match a r with
  | some d=>if ds.length<big then some (.nx (r.set i (some (.ol (ds++[d])))))else none
  | none=>none
 | _=>none
@[simp] def Zr9(i:Nat)(k v:EF):SF:=λr=>match v r with
 | some d=>match r[i]? with
  | some (some (.ol ds))=>match k r with
   | some (.int n)=>match ixN ds.length n with
    | some j=>some (.nx (r.set i (some (.ol (ds.set j d)))))
    | none=>none
   | _=>none
  | _=>none
 | none=>none
def putD{k v:Type}[DecidableEq k](kvs:List (k × v))(x:k)(y:v):List (k × v) :=
 if(kvs.any λp=>decide (p.1=x))=true then kvs.map (λp=>if p.1=x then(p.1,y)else p)else kvs++[(x,y)]
def Zg{k v:Type}[DecidableEq k](kvs:List (k × v))(x:k):Option v:=(kvs.find? λp=>decide (p.1=x)).map (·.2)
@[simp] def ZiQ:D->Option Ky
 | .int i=>some (.inl i)
 | .str x=>some (.inr x)
 | _=>none
def Zhg:List D->Option (List Ky)
 | []=>some []
 | d::r=>match ZiQ d with
  | some k=>(Zhg r).map (k::·)
  | none=>none
def tkL:D->Option (List Ky)
 | .tuple ds=>Zhg ds
 | _=>none
def Zmk:List D->Option (List Ky)
 | []=>some []
 | .int i::r=>(Zmk r).map (ZBL i::·)
 | _::_=>none
def Za1:D->Option (List Ky)
 | .tuple ds=>Zmk ds
 | _=>none
@[simp] def ZhD(i:Nat)(k v:EF):SF:=λr=>match v r with
 | some d=>match k r with
  | some x=>match r[i]? with
   | some (some (.ok kvs))=>match ZiQ x with
    | some y=>if kvs.length<big then some (.nx (r.set i (some (.ok (putD kvs y d)))))else none
    | none=>none
   | some (some (.ot kvs))=>match Za1 x with
    | some y=>if kvs.length<big then some (.nx (r.set i (some (.ot (putD kvs y d)))))else none
    | none=>none
   | _=>none
  | none=>none
 | none=>none
@[simp] def fDk:BF:=λ_=>some (.ok [])
@[simp] def fDt:BF:=λ_=>some (.ot [])
@[simp] def Zuw:BF:=λ_=>some (.otl [])
@[simp] def ZoK(k v:EF):BF:=λr=>match k r with
 | some x=>match v r with
  | some d=>match ZiQ x with
   | some y=>some (.ok [(y,d)])
   | none=>none
  | none=>none
 | none=>none
def ZbU{k v:Type}[DecidableEq k](kvs:List (k × List v))(x:k):List (k × List v):=match Zg kvs x with
 | some _=>kvs
 | none=>kvs++[(x,[])]
def ZdF{k v:Type}[DecidableEq k]:List (k × List v)->k->v->List (k × List v)
 | [],_,_=>[]
 | (x,ds)::r,y,d=>if x=y then(x,ds++[d])::r else(x,ds)::ZdF r y d
@[simp] def ZoX(i:Nat)(k v:EF):SF:=λr=>match k r with
 | some x=>match r[i]? with
  | some (some (.otl kvs))=>match Za1 x with
   | some y=>if kvs.length<big then
     match v (r.set i (some (.otl (ZbU kvs y))))with
     | some d=>match Zg (ZbU kvs y) y with
      | some ds=>if ds.length<big then some (.nx (r.set i (some (.otl (ZdF (ZbU kvs y) y d)))))else none
      | none=>none
     | none=>none
    else none
   | none=>none
  | _=>none
 | none=>none
@[simp] def Zl9(i:Nat)(k:EF):SF:=λr=>match k r with
 | some x=>match r[i]? with
  | some (some (.otl kvs))=>match Za1 x with
   | some y=>if kvs.length<big then
     match Zg kvs y with
     | none=>some (.nx (r.set i (some (.otl (kvs++[(y,[])])))))
     | some _=>none
    else none
   | none=>none
  | _=>none
 | none=>none
@[simp] def ZoP(i:Nat)(k v:EF):SF:=λr=>match k r with
 | some x=>match r[i]? with
  | some (some (.otl kvs))=>match Za1 x with
   | some y=>match v r with
    | some d=>match Zg kvs y with
     | some ds=>if ds.length<big then some (.nx (r.set i (some (.otl (ZdF kvs y d)))))else none
     | none=>none
    | none=>none
   | none=>none
  | _=>none
 | none=>none
@[simp] def hasB(b:B)(x:D):Option Bool:=match b with
 | .ok kvs=>(ZiQ x).map λy=>(Zg kvs y).isSome
 | .ot kvs=>(Za1 x).map λy=>(Zg kvs y).isSome
 | .otl kvs=>(Za1 x).map λy=>(Zg kvs y).isSome
 | _=>none
@[simp] def ZlH(k:EF)(a:BF):EF:=λr=>match k r with
 | some x=>match a r with
  | some b=>(hasB b x).map λc=>.bool (!c)
  | none=>none
 | none=>none
@[simp] def ZpH(i:Nat)(k:EF):BF:=λr=>match k r with
 | some x=>match r[i]? with
  | some (some (.ok kvs))=>match ZiQ x with
   | some y=>(Zg kvs y).map B.pl
   | none=>none
  | some (some (.ot kvs))=>match Za1 x with
   | some y=>(Zg kvs y).map B.pl
   | none=>none
  | some (some (.otl kvs))=>match Za1 x with
   | some y=>(Zg kvs y).map B.ol
   | none=>none
  | _=>none
 | none=>none
abbrev fnD(t:Nat)(cs:List D):D:=.dict [(.none,.int (Int.ofNat t)),(.none,.list cs)]
@[simp] def ZeQ(n:Nat)(ds:List D):Env:=ds.map (λd=>some (B.pl d))++ZAs (n-ds.length) none
@[simp] def fnOf(k n:Nat)(m:SF):List D->Option D:=λds =>
 if ds.length=k then match m (ZeQ n ds)with
  | some (.nx _)=>some .none
  | some (.rt d)=>some d
  | _=>none
 else none
end HM
namespace HM
open PySem
def Zdg(c:TF)(e:EF)(r:Env):List D->Option (List D)
 | []=>some []
 | .tuple [x,y]::xs=>match c (some (.pl x)::some (.pl y)::r)with
  | some true=>match e (some (.pl x)::some (.pl y)::r)with
   | some z=>(Zdg c e r xs).map (z::·)
   | none=>none
  | some false=>Zdg c e r xs
  | none=>none
 | _=>none
@[simp] def ZdH(i:IF)(c:TF)(e:EF):BF:=λr=>match i r with
 | some xs=>if xs.length<big then(Zdg c e r xs).map λys=>.ol ys else none
 | none=>none
def Zpn(ds:List D)(i:Int):Option Bool:=(ZaP ds).map λns=>ns.contains i
@[simp] def Zpy(k:EF)(a:BF):EF:=λr=>match k r with
 | some (.int i)=>match a r with
  | some b=>match ZcP b with
   | some ds=>(Zpn ds i).map λc=>.bool c
   | none=>none
  | none=>none
 | _=>none
@[simp] def Zh0(k:EF)(a:BF):EF:=λr=>match k r with
 | some (.int i)=>match a r with
  | some b=>match ZcP b with
   | some ds=>(Zpn ds i).map λc=>.bool (!c)
   | none=>none
  | none=>none
 | _=>none
end HM
namespace HM
open PySem
@[simp] def ZhT(n:Nat)(c:TF)(body:SF):SF:=λr=>ZaV c body n r
def Zd0(i j:Nat)(body:SF):List D->Env->Option Out
 | [],r=>some (.nx r)
 | .tuple [x,y]::xs,r=>match body ((r.set i (some (.pl x))).set j (some (.pl y)))with
  | some (.nx r')=>Zd0 i j body xs r'
  | some (.ct r')=>Zd0 i j body xs r'
  | some (.bk r')=>some (.nx r')
  | some (.rt d)=>some (.rt d)
  | none=>none
 | _,_=>none
@[simp] def ZiO(i j:Nat)(it:IF)(body:SF):SF:=λr=>match it r with
 | some xs=>if xs.length<big then Zd0 i j body xs r else none
 | none=>none
end HM
namespace HM
open PySem
def ZpW(ds:List D)(x:D):Option Bool:=if Zao x&&ds.all Zao then some (ds.any λd=>ZA1 d x)else none
@[simp] def ZhV(k:EF)(a:BF):EF:=λr=>match k r with
 | some x=>match a r with
  | some b=>match ZcP b with
   | some ds=>(ZpW ds x).map λc=>.bool (!c)
   | none=>none
  | none=>none
 | none=>none
end HM
namespace HM
open PySem
def ZfX:List (D × D)->Option (List (List Ky × D))
 | []=>some []
 | (k,v)::r=>match tkL k with
  | some ks=>(ZfX r).map ((ks,v)::·)
  | none=>none
@[simp] def ZkZ:B->Option (List (List Ky × D))
 | .ot kvs=>some kvs
 | .pl (.dict es)=>ZfX es
 | .hd es=>ZfX es
 | _=>none
@[simp] def Zo2(k:EF)(a:BF):EF:=λr=>match k r with
 | some x=>match a r with
  | some b=>match ZkZ b with
   | some kvs=>(Za1 x).map λy=>.bool (Zg kvs y).isSome
   | none=>none
  | none=>none
 | none=>none
@[simp] def ZbW(k:EF)(a:BF):EF:=λr=>match k r with
 | some x=>match a r with
  | some b=>match ZkZ b with
   | some kvs=>(Za1 x).map λy=>.bool (!(Zg kvs y).isSome)
   | none=>none
  | none=>none
 | none=>none
@[simp] def ZaX(a:BF)(k:EF):EF:=λr=>match a r with
 | some b=>match ZkZ b with
  | some kvs=>match k r with
   | some x=>match Za1 x with
    | some y=>Zg kvs y
    | none=>none
   | none=>none
  | none=>none
 | none=>none
@[simp] def ZlI:D->Bool
 | .none=>true
 | .bool _=>true
 | .int _=>true
 | .str _=>true
 | _=>false
@[simp] def Zr7(f:BF):EF:=λr=>(f r).bind frz
theorem Zwc(ks:List Ky):tkL (.tuple (ks.map ZaU))=some ks:=by
 show Zhg (ks.map ZaU)=some ks
 induction ks with
 | nil=>rfl
 | cons k ks ih=>show(match ZiQ (ZaU k)with | some q=>(Zhg (ks.map ZaU)).map (q::·) | none=>none)=_;rw[ih];cases k<;>rfl
theorem dec_enc(kvs:List (List Ky × D)):ZfX (Zn kvs)=some kvs:=by
 induction kvs with
 | nil=>rfl
 | cons p kvs ih=>obtain⟨k,d⟩:=p;show(match tkL (.tuple (k.map ZaU))with | some ks=>(ZfX (Zn kvs)).map ((ks,d)::·) | none=>none)=_;rw[Zwc,ih];rfl
end HM
namespace HM
open PySem
@[simp] def Zfx(a:BF):EF:=λr=>match a r with
 | some x=>match ZjU x with
  | some ds=>match ZaP ds with
   | some ns=>ns.max?.map λi=>ZAx i
   | none=>none
  | none=>none
 | none=>none
end HM
namespace HM
open PySem
end HM
namespace HM
open PySem
@[simp] def Zkc(i:Nat)(f:BF):SF:=λr=>match r[i]? with
 | some (some (.ol ds))=>match f r with
  | some (.ol es)=>if ds.length+es.length<big then some (.nx (r.set i (some (.ol (ds++es)))))else none
  | _=>none
 | _=>none
@[simp] def Zun(i j:Nat):SF:=λr=>match r[j]? with
 | some (some (.ol ds))=>match ds[ds.length-1]? with
  | some d=>some (.nx ((r.set j (some (.ol ds.dropLast))).set i (some (.pl d))))
  | none=>none
 | _=>none
@[simp] def ZjM(m:List D->Option D)(a:AF):BF:=λr=>match a r with
 | some ds=>match m ds with
  | some (.list ys)=>some (.ol ys)
  | _=>none
 | none=>none
def ZbB:Option B->Bool
 | some (.hd _)=>true
 | _=>false
@[simp] def Zfu(i:Nat)(g:SF):SF:=λr=>match r[i]? with
 | some (some (.pl (.dict es)))=>if r.all (λq=>!ZbB q)then match g (r.set i (some (.hd es)))with
   | some (.nx r')=>match r'[i]? with
    | some (some (.hd es'))=>if(r'.set i none).all (λq=>!ZbB q)then some (.nx (r'.set i (some (.pl (.dict es')))))else none
    | _=>none
   | some (.rt d)=>some (.rt d)
   | _=>none
  else none
 | _=>g r
@[simp] def Zbm(i:Nat):IF:=λr=>match r[i]? with
 | some (some (.pl (.tuple ds)))=>some ds
 | some (some (.pl (.list ds)))=>some ds
 | some (some (.hd es))=>(ZfX es).map λkvs=>kvs.map λp=>.tuple (p.1.map ZaU)
 | _=>none
end HM
namespace HM
open PySem
@[simp] def ZlL(a:BF)(k:EF):EF:=λr=>match a r with
 | some b=>match ZkZ b with
  | some kvs=>match k r with
   | some x=>match Za1 x with
    | some y=>some ((Zg kvs y).getD .none)
    | none=>none
   | none=>none
  | none=>none
 | none=>none
end HM
namespace HM
open PySem
end HM
namespace HM
open PySem
abbrev AP:=Nat->List D->List D->Option D
def Zmi:D->Option (Nat × List D)
 | .dict [(.none,.int (Int.ofNat t)),(.none,.list cs)]=>some (t,cs)
 | _=>none
@[simp] def ZgN(ap:AP)(i:Nat)(a:AF):EF:=λr=>match r[i]? with
 | some (some (.pl d))=>match Zmi d with
  | some (t,cs)=>match a r with
   | some ds=>ap t cs ds
   | none=>none
  | none=>none
 | _=>none
def noF:Nat->D->Bool
 | _,.none=>true
 | _,.bool _=>true
 | _,.int _=>true
 | _,.str _=>true
 | n+1,.tuple ds=>ds.all (noF n)
 | n+1,.list ds=>ds.all (noF n)
 | n+1,.dict es=>es.all λp=>(match p.1 with | .none=>false | _=>true)&&noF n p.2
 | _,_=>false
def ZlM:List Nat->Env->Option (List D)
 | [],_=>some []
 | i::is,r=>match r[i]? with
  | some (some (.pl d))=>(ZlM is r).map (d::·)
  | _=>none
@[simp] def Zfe(m:List D->Option D)(t:Nat)(is:List Nat)(a:EF):EF:=λr=>match a r with
 | some d1=>match ZlM is r with
  | some cs=>if cs.all (noF 20)then match m [d1,fnD t cs]with
    | some d=>if noF 20 d then some d else none
    | none=>none
   else none
  | none=>none
 | none=>none
def Zhe(n m:Nat)(e:EF):List D->List D->Option D:=λcs ds=>if ds.length=n/\cs.length=m/\ds.all (noF 20)=true then e ((ds++cs).map λd=>some (B.pl d))else none
@[simp] def Zf5(a:BF):EF:=λr=>match a r with
 | some x=>match ZjU x with
  | some ds=>match ZaP ds with
   | some ns=>some (match ns.min? with | some i=>.int i | none=>.none)
   | none=>none
  | none=>none
 | none=>none
abbrev NF:=Env->Option (List (List Ky × D))
@[simp] def Zk3(a:SF)(m:NF):NF:=λr=>match a r with
 | some (.nx r')=>m r'
 | _=>none
@[simp] def ZpA(j:Nat):NF:=λr=>match r[j]? with
 | some (some (.ot kvs))=>some kvs
 | _=>none
def newOf(k n:Nat)(m:NF):List D->Option (List (List Ky × D)):=λds=>if ds.length=k then m (ZeQ n ds)else none
@[simp] def ZjG(m:List D->Option (List (List Ky × D)))(a:AF):BF:=λr=>match a r with
 | some ds=>match m ds with
  | some kvs=>if kvs.all (λp=>ZlI p.2)then some (.ot kvs)else none
  | none=>none
 | none=>none
end HM
namespace HM
open PySem
end HM
namespace HM
open PySem
end HM
namespace HM
open PySem
end HM
namespace HM
open PySem
end HM
namespace HM
open PySem
end HM
namespace HM
open PySem
end HM
namespace HM
open PySem
def ZiF(n:Nat):List D->List D
 | []=>[]
 | d::ds=>.tuple [.int n,d]::ZiF (n+1) ds
@[simp] def ZnS(a:EF):IF:=λr=>match a r with
 | some (.tuple ds)=>some (ZiF 0 ds)
 | _=>none
@[simp] def Zss(a b:BF):BF:=λr=>match a r with
 | some x=>match ZjU x with
  | some xs=>match b r with
   | some y=>match ZjU y with
    | some ys=>if xs.length+ys.length<big then some (.ol (xs++ys))else none
    | none=>none
   | none=>none
  | none=>none
 | none=>none
end HM
namespace HP
open PySem PySem.Spec PyProof.Rows L2
variable{a b l p:Addr}{o ob u:HO}{F F' H H' H1:Hp}{vvs:List (List Key × V)}{fp':List Addr}
@[reducible] def Zdq(H':Hp)(b:Addr):HO->Prop
 | .tbl _=>∃ps',H' b=some (.tbl ps')
 | o=>H' b=some o
def ZaM(H H':Hp):Prop:=∀b o,H b=some o->Zdq H' b o
theorem Zdq.of(h:H' b=some o):Zdq H' b o:=by cases o<;>first | exact h | exact⟨_,h⟩
theorem Zdq.ex(h:Zdq H' b o):∃u,H' b=some u:=by cases o<;>first | exact⟨_,h⟩ | (obtain⟨ps,e⟩:=h; exact⟨_,e⟩)
theorem Zdq.no(h:Zdq H' b o)(n:∀ps,o≠.tbl ps):H' b=some o:=by cases o<;>first | exact h | exact absurd rfl (n _)
theorem ZaM.of{H H':Hp}(s:Zq H H'):ZaM H H':=λb o h=>.of (s b o h)
theorem ZaM.refl(H:Hp):ZaM H H:=.of (.refl H)
theorem ZaM.trans{H2:Hp}(a:ZaM H H1)(b:ZaM H1 H2):ZaM H H2:=λc o h=>by have h1:=a c o h;cases o<;>first | exact b c _ h1 | (obtain⟨ps,e⟩:=h1; exact(show ∃ps',H2 c=some (.tbl ps') from b c _ e))
theorem ZaM.free(e:ZaM H H')(h:H' l=none):H l=none:=by
 cases q:H l with
 | none=>rfl
 | some o=>obtain⟨u,z⟩:=(e l o q).ex;rw[h]at z; cases z
theorem ZaM.back(e:ZaM H H')(h:H l=some o)(h':H' l=some u)(n:∀ps,u≠.tbl ps):o=u:=by have z:=e l o h;cases o<;>first | (obtain⟨ps,q⟩:=z; rw[h']at q; cases q; exact absurd rfl (n _)) | (have z:H' l=some _:=z; rw[h']at z; cases z; rfl)
def ZcV(H:Hp):Hp:=λb=>match H b with
 | some (.tbl _)=>none
 | x=>x
def nt:HO->Bool
 | .tbl _=>false
 | _=>true
def NoT(F:Hp):Prop:=∀b o,F b=some o->nt o=true
theorem Zcu(h:H b=some o)(n:nt o=true):ZcV H b=some o:=by unfold ZcV; rw[h];cases o<;>first | rfl | cases n
theorem Zg8(h:ZcV H b=some o):H b=some o/\nt o=true:=by
 unfold ZcV at h;split at h
 ·cases h
 ·rename_i n
  refine⟨h,?_⟩;cases o<;>first | rfl | exact absurd h (n _)
theorem ZmM:Zq (ZcV H) H:=λb o h=>(Zg8 h).1
theorem NoT.drop{H:Hp}:NoT (ZcV H):=λb o h=>(Zg8 h).2
theorem NoT.sub(n:NoT F)(s:Zq F H):Zq F (ZcV H):=λb o h=>Zcu (s b o h) (n b o h)
theorem NoT.upd{F:Hp}{p:Addr}{o:HO}(n:NoT F)(h:nt o=true):NoT (upd F p o):=λb u z=>by
 by_cases hb:b=p
 ·subst hb; rw[ZF]at z; cases z; exact h
 ·rw[ZB hb]at z; exact n b u z
theorem ZaM.ntb(s:ZaM H H')(h:H b=some o)(n:nt o=true):H' b=some o:=(s b o h).no λps z=>by subst z; cases n
def Dk(vvs:List (List Key × V))(u:HO):Prop:=u=.dT vvs\/∃o,u=.frz o (.dT vvs)
def sw(a:Addr)(ob:HO)(G:Hp):Hp:=λb=>if b=a then(G a).map (λ_=>ob)else G b
class FX where
 tl:List (Addr × Str)
 fv:Nat->List PyData->Hp->Addr->Prop
 sw:∀{t:Nat} {cs:List PyData} {F:Hp} {a b:Addr} {ob:HO} {vvs:List (List Key × V)},(∀u,F a=some u->Dk vvs u)->Dk vvs ob->fv t cs F b->fv t cs (sw a ob F) b
 drop:∀{t:Nat} {cs:List PyData} {F:Hp} {a:Addr},fv t cs F a->fv t cs (ZcV F) a
 mono:∀{t:Nat} {cs:List PyData} {F F':Hp} {a:Addr},fv t cs F a->Zq F F'->fv t cs F' a
variable[FX]
def Zbu(a:Addr)(o:Obj):HO:=.ext λh=>h.get? a=some o
def Zmz(o:Obj)(q:Str):Prop:=∃vs t,o.data=.fields vs/\vs[1]?=some (.str q t)
def Tb(H:Hp):Prop:=∀P q,(P,q)∈FX.tl->∃ps,H P=some (.tbl ps)/\TriplesOk ps.toList/\∀pos c,ZDI pos ps.toList=some c->∃a o,c=.ref a/\H a=some (Zbu a o)/\Zmz o q
def Zmr:HO->Bool
 | .lst _=>true
 | .dK _=>true
 | .dT _=>true
 | _=>false
def te:HO->Bool
 | .tbl _=>true
 | .ext _=>true
 | _=>false
theorem ZtF(h:Zmr o=true)(h':te o=true):False:=by cases o<;>simp_all [Zmr,te]
theorem Tb.keep(t:Tb H)(k:∀a o,H a=some o->te o=true->H' a=some o):Tb H':=λP q hP=>by obtain⟨ps,h1,h2,h3⟩:=t P q hP;refine⟨ps,k _ _ h1 rfl,h2,λpos c hc=>?_⟩;obtain⟨a,o,e1,e2,e3⟩:=h3 pos c hc;exact⟨a,o,e1,k _ _ e2 rfl,e3⟩
theorem Dk.te{vvs:List (List Key × V)}{u:HO}(h:Dk vvs u):te u=false:=by rcases h with h | ⟨o,h⟩<;>subst h<;>rfl
theorem Dk.ntt(h:Dk vvs u):nt u=true:=by rcases h with h | ⟨o,h⟩<;>subst h<;>rfl
theorem Tb.sw{G:Hp}{a:Addr}{ob:HO}{vvs:List (List Key × V)}(hG:∀u,G a=some u->Dk vvs u)(t:Tb G):Tb (HP.sw a ob G):=t.keep λb o z ht=>by
 have hb:b≠a:=λe=>by subst e; rw[(hG o z).te]at ht; cases ht
 unfold HP.sw; rw[if_neg hb]; exact z
theorem Tb.unsw{G:Hp}(hob:Dk vvs ob)(t:Tb (HP.sw a ob G)):Tb G:=t.keep λb o z ht=>by
 unfold HP.sw at z;split at z
 ·obtain⟨u,_,e⟩:=ZzR.mp z
  subst e; rw[hob.te]at ht; cases ht
 ·exact z
theorem Zdq.cong(e:H' b=H b)(h:Zdq H b o):Zdq H' b o:=by unfold Zdq at h ⊢; rw[e]; exact h
theorem ZaM.sw{H0 H:Hp}{a:Addr}{ob:HO}(s:ZaM H0 H):ZaM (HP.sw a ob H0) (HP.sw a ob H):=λb o z=>by
 by_cases hb:b=a
 ·subst hb
  unfold HP.sw at z;rw[if_pos rfl]at z;obtain⟨u,h1,h2⟩:=ZzR.mp z;obtain⟨w,hw⟩:=(s _ _ h1).ex;refine .of ?_;unfold HP.sw;rw[if_pos rfl,hw,h2.symm]; rfl
 ·unfold HP.sw at z
  rw[if_neg hb]at z;refine(s b o z).cong ?_;unfold HP.sw; rw[if_neg hb]
theorem Tb.same(t:Tb H)(s:Zq H H'):Tb H':=t.keep λa o h _=>s a o h
theorem Zke(r:Rd F a u)(s:Zq F F'):Rd F' a u:=r.imp (λh=>s _ _ h) λ⟨o,h⟩=>⟨o,s _ _ h⟩
def Zzv(K:ZzS)(a:Addr)(vs:List V):Prop:=∃(o:Obj) (its:Array Value) (n:Nat),K.lookup a=some o/\o.cls=.type "tuple"/\o.data=.seq its n/\its.size<=sizeLine/\Vals vs its.toList
theorem Zk4{K:ZzS}{vs:List V}(h:SqT K F a vs)(s:Zq F F'):SqT K F' a vs:=h.imp (λh=>Zke h s) id
inductive Rep(K:ZzS)(F:Hp):PyData->V->Prop where
 | non:Rep K F .none .non
 | bl (b:Bool):Rep K F (.bool b) (.bl b)
 | int (i:Int):Rep K F (.int i) (.int i)
 | str (x:Str):Rep K F (.str x) (.str x)
 | tupk {a:Addr} {x:Str} (h:Zzv K a [.str x]):Rep K F (.tuple [.str x]) (.ref a)
 | tup {a:Addr} {ds:List PyData} {vs:List V} (h:F a=some (.tup vs)) (hl:ds.length=vs.length) (hr:∀(i:Nat) (d:PyData) (v:V),ds[i]?=some d->vs[i]?=some v->Rep K F d v):Rep K F (.tuple ds) (.ref a)
 | lst {a:Addr} {ds:List PyData} {vs:List V} (h:SqL K F a vs) (hl:ds.length=vs.length) (hr:∀(i:Nat) (d:PyData) (v:V),ds[i]?=some d->vs[i]?=some v->Rep K F d v):Rep K F (.list ds) (.ref a)
 | dct {a:Addr} {es:List (PyData × PyData)} {kvs:List (List Key × PyData)} {vvs:List (List Key × V)} (h:Rd F a (.dT vvs)) (he:es=HM.Zn kvs) (hk:kvs.map (·.1)=vvs.map (·.1)) (hr:∀(i:Nat) (d:PyData) (v:V),(kvs.map (·.2))[i]?=some d->(vvs.map (·.2))[i]?=some v->Rep K F d v):Rep K F (.dict es) (.ref a)
 | fn {a:Addr} {t:Nat} {cs:List PyData} (h:FX.fv t cs F a):Rep K F (.dict [(.none,.int (Int.ofNat t)),(.none,.list cs)]) (.ref a)
def Zt(K:ZzS)(F:Hp)(ds:List PyData)(vs:List V):Prop:=ds.length=vs.length/\∀(i:Nat) (d:PyData) (v:V),ds[i]?=some d->vs[i]?=some v->Rep K F d v
section
variable{K:ZzS}{F F':Hp}{d:PyData}{v:V}{ds es:List PyData}{vs us:List V}
theorem Rep.mono(r:Rep K F d v)(s:Zq F F'):Rep K F' d v:=by
 induction r with
 | non=>exact .non
 | bl b=>exact .bl b
 | int i=>exact .int i
 | str x=>exact .str x
 | tup h hl _ ih=>exact .tup (s _ _ h) hl ih
 | tupk h=>exact .tupk h
 | lst h hl _ ih=>exact .lst (s.seq h) hl ih
 | dct h he hk _ ih=>exact .dct (Zke h s) he hk ih
 | fn h=>exact .fn (FX.mono h s)
theorem Rep.drop(r:Rep K F d v):Rep K (ZcV F) d v:=by
 induction r with
 | non=>exact .non
 | bl b=>exact .bl b
 | int i=>exact .int i
 | str x=>exact .str x
 | tup h hl _ ih=>exact .tup (Zcu h rfl) hl ih
 | tupk h=>exact .tupk h
 | lst h hl _ ih =>
  refine .lst ?_ hl ih;rcases h with(h | ⟨o,h⟩) | h
  ·exact .inl (.inl (Zcu h rfl))
  ·exact .inl (.inr ⟨o,Zcu h rfl⟩)
  ·exact .inr h
 | dct h he hk _ ih =>
  refine .dct ?_ he hk ih;rcases h with h | ⟨o,h⟩
  ·exact .inl (Zcu h rfl)
  ·exact .inr ⟨o,Zcu h rfl⟩
 | fn h=>exact .fn (FX.drop h)
theorem Zt.drop'(r:Zt K F ds vs):Zt K (ZcV F) ds vs:=⟨r.1,λi d v h1 h2=>(r.2 i d v h1 h2).drop⟩
theorem ZaM.dr(s:ZaM H H'):Zq (ZcV H) H':=λb o h=>s.ntb (Zg8 h).1 (Zg8 h).2
theorem Rep.monoT(r:Rep K H d v)(s:ZaM H H'):Rep K H' d v:=r.drop.mono s.dr
theorem Zt.mono(r:Zt K F ds vs)(s:Zq F F'):Zt K F' ds vs:=⟨r.1,λi d v h1 h2=>(r.2 i d v h1 h2).mono s⟩
theorem Zt.nil:Zt K F [] []:=⟨rfl,λi d v h=>by simp at h⟩
theorem Zt.cons(r:Rep K F d v)(q:Zt K F ds vs):Zt K F (d::ds) (v::vs) :=
 ⟨by rw[Zz8,Zz8,q.1],λi e u h1 h2=>by
  cases i with
  | zero=>rw[ZCs]at h1 h2;cases h1; cases h2; exact r
  | succ i=>rw[ZAA]at h1 h2;exact q.2 i e u h1 h2⟩
theorem Zt.nil_inv(r:Zt K F [] vs):vs=[]:=ZBV r.1.symm
theorem Zt.cons_inv(r:Zt K F (d::ds) vs):∃v us,vs=v::us/\Rep K F d v/\Zt K F ds us:=by
 cases vs with
 | nil=>exact absurd r.1 (by simp)
 | cons v us =>
  refine⟨v,us,rfl,r.2 0 d v rfl rfl,?_,λi e u h1 h2=>r.2 (i+1) e u ?_ ?_⟩
  ·have:=r.1
   rw[Zz8,Zz8]at this;omega
  ·rw[ZAA]; exact h1
  ·rw[ZAA]; exact h2
theorem Zt.append(r:Zt K F ds vs)(q:Zt K F es us):Zt K F (ds++es) (vs++us):=by
 refine⟨by rw[ZAb,ZAb,r.1,q.1],λi e u h1 h2=>?_⟩
 by_cases hi:i<ds.length
 ·rw[ZAw hi]at h1
  rw[ZAw (by rw[<-r.1]; exact hi)]at h2;exact r.2 i e u h1 h2
 ·rw[ZAG (by omega)]at h1
  rw[ZAG (by have:=r.1; omega),<-r.1]at h2;exact q.2 _ e u h1 h2
theorem Zt.get(r:Zt K F ds vs){i:Nat}(h:ds[i]?=some d):∃v,vs[i]?=some v/\Rep K F d v:=by
 have hi:i<vs.length:=by rw[<-r.1]; exact(Zz5.mp h).1
 exact⟨vs[i],Zz2 hi,r.2 i d _ h (Zz2 hi)⟩
theorem Zt.drop(r:Zt K F ds vs)(n:Nat):Zt K F (ds.drop n) (vs.drop n) :=
 ⟨by rw[ZCI,ZCI,r.1],λi e u h1 h2=>by rw[List.getElem?_drop]at h1 h2;exact r.2 _ e u h1 h2⟩
theorem Zt.take(r:Zt K F ds vs)(n:Nat):Zt K F (ds.take n) (vs.take n) :=
 ⟨by rw[ZBz,ZBz,r.1],λi e u h1 h2=>by
  by_cases hi:i<n
  ·rw[ZD8 hi]at h1 h2
   exact r.2 _ e u h1 h2
  ·rw[List.getElem?_take_eq_none (by omega)]at h1
   cases h1⟩
theorem Zt.set(r:Zt K F ds vs)(q:Rep K F d v)(j:Nat):Zt K F (ds.set j d) (vs.set j v):=by
 refine⟨by rw[ZBc,ZBc,r.1],λi e u h1 h2=>?_⟩;have hi:i<ds.length:=by have:=(Zz5.mp h1).1; rwa [ZBc]at this
 by_cases e1:j=i
 ·subst e1
  rw[ZAM hi]at h1;rw[ZAM (by rw[<-r.1]; exact hi)]at h2;cases h1; cases h2; exact q
 ·rw[ZAr e1]at h1 h2
  exact r.2 i e u h1 h2
theorem Zt.rep(r:Zt K F ds vs)(k:Nat):Zt K F (ZAs k ds).flatten (ZAs k vs).flatten:=by
 induction k with
 | zero=>exact Zt.nil
 | succ k ih=>rw[ZBF,ZBF,ZCc,ZCc]; exact r.append ih
theorem Zt.one(r:Rep K F d v):Zt K F [d] [v]:=.cons r .nil
end
def Fre(H:Hp)(a:Addr)(o:HO):Prop:=H a=none\/∃xs,o=.tup xs/\H a=some (.tup xs)
theorem Fre.back{H H':Hp}{a:Addr}{o:HO}(s:ZaM H H')(f:Fre H' a o):Fre H a o:=by
 rcases f with f | ⟨xs,e,f⟩
 ·exact .inl (s.free f)
 ·cases q:H a with
  | none=>exact .inl q
  | some u =>
   have:=s.back q f λ_ z=>by cases z
   subst this;exact .inr ⟨xs,e,q⟩
theorem Fre.no(f:Fre H a o)(h:H a=some u)(n:∀xs,u≠.tup xs):False:=by
 rcases f with f | ⟨xs,_,f⟩
 ·rw[h]at f; cases f
 ·rw[h]at f; cases f; exact n xs rfl
structure Ext(F H F' H':Hp):Prop where
 ff:Zq F F'
 hh:ZaM H H'
 sub:Zq F' H'
 new:∀a o,F' a=some o->F a=some o\/Fre H a o
 tab:Tb H->Tb H'
 nts:NoT F->NoT F'
theorem Ext.refl{F H:Hp}(s:Zq F H):Ext F H F H:=⟨Zq.refl F,ZaM.refl H,s,λ_ _ h=>.inl h,id,id⟩
theorem Ext.trans{F H F1 H1 F2 H2:Hp}(a:Ext F H F1 H1)(b:Ext F1 H1 F2 H2):Ext F H F2 H2 :=
 ⟨a.ff.trans b.ff,a.hh.trans b.hh,b.sub,λx o h=>by
  rcases b.new x o h with q | q
  ·exact a.new x o q
  ·exact .inr (q.back a.hh),λt=>b.tab (a.tab t),λt=>b.nts (a.nts t)⟩
theorem ZkU(h:F p=none):Zq F (upd F p o):=λb q z=>by rw[ZB (ZaF z h)]; exact z
theorem Ext.lay(e:Ext F H F' H')(h:H' p=none)(no:nt o=true:=by rfl):Ext F H (upd F' p o) (upd H' p o):=by
 have hF:F' p=none:=e.sub.free h;refine⟨λb q z=>?_,e.hh.trans (.of (ZkU h)),λb q z=>?_,λb q z=>?_,λt=>(e.tab t).same (ZkU h),λt=>(e.nts t).upd no⟩
 ·rw[ZB (ZaF (e.ff b q z) hF)]; exact e.ff b q z
 ·by_cases hb:b=p
  ·subst hb; rw[ZF]at z ⊢; exact z
  ·rw[ZB hb]at z ⊢; exact e.sub b q z
 ·by_cases hb:b=p
  ·subst hb; exact .inr (.inl (e.hh.free h))
  ·rw[ZB hb]at z; exact e.new b q z
theorem Ext.lay'(e:Ext F H F' H')(h:H' p=none):Ext F H F' (upd H' p o):=by refine⟨e.ff,e.hh.trans (.of (ZkU h)),λb q z=>?_,e.new,λt=>(e.tab t).same (ZkU h),e.nts⟩;rw[ZB (ZaF (e.sub b q z) h)]; exact e.sub b q z
theorem Zq.upd'(h:F p=none):Zq F (upd F p o):=λb q z=>by rw[ZB (ZaF z h)]; exact z
def Zci(F H:Hp):Hp:=λa=>match H a with
 | some (.tup xs)=>some (.tup xs)
 | _=>F a
theorem Zpw{xs:List V}(h:H a=some (.tup xs)):Zci F H a=some (.tup xs):=by unfold Zci; rw[h]
theorem ZcQ(s:Zq F H):Zq F (Zci F H):=λa o h=>by
 have:=s a o h;unfold Zci;split
 ·rename_i xs q
  rw[q]at this;exact this
 ·exact h
theorem Ext.tups(e:Ext F H F' H'):Ext F H (Zci F' H') H':=by
 have key:Ext F' H' (Zci F' H') H':=by
  refine⟨ZcQ e.sub,ZaM.refl H',λa o h=>?_,λa o h=>?_,id,λn a o h=>?_⟩
  ·unfold Zci at h
   split at h
   ·rename_i xs q; rw[q]; exact h
   ·exact e.sub a o h
  ·unfold Zci at h
   split at h
   ·rename_i xs q
    cases h;exact .inr (.inr ⟨xs,rfl,q⟩)
   ·exact .inl h
  ·unfold Zci at h
   split at h
   ·cases h; rfl
   ·exact n a o h
 exact e.trans key
inductive Zag(K:ZzS)(F H:Hp):HM.B->V->List Addr->Prop where
 | pl {d:PyData} {v:V} (r:Rep K F d v):Zag K F H (.pl d) v []
 | ol {a:Addr} {ds:List PyData} {vs:List V} (h:H a=some (.lst vs)) (r:Zt K F ds vs):Zag K F H (.ol ds) (.ref a) [a]
 | ok {a:Addr} {kvs:List (Key × PyData)} {vvs:List (Key × V)} (h:H a=some (.dK vvs)) (hk:kvs.map (·.1)=vvs.map (·.1)) (r:Zt K F (kvs.map (·.2)) (vvs.map (·.2))):Zag K F H (.ok kvs) (.ref a) [a]
 | ot {a:Addr} {kvs:List (List Key × PyData)} {vvs:List (List Key × V)} (h:H a=some (.dT vvs)) (hk:kvs.map (·.1)=vvs.map (·.1)) (r:Zt K F (kvs.map (·.2)) (vvs.map (·.2))):Zag K F H (.ot kvs) (.ref a) [a]
 | otl {a:Addr} {kvs:List (List Key × List PyData)} {vvs:List (List Key × V)} {ls:List Addr} (h:H a=some (.dT vvs)) (hk:kvs.map (·.1)=vvs.map (·.1)) (hv:vvs.map (·.2)=ls.map V.ref)
   (r:∀(i:Nat) (ds:List PyData) (l:Addr),(kvs.map (·.2))[i]?=some ds->ls[i]?=some l->∃vs,H l=some (.lst vs)/\Zt K F ds vs):Zag K F H (.otl kvs) (.ref a) (a::ls)
 | hd {a:Addr} {o:Obj} {es:List (PyData × PyData)} {kvs:List (List Key × PyData)} {vvs:List (List Key × V)} (h:F a=some (.frz o (.dT vvs))) (he:es=HM.Zn kvs) (hk:kvs.map (·.1)=vvs.map (·.1)) (r:Zt K F (kvs.map (·.2)) (vvs.map (·.2))):Zag K F H (.hd es) (.ref a) []
 | hf {a:Addr} {t:Nat} {cs:List PyData} (h:FX.fv t cs F a):Zag K F H (.hd [(.none,.int (Int.ofNat t)),(.none,.list cs)]) (.ref a) []
section
variable{K:ZzS}{F F' H H':Hp}{b:HM.B}{v:V}{fp:List Addr}
theorem Zag.mono(r:Zag K F H b v fp)(s:Zq F F')(k:∀a∈fp,∀o,H a=some o->Zdq H' a o):Zag K F' H' b v fp:=by
 cases r with
 | pl r=>exact .pl (r.mono s)
 | ol h r=>exact .ol (k _ (by simp) _ h) (r.mono s)
 | ok h hk r=>exact .ok (k _ (by simp) _ h) hk (r.mono s)
 | ot h hk r=>exact .ot (k _ (by simp) _ h) hk (r.mono s)
 | hd h he hk r=>exact .hd (s _ _ h) he hk (r.mono s)
 | hf h=>exact .hf (FX.mono h s)
 | otl h hk hv r=>refine .otl (k _ (by simp) _ h) hk hv λi ds l h1 h2=>?_;obtain⟨vs,q1,q2⟩:=r i ds l h1 h2;exact⟨vs,k l (ZzU _ (ZAo h2)) _ q1,q2.mono s⟩
theorem Zag.there2(r:Zag K F H b v fp)(h:a∈fp):∃o,H a=some o/\Zmr o=true:=by
 cases r with
 | pl r=>simp at h
 | hd _ _ _ _=>simp at h
 | hf _=>simp at h
 | ol q r=>simp at h; subst h; exact⟨_,q,rfl⟩
 | ok q hk r=>simp at h; subst h; exact⟨_,q,rfl⟩
 | ot q hk r=>simp at h; subst h; exact⟨_,q,rfl⟩
 | @otl a' kvs vvs ls q hk hv r =>
  rcases Zz7.mp h with e | e
  ·subst e; exact⟨_,q,rfl⟩
  ·obtain⟨i,hi⟩:=List.getElem?_of_mem e
   have hl:kvs.length=ls.length:=by have e1:=congrArg ZAF hk;have e2:=congrArg ZAF hv;rw[ZzP,ZzP]at e1 e2;omega
   have hi':i<kvs.length:=by rw[hl]; exact(Zz5.mp hi).1
   obtain⟨vs,q1,_⟩:=r i (kvs[i].2) a (by simp[hi']) hi;exact⟨_,q1,rfl⟩
theorem Zag.there'(r:Zag K F H b v fp)(h:a∈fp):∃o,H a=some o/\∀xs,o≠.tup xs:=by
 cases r with
 | pl r=>simp at h
 | hd _ _ _ _=>simp at h
 | hf _=>simp at h
 | ol q r=>simp at h; subst h; exact⟨_,q,λ_ z=>by cases z⟩
 | ok q hk r=>simp at h; subst h; exact⟨_,q,λ_ z=>by cases z⟩
 | ot q hk r=>simp at h; subst h; exact⟨_,q,λ_ z=>by cases z⟩
 | @otl a' kvs vvs ls q hk hv r =>
  rcases Zz7.mp h with e | e
  ·subst e; exact⟨_,q,λ_ z=>by cases z⟩
  ·obtain⟨i,hi⟩:=List.getElem?_of_mem e
   have hl:kvs.length=ls.length:=by have e1:=congrArg ZAF hk;have e2:=congrArg ZAF hv;rw[ZzP,ZzP]at e1 e2;omega
   have hi':i<kvs.length:=by rw[hl]; exact(Zz5.mp hi).1
   obtain⟨vs,q1,_⟩:=r i (kvs[i].2) a (by simp[hi']) hi;exact⟨_,q1,λ_ z=>by cases z⟩
theorem Zag.there(r:Zag K F H b v fp)(h:a∈fp):∃o,H a=some o:=let ⟨o,q,_⟩:=r.there' h; ⟨o,q⟩
end
structure Zbt(K:ZzS)(F0 H0 F H:Hp)(r:HM.Env)(σ:L2.St)(fp:Nat->List Addr):Prop where
 ext:Ext F0 H0 F H
 len:r.length=σ.length
 at_:∀(i:Nat) (b:HM.B),r[i]?=some (some b)->∃v,σ[i]?=some (some v)/\Zag K F H b v (fp i)
 emp:∀(i:Nat),(∀b,r[i]?≠some (some b))->fp i=[]
 own:∀(i:Nat) (a:Addr),a∈fp i->F a=none/\H0 a=none
 nd:∀i,(fp i).Nodup
 dis:∀(i j:Nat) (a:Addr),i≠j->a∈fp i->¬a∈fp j
 tb:Tb H0
 nt:NoT F0
def At(K:ZzS)(F0 H0 F H:Hp)(r:HM.Env)(σ:L2.St):Prop:=∃fp,Zbt K F0 H0 F H r σ fp
section
variable{K:ZzS}{F0 H0 F H F' H':Hp}{r:HM.Env}{σ:L2.St}{fp:Nat->List Addr}{i:Nat}{b:HM.B}{v:V}{d:PyData}
theorem Zbt.bound(e:Zbt K F0 H0 F H r σ fp)(h:a∈fp i):∃b,r[i]?=some (some b):=by
 cases q:r[i]? with
 | none=>rw[e.emp i (λb z=>by rw[q]at z; cases z)]at h; simp at h
 | some x =>
  cases x with
  | none=>rw[e.emp i (λb z=>by rw[q]at z; cases z)]at h; simp at h
  | some b=>exact⟨b,rfl⟩
theorem Zbt.there'(e:Zbt K F0 H0 F H r σ fp){a:Addr}(h:a∈fp i):∃o,H a=some o/\∀xs,o≠.tup xs:=by obtain⟨b,hb⟩:=e.bound h;obtain⟨v,_,q⟩:=e.at_ i b hb;exact q.there' h
theorem Zbt.there2(e:Zbt K F0 H0 F H r σ fp){a:Addr}(h:a∈fp i):∃o,H a=some o/\Zmr o=true:=by obtain⟨b,hb⟩:=e.bound h;obtain⟨v,_,q⟩:=e.at_ i b hb;exact q.there2 h
theorem Zbt.there(e:Zbt K F0 H0 F H r σ fp)(h:a∈fp i):∃o,H a=some o:=let ⟨o,q,_⟩:=e.there' h; ⟨o,q⟩
theorem Zbt.sub(e:Zbt K F0 H0 F H r σ fp):Zq F H:=e.ext.sub
theorem Zbt.grow(e:Zbt K F0 H0 F H r σ fp)(x:Ext F H F' H'):Zbt K F0 H0 F' H' r σ fp:=by
 refine⟨e.ext.trans x,e.len,λi b h=>?_,e.emp,λi a h=>⟨?_,(e.own i a h).2⟩,e.nd,e.dis,e.tb,e.nt⟩
 ·obtain⟨v,h1,h2⟩:=e.at_ i b h
  exact⟨v,h1,h2.mono x.ff λa _ o q=>x.hh a o q⟩
 ·cases q:F' a with
  | none=>rfl
  | some o =>
   rcases x.new a o q with z | z
   ·rw[(e.own i a h).1]at z; cases z
   ·obtain⟨o',h',hn⟩:=e.there' h
    exact(z.no h' hn).elim
theorem At.grow(e:At K F0 H0 F H r σ)(x:Ext F H F' H'):At K F0 H0 F' H' r σ:=let ⟨fp,e⟩:=e; ⟨fp,e.grow x⟩
theorem At.tb(e:At K F0 H0 F H r σ):Tb H:=let ⟨_,e⟩:=e; e.ext.tab e.tb
theorem At.tbx(e:At K F0 H0 F H r σ)(x:Ext F H F' H'):Tb H':=x.tab e.tb
theorem At.nt(e:At K F0 H0 F H r σ):NoT F:=let ⟨_,e⟩:=e; e.ext.nts e.nt
theorem At.ntx(e:At K F0 H0 F H r σ)(x:Ext F H F' H'):NoT F':=x.nts e.nt
theorem At.nt0(e:At K F0 H0 F H r σ):NoT F0:=let ⟨_,e⟩:=e; e.nt
theorem At.sub(e:At K F0 H0 F H r σ):Zq F H:=let ⟨_,e⟩:=e; e.ext.sub
theorem At.ext(e:At K F0 H0 F H r σ):Ext F0 H0 F H:=let ⟨_,e⟩:=e; e.ext
theorem At.refl(e:At K F0 H0 F H r σ):Ext F H F H:=.refl e.sub
theorem At.plain(e:At K F0 H0 F H r σ)(h:r[i]?=some (some (.pl d))):∃v,σ[i]?=some (some v)/\Rep K F d v:=by
 obtain⟨fp,e⟩:=e;obtain⟨v,h1,h2⟩:=e.at_ i _ h;generalize fp i=f at h2;cases h2 with
 | pl q=>exact⟨v,h1,q⟩
theorem At.any(e:At K F0 H0 F H r σ)(h:r[i]?=some (some b)):∃v fp,σ[i]?=some (some v)/\Zag K F H b v fp:=by obtain⟨fp,e⟩:=e;obtain⟨v,h1,h2⟩:=e.at_ i _ h;exact⟨v,_,h1,h2⟩
theorem At.store(e:At K F0 H0 F H r σ)(q:Zag K F H b v fp')(nd:fp'.Nodup)(h1:∀a∈fp',F a=none/\H0 a=none)(h2:∀fp,Zbt K F0 H0 F H r σ fp->∀j a,j≠i->a∈fp j->¬a∈fp') :
  At K F0 H0 F H (r.set i (some b)) (σ.set i (some v)):=by
 obtain⟨fp,e⟩:=e;have h2:=h2 fp e
 by_cases hi:i<r.length
 ·refine⟨λj=>if j=i then fp' else fp j,e.ext,by rw[ZBc,ZBc,e.len],λj c h=>?_,λj h=>?_,λj a h=>?_,λj=>?_,λj k a hjk h=>?_,e.tb,e.nt⟩
  ·by_cases hj:j=i
   ·subst hj
    rw[ZAM hi]at h;cases h;refine⟨v,ZAM (by rw[<-e.len]; exact hi),?_⟩;rw[if_pos rfl]; exact q
   ·rw[ZAr (ZA0 hj)]at h
    obtain⟨u,q1,q2⟩:=e.at_ j c h;refine⟨u,by rw[ZAr (ZA0 hj)]; exact q1,?_⟩;rw[if_neg hj]; exact q2
  ·by_cases hj:j=i
   ·subst hj
    exact absurd (ZAM hi) (h b)
   ·show(if j=i then fp' else fp j)=[]
    rw[if_neg hj];exact e.emp j λc z=>h c (by rw[ZAr (ZA0 hj)]; exact z)
  ·by_cases hj:j=i
   ·rw[if_pos hj]at h; exact h1 a h
   ·rw[if_neg hj]at h; exact e.own j a h
  ·show(if j=i then fp' else fp j).Nodup
   by_cases hj:j=i
   ·rw[if_pos hj]; exact nd
   ·rw[if_neg hj]; exact e.nd j
  ·show ¬a∈(if k=i then fp' else fp k)
   by_cases hj:j=i
   ·rw[if_pos hj]at h
    by_cases hk:k=i
    ·exact absurd (hj.trans hk.symm) hjk
    ·rw[if_neg hk]; exact λz=>h2 k a hk z h
   ·rw[if_neg hj]at h
    by_cases hk:k=i
    ·rw[if_pos hk]; exact h2 j a hj h
    ·rw[if_neg hk]; exact e.dis j k a hjk h
 ·have e1:r.set i (some b)=r:=ZD9 (by omega)
  have e2:σ.set i (some v)=σ:=ZD9 (by have:=e.len; omega);rw[e1,e2];exact⟨fp,e⟩
theorem At.set(e:At K F0 H0 F H r σ)(q:Rep K F d v):At K F0 H0 F H (r.set i (some (.pl d))) (σ.set i (some v)) :=
 e.store (.pl q) ZBB (λa h=>by simp at h) λ_ _ _ _ _ _ h=>by simp at h
theorem Zbt.changeW(e:Zbt K F0 H0 F H r σ fp)(hv:σ[i]?=some (some v))(q:Zag K F H' b v fp')(nd:fp'.Nodup)(h1:∀a∈fp',a∈fp i\/(F a=none/\H0 a=none/\∀j,a ∉ fp j))
  (h2:∀a o,H a=some o->¬a∈fp i->H' a=some o):At K F0 H0 F H' (r.set i (some b)) σ:=by
 have sF:Zq F H':=λa o z=>h2 a o (e.sub a o z) λm=>by rw[(e.own i a m).1]at z; cases z
 have sH:ZaM H0 H':=λa o z=>by
  have nm:¬a∈fp i:=λm=>by rw[(e.own i a m).2]at z; cases z
  have y:=e.ext.hh a o z;cases o<;>first | exact h2 a _ y nm | (obtain⟨ps,q⟩:=y; exact⟨ps,h2 a _ q nm⟩)
 have sT:Tb H0->Tb H':=λt=>(e.ext.tab t).keep λa o z ho=>h2 a o z λm=>by obtain⟨o',q1,q2⟩:=e.there2 m;rw[z]at q1; cases q1; exact ZtF q2 ho
 have e':Zbt K F0 H0 F H' (r.set i none) (σ.set i none) (λj=>if j=i then[]else fp j):=by
  refine⟨⟨e.ext.ff,sH,sF,e.ext.new,sT,e.ext.nts⟩,by rw[ZBc,ZBc,e.len],λj c h=>?_,λj h=>?_,λj a h=>?_,λj=>?_,λj k a hjk h=>?_,e.tb,e.nt⟩
  ·by_cases hj:j=i
   ·subst hj
    by_cases hi:j<r.length
    ·rw[ZAM hi]at h; cases h
    ·rw[ZEA (by rw[ZBc]; omega)]at h; cases h
   ·rw[ZAr (ZA0 hj)]at h
    obtain⟨u,q1,q2⟩:=e.at_ j c h;refine⟨u,by rw[ZAr (ZA0 hj)]; exact q1,?_⟩;rw[if_neg hj];exact q2.mono (Zq.refl F) λa ha o z=>.of (h2 a o z (e.dis j i a hj ha))
  ·show(if j=i then[]else fp j)=[]
   by_cases hj:j=i
   ·rw[if_pos hj]
   ·rw[if_neg hj]
    exact e.emp j λc z=>h c (by rw[ZAr (ZA0 hj)]; exact z)
  ·by_cases hj:j=i
   ·rw[if_pos hj]at h; simp at h
   ·rw[if_neg hj]at h; exact e.own j a h
  ·show(if j=i then[]else fp j).Nodup
   by_cases hj:j=i
   ·rw[if_pos hj]; exact ZBB
   ·rw[if_neg hj]; exact e.nd j
  ·show ¬a∈(if k=i then[]else fp k)
   by_cases hj:j=i
   ·rw[if_pos hj]at h; simp at h
   ·rw[if_neg hj]at h
    by_cases hk:k=i
    ·rw[if_pos hk]; simp
    ·rw[if_neg hk]; exact e.dis j k a hjk h
 have hF:∀a∈fp',F a=none/\H0 a=none:=λa ha=>by
  rcases h1 a ha with z | z
  ·exact e.own i a z
  ·exact⟨z.1,z.2.1⟩
 have e2:=At.store (i:=i) ⟨_,e'⟩ q nd hF λfq eq j a hj ha z=>by
  obtain⟨c,hc⟩:=eq.bound ha;rw[ZAr (ZA0 hj)]at hc;obtain⟨u1,s1,r1⟩:=eq.at_ j c (by rw[ZAr (ZA0 hj)]; exact hc);obtain⟨u2,s2,r2⟩:=e.at_ j c hc;rw[ZAr (ZA0 hj),s2]at s1;cases s1;have hm:a∈fp j:=by
   have r2':=r2.mono (H':=H') (Zq.refl F) λa ha o z=>.of (h2 a o z (e.dis j i a hj ha))
   clear r2
   generalize fq j=f1 at r1 ha;generalize fp j=f2 at r2' ⊢;cases r1 with
   | pl _=>simp at ha
   | hd _ _ _ _=>simp at ha
   | hf _=>simp at ha
   | ol _ _=>cases r2' with | ol _ _=>exact ha
   | ok _ _ _=>cases r2' with | ok _ _ _=>exact ha
   | ot _ _ _=>cases r2' with | ot _ _ _=>exact ha
   | otl a1 _ v1 _ =>
    cases r2' with
    | otl a2 _ v2 _ =>
     rw[a1]at a2;cases a2;rw[v1]at v2;have:∀{l l':List Addr},l.map V.ref=l'.map V.ref->l=l':=by
      intro l
      induction l with
      | nil=>intro l' h; cases l' with | nil=>rfl | cons _ _=>simp at h
      | cons x xs ih =>
       intro l' h;cases l' with
       | nil=>simp at h
       | cons y ys =>
        rw[ZzZ,ZzZ]at h;injection h with h1 h2
        injection h1 with h1
        rw[h1,ih h2]
     rw[<-this v2]; exact ha
  rcases h1 a z with w | w
  ·exact e.dis j i a hj hm w
  ·exact w.2.2 j hm
 rw[ZDs,ZDs]at e2;have es:σ.set i (some v)=σ:=by have hi:i<σ.length:=(Zz5.mp hv).1;have hq:σ[i]=some v:=(Zz5.mp hv).2;rw[<-hq];exact ZCA hi
 rwa [es]at e2
theorem Zbt.change(e:Zbt K F0 H0 F H r σ fp)(hv:σ[i]?=some (some v))(q:Zag K F H' b v fp')(nd:fp'.Nodup)(h1:∀a∈fp',a∈fp i\/H a=none)
  (h2:∀a o,H a=some o->¬a∈fp i->H' a=some o):At K F0 H0 F H' (r.set i (some b)) σ :=
 e.changeW hv q nd (λa ha=>(h1 a ha).imp id λz=>⟨e.sub.free z,e.ext.hh.free z,λj hj=>by obtain⟨o,ho⟩:=e.there hj;rw[z]at ho; cases ho⟩) h2
theorem At.storeNew{Hb:Hp}(e:At K F0 H0 F H r σ)(hb:At K F0 H0 F' Hb r σ)(sb:ZaM Hb H)(q:Zag K F H b v fp')(nd:fp'.Nodup)(h1:∀a∈fp',F a=none/\Hb a=none) :
  At K F0 H0 F H (r.set i (some b)) (σ.set i (some v)):=by
 refine e.store q nd (λa h=>⟨(h1 a h).1,hb.ext.hh.free (h1 a h).2⟩) λfp e1 j a hj ha z=>?_;obtain⟨fq,eb⟩:=hb;obtain⟨c,hc⟩:=e1.bound ha;obtain⟨u1,s1,r1⟩:=e1.at_ j c hc;obtain⟨u2,s2,r2⟩:=eb.at_ j c hc;rw[s2]at s1;cases s1;have hn:=(h1 a z).2;have old:∀{x:Addr} {o o':HO},Hb x=some o->H x=some o'->(∀ps,o'≠.tbl ps)->o=o':=λ{x o o'} h1 h2 n=>sb.back h1 h2 n;generalize fp j=f1 at r1 ha;generalize fq j=f2 at r2;cases r1 with
 | pl _=>simp at ha
 | hd _ _ _ _=>simp at ha
 | hf _=>simp at ha
 | ol k _=>cases r2 with | ol k' _=>simp at ha; subst ha; rw[hn]at k'; cases k'
 | ok k _ _=>cases r2 with | ok k' _ _=>simp at ha; subst ha; rw[hn]at k'; cases k'
 | ot k _ _=>cases r2 with | ot k' _ _=>simp at ha; subst ha; rw[hn]at k'; cases k'
 | otl k _ v1 _ =>
  cases r2 with
  | otl k' hk' v2 r2' =>
   have eo:=old k' k λ_ z=>by cases z
   injection eo with eo
   subst eo;have v2':=v2;rw[v1]at v2;rcases Zz7.mp ha with z2 | z2
   ·subst z2; rw[hn]at k'; cases k'
   ·have:V.ref a∈ZDD V.ref _:=Zz1.mpr ⟨a,z2,rfl⟩
    rw[v2]at this;obtain⟨a',m1,m2⟩:=Zz1.mp this;injection m2 with m2
    subst m2;obtain⟨o,ho⟩:=Zag.there (Zag.otl k' hk' v2' r2') (ZzU _ m1);rw[hn]at ho; cases ho
theorem At.rebase(e:At K F0 H0 F H r σ):At K F H0 F H r σ:=by obtain⟨fp,e⟩:=e;exact⟨fp,⟨Zq.refl F,e.ext.hh,e.ext.sub,λ_ _ z=>.inl z,e.ext.tab,id⟩,e.len,e.at_,e.emp,e.own,e.nd,e.dis,e.tb,e.ext.nts e.nt⟩
theorem Ext.unbase{F1:Hp}(x:Ext F0 H0 F1 H1)(y:Ext F1 H0 F H):Ext F0 H0 F H :=
 ⟨x.ff.trans y.ff,y.hh,y.sub,λa o z=>(y.new a o z).elim (λq=>x.new a o q) .inr,y.tab,λt=>y.nts (x.nts t)⟩
theorem At.unbase{F1 H1:Hp}(x:Ext F0 H0 F1 H1)(n:NoT F0)(e:At K F1 H0 F H r σ):At K F0 H0 F H r σ:=by obtain⟨fp,e⟩:=e;exact⟨fp,x.unbase e.ext,e.len,e.at_,e.emp,e.own,e.nd,e.dis,e.tb,n⟩
theorem Zbt.freeze{fp:Nat->List Addr}(e:Zbt K F0 H0 F H r σ fp)(i:Nat){b:HM.B}{d:PyData}(hb:r[i]?=some (some b))(h1:σ[i]?=some (some (.ref a)))(hfp:fp i=[a])(ha:H a=some ob)(hr:Zq F (upd F a ob)->Rep K (upd F a ob) d (.ref a))(no:HP.nt ob=true:=by rfl) :
  ∃F',Ext F0 H0 F' H/\Zq F F'/\At K F0 H0 F' H (r.set i (some (.pl d))) σ:=by
 have hF:F a=none:=(e.own i a (by rw[hfp]; simp)).1;have s:Zq F (upd F a ob):=Zq.upd' hF;have x:Ext F0 H0 (upd F a ob) H:=by
  refine⟨e.ext.ff.trans s,e.ext.hh,λc o z=>?_,λc o z=>?_,e.ext.tab,λt=>(e.ext.nts t).upd no⟩
  ·by_cases hc:c=a
   ·subst hc; rw[ZF]at z; cases z; exact ha
   ·rw[ZB hc]at z; exact e.sub c o z
  ·by_cases hc:c=a
   ·subst hc; exact .inr (.inl (e.own i c (by rw[hfp]; simp)).2)
   ·rw[ZB hc]at z; exact e.ext.new c o z
 refine⟨_,x,s,?_⟩;have e1:Zbt K F0 H0 (upd F a ob) H (r.set i none) (σ.set i none) (λj=>if j=i then[]else fp j):=by
  refine⟨x,by rw[ZBc,ZBc,e.len],λj c h=>?_,λj h=>?_,λj c h=>?_,λj=>?_,λj k c hjk h=>?_,e.tb,e.nt⟩
  ·by_cases hj:j=i
   ·subst hj
    rw[ZAM (Zz5.mp hb).1]at h; cases h
   ·rw[ZAr (ZA0 hj)]at h
    obtain⟨u,q1,q2⟩:=e.at_ j c h;refine⟨u,by rw[ZAr (ZA0 hj)]; exact q1,?_⟩;rw[if_neg hj]; exact q2.mono s λ_ _ _ z=>.of z
  ·show(if j=i then[]else fp j)=[]
   by_cases hj:j=i
   ·rw[if_pos hj]
   ·rw[if_neg hj]
    exact e.emp j λc z=>h c (by rw[ZAr (ZA0 hj)]; exact z)
  ·by_cases hj:j=i
   ·rw[if_pos hj]at h; simp at h
   ·rw[if_neg hj]at h
    have hca:c≠a:=λz=>e.dis j i c hj h (by rw[hfp,z]; simp);exact⟨by rw[ZB hca]; exact(e.own j c h).1,(e.own j c h).2⟩
  ·show(if j=i then[]else fp j).Nodup
   by_cases hj:j=i
   ·rw[if_pos hj]; exact ZBB
   ·rw[if_neg hj]; exact e.nd j
  ·show ¬c∈(if k=i then[]else fp k)
   by_cases hj:j=i
   ·rw[if_pos hj]at h; simp at h
   ·rw[if_neg hj]at h
    by_cases hk:k=i
    ·rw[if_pos hk]; simp
    ·rw[if_neg hk]; exact e.dis j k c hjk h
 have rp:=hr s;have e2:=At.set (i:=i) ⟨_,e1⟩ rp;rw[ZDs,ZDs]at e2;have es:σ.set i (some (.ref a))=σ:=by have hi:i<σ.length:=(Zz5.mp h1).1;have hq:σ[i]=some (.ref a):=(Zz5.mp h1).2;rw[<-hq];exact ZCA hi
 rwa [es]at e2
theorem At.freeze(e:At K F0 H0 F H r σ)(i:Nat):∃F',Ext F0 H0 F' H/\Zq F F'/\At K F0 H0 F' H (HM.ZlR i r) σ:=by
 unfold HM.ZlR;split
 ·rename_i ds hb
  obtain⟨fp,e⟩:=e;obtain⟨v,h1,h2⟩:=e.at_ i _ hb;generalize hfp:fp i=f at h2;cases h2 with
  | @ol a _ vs ha q=>exact e.freeze i hb h1 hfp ha λs=>.lst (.of ZF) q.1 (q.mono s).2
 ·rename_i kvs hb
  obtain⟨fp,e⟩:=e;obtain⟨v,h1,h2⟩:=e.at_ i _ hb;generalize hfp:fp i=f at h2;cases h2 with
  | @ot a _ vvs ha hk q=>exact e.freeze i hb h1 hfp ha λs=>.dct (.inl ZF) rfl hk (q.mono s).2
 ·exact⟨F,e.ext,Zq.refl F,e⟩
end
inductive Now(K:ZzS)(r:HM.Env)(σ:L2.St)(H:Hp)(C:Hp->Hp->Hp->Prop):Prop
 | mk (F0 H0 F:Hp) (at_:At K F0 H0 F H r σ) (k:C F0 H0 F):Now K r σ H C
end HP
namespace HP
open PySem PySem.Spec PyProof.Rows L2
variable{X:Cx}{f:HM.AF}{r:HM.Env}{F:Hp}{i:Int}{es rest:List Expr}{j:Nat}{g:PyData->PyData->Option PyData}{K:ZzS}{x:Str}
variable[FX]
def tAt(K:ZzS)(r:HM.Env)(P:Hp->Hp->Hp->V->Prop):TE:=λσ H Q=>Now K r σ H λF0 H0 F=>∀v F' H',Ext F H F' H'->P H F' H' v->Q v H'
def XE(X:Cx)(e:Expr)(f:HM.EF):Prop:=∀r d,f r=some d->PE X e (tAt X.K r λ_ F' _ v=>Rep X.K F' d v)
def XB(X:Cx)(e:Expr)(f:HM.BF):Prop:=∀r b,f r=some b->PE X e (tAt X.K r λ_ F' H' v=>∃fp,Zag X.K F' H' b v fp)
def XF(X:Cx)(e:Expr)(f:HM.BF):Prop:=∀r b,f r=some b->PE X e (tAt X.K r λH F' H' v=>∃fp,Zag X.K F' H' b v fp/\fp.Nodup/\∀a∈fp,F' a=none/\H a=none)
def XT(X:Cx)(e:Expr)(f:HM.TF):Prop:=∀r c,f r=some c->PT X e λσ H Q=>Now X.K r σ H λF0 H0 F=>∀F' H',Ext F H F' H'->Q c H'
def XW(X:Cx)(e:Expr)(f:HM.TF):Prop:=∀r c,f r=some c->PW X e λσ H Q=>Now X.K r σ H λF0 H0 F=>∀F' H',Ext F H F' H'->Q c H'
structure XA(X:Cx)(es:List Expr)(f:HM.AF):Prop where
 len:∀r ds,f r=some ds->ds.length=es.length
 pa:∀r ds,f r=some ds->PA X es λσ H Q=>Now X.K r σ H λF0 H0 F=>∀vs F' H',Ext F H F' H'->Zt X.K F' ds vs->Q vs H'
def ItD(K:ZzS)(J:It)(ds:List PyData)(F:Hp):Prop:=∀F' H,Zq F F'->Zq F' H ->
 (∀(i:Nat) (d:PyData),ds[i]?=some d->J.go i H/\∀x H',J.yld i H x H'->H'=H/\Rep K (Zci F' H) d x)/\J.stop ds.length H
def XI(X:Cx)(tg e:Expr)(f:HM.IF):Prop:=∀r ds,f r=some ds->PI X tg e λσ H R=>Now X.K r σ H λF0 H0 F=>∀J F' H',Ext F H F' H'->ItD X.K J ds F'->R J H'
def Zzs(K:ZzS)(F0 H0:Hp)(o:HM.Out)(E:Ends):Prop:=match o with
 | .nx r=>∀σ F H,At K F0 H0 F H r σ->E.nx σ H
 | .rt d=>∀v F H,Ext F0 H0 F H->Rep K F d v->E.rt v H
 | .bk r=>∀σ F H,At K F0 H0 F H r σ->E.bk σ H
 | .ct r=>∀σ F H,At K F0 H0 F H r σ->E.ct σ H
def tSt(K:ZzS)(r:HM.Env)(o:HM.Out):TS:=λE σ H=>Now K r σ H λF0 H0 F=>Zzs K F0 H0 o E
def XS(X:Cx)(st:Stmt)(g:HM.SF):Prop:=∀r o,g r=some o->PS X st (tSt X.K r o)
def XSs(X:Cx)(sts:List Stmt)(g:HM.SF):Prop:=∀r o,g r=some o->PSs X sts (tSt X.K r o)
theorem PE.imp{e:Expr}{t u:TE}(h:PE X e t)(hi:∀σ H Q,u σ H Q->t σ H Q):PE X e u:=λpins s σ H Q I q=>h pins s σ H Q I (hi σ H Q q)
theorem PT.imp{e:Expr}{t u:TT}(h:PT X e t)(hi:∀σ H Q,u σ H Q->t σ H Q):PT X e u:=λpins s σ H Q I q=>h pins s σ H Q I (hi σ H Q q)
theorem PW.imp{e:Expr}{t u:TT}(h:PW X e t)(hi:∀σ H Q,u σ H Q->t σ H Q):PW X e u:=λwh pins s σ H Q I q=>h wh pins s σ H Q I (hi σ H Q q)
theorem PA.imp{t u:TA}(h:PA X es t)(hi:∀σ H Q,u σ H Q->t σ H Q):PA X es u:=λp pins s σ H Q I q=>h p pins s σ H Q I (hi σ H Q q)
theorem PS.imp{st:Stmt}{t u:TS}(h:PS X st t)(hi:∀E σ H,u E σ H->t E σ H):PS X st u:=λpins s σ H E I q=>h pins s σ H E I (hi E σ H q)
theorem PSs.imp{sts:List Stmt}{t u:TS}(h:PSs X sts t)(hi:∀E σ H,u E σ H->t E σ H):PSs X sts u:=λpins s σ H E I q=>h pins s σ H E I (hi E σ H q)
section
variable{X:Cx}{a b c e:Expr}{fa fb fc:HM.EF}{pos p:Pos}
theorem Zu3{i:Nat}{d:PyData}(h:HM.Za i r=some d):r[i]?=some (some (.pl d)):=by
 unfold HM.Za at h;split at h
 ·rename_i q; cases h; exact q
 ·cases h
theorem Zvm{i:Nat}{d:HM.B}(h:HM.Zo i r=some d):r[i]?=some (some d):=by
 unfold HM.Zo at h;split at h
 ·rename_i q; cases h; exact q
 ·cases h
theorem Zb(i:Nat){pos:Pos}(hN:X.N[i]?=some x:=by rfl)(hv:Vis X.env.scope x:=by first | exact ZAB rfl | exact ZAj (ZAB rfl) | exact ZAj (ZAj rfl))(hd:(x==("__debug__":Str))=false:=by decide)
  (hcd:(x==("__classdict__":Str))=false:=by decide):XE X (.Name x pos) (HM.Za i):=by
 intro r d h;refine PE.imp (Zcg hN hv hd hcd) λσ H Q ⟨F0,H0,F,at_,k⟩=>?_;obtain⟨v,h1,h2⟩:=at_.plain (Zu3 h);exact⟨v,h1,k v F H at_.refl h2⟩
theorem Zp(i:Nat){pos:Pos}(hN:X.N[i]?=some x:=by rfl)(hv:Vis X.env.scope x:=by first | exact ZAB rfl | exact ZAj (ZAB rfl) | exact ZAj (ZAj rfl))(hd:(x==("__debug__":Str))=false:=by decide)
  (hcd:(x==("__classdict__":Str))=false:=by decide):XB X (.Name x pos) (HM.Zo i):=by
 intro r d h;refine PE.imp (Zcg hN hv hd hcd) λσ H Q ⟨F0,H0,F,at_,k⟩=>?_;obtain⟨v,fp,h1,h2⟩:=at_.any (Zvm h);exact⟨v,h1,k v F H at_.refl ⟨fp,h2⟩⟩
theorem ZeY{v:V}{d:PyData}(h:PE X e (tC v))(r:∀F,Rep X.K F d v):XE X e (HM.eC d):=by intro r' d' h';cases h';exact PE.imp h λσ H Q ⟨F0,H0,F,at_,k⟩=>k v F H at_.refl (r F)
theorem Zj:XE X (.Constant (.int i) j pos) (HM.eC (.int i)):=ZeY Zth λ_=>.int i
theorem Zcz{q:Bool}:XE X (.Constant (.bool q) j pos) (HM.eC (.bool q)):=ZeY ZyN λ_=>.bl q
theorem Zbx:XE X (.Constant .none j pos) (HM.eC .none):=ZeY Zs2 λ_=>.non
theorem Zsw:XE X (.Constant (.str x) j pos) (HM.eC (.str x)):=ZeY Zyb λ_=>.str x
theorem Zgb(hm:∃t,X.mg x=some (.int i t))(hg:Gl X x:=by rfl)(hd:(x==("__debug__":Str))=false:=by decide):XE X (.Name x pos) (HM.eC (.int i)):=by obtain⟨t,hm⟩:=hm;exact ZeY (Zru hg hm (v:=.int i) ⟨t,rfl⟩ hd) λ_=>.int i
theorem ZwM{p':Pos}:XE X (.UnaryOp .USub (.Constant (.int i) j p') pos) (HM.eC (.int (-i))):=by intro r d h;cases h;intro pins s σ H Q I q;obtain⟨F0,H0,F,at_,k⟩:=q;refine UnaryOp_ (thn (Zth pins s σ H (λv H'=>v=.int i/\H'=H) I ⟨rfl,rfl⟩) λu s1 ⟨x,H1,I1,r1,e1,e2⟩=>?_);subst e1 e2;obtain⟨t,rfl⟩:=r1;exact neg_int ⟨.int (-i),H1,I1.tok _,⟨_,rfl⟩,k _ F H1 at_.refl (.int _)⟩
theorem Z6(h:XE X e fa):XB X e (HM.bOf fa):=by intro r b hb;obtain⟨d,h1,h2⟩:=ZzR.mp hb;subst h2;exact PE.imp (h r d h1) λσ H Q ⟨F0,H0,F,at_,k⟩=>⟨F0,H0,F,at_,λv F' H' x q=>k v F' H' x ⟨[],.pl q⟩⟩
theorem ZaW{f:HM.BF}(h:XF X e f):XB X e f:=λr b hb=>PE.imp (h r b hb) λσ H Q ⟨F0,H0,F,at_,k⟩=>⟨F0,H0,F,at_,λv F' H' x ⟨fp,q,_⟩=>k v F' H' x ⟨fp,q⟩⟩
theorem Zcw{f:HM.BF}(h:XF X e f):XE X e (HM.eOf f):=by
 intro r d hd;unfold HM.eOf at hd;obtain⟨b,h1,h2⟩:=ZC7.mp hd;refine PE.imp (h r b h1) λσ H Q ⟨F0,H0,F,at_,k⟩=>⟨F0,H0,F,at_,λv F' H' x ⟨fp,q,_,hn⟩=>?_⟩;cases q with
 | pl q=>cases h2;exact k v F' H' x q
 | @ol l ds vs hl q =>
  cases h2;have hF:F' l=none:=(hn l (by simp)).1;have s:Zq F' (upd F' l (.lst vs)):=Zq.upd' hF;refine k _ (upd F' l (.lst vs)) H' ⟨x.ff.trans s,x.hh,λc o z=>?_,λc o z=>?_,x.tab,λt=>(x.nts t).upd rfl⟩ (.lst (.of ZF) q.1 (q.mono s).2)
  ·by_cases hc:c=l
   ·subst hc; rw[ZF]at z; cases z; exact hl
   ·rw[ZB hc]at z; exact x.sub c o z
  ·by_cases hc:c=l
   ·subst hc; exact .inr (.inl (hn c (by simp)).2)
   ·rw[ZB hc]at z; exact x.new c o z
 | @ot l kvs vvs hl hk q =>
  cases h2;have hF:F' l=none:=(hn l (by simp)).1;have s:Zq F' (upd F' l (.dT vvs)):=Zq.upd' hF;refine k _ (upd F' l (.dT vvs)) H' ⟨x.ff.trans s,x.hh,λc o z=>?_,λc o z=>?_,x.tab,λt=>(x.nts t).upd rfl⟩ (.dct (.inl ZF) rfl hk (q.mono s).2)
  ·by_cases hc:c=l
   ·subst hc; rw[ZF]at z; cases z; exact hl
   ·rw[ZB hc]at z; exact x.sub c o z
  ·by_cases hc:c=l
   ·subst hc; exact .inr (.inl (hn c (by simp)).2)
   ·rw[ZB hc]at z; exact x.new c o z
 | ok _ _ _=>cases h2
 | hd h3 h4 h5 h6=>cases h2; exact k _ F' H' x (.dct (.inr ⟨_,h3⟩) h4 h5 h6.2)
 | hf h3=>cases h2; exact k _ F' H' x (.fn h3)
 | otl _ _ _ _=>cases h2
def Bin(K:ZzS)(r:R2)(g:PyData->PyData->Option PyData):Prop:=∀(F H:Hp) (x y z:PyData) (v w:V) (Q:VK),Zq F H->g x y=some z->Rep K F x v->Rep K F y w->(∀u,Rep K F z u->Q u H)->r v w H Q
structure Zps(X:Cx)(op:Operator)(g:PyData->PyData->Option PyData):Prop where
 ex:∃r,OpR X (ZCV op) r/\Bin X.K r g
structure ZgY(X:Cx)(op:CmpOp)(g:PyData->PyData->Option PyData):Prop where
 ex:∃r,OpR X (ZA7 op) r/\Bin X.K r g
 n1:op≠.In
 n2:op≠.NotIn
theorem ZhY{d:PyData}(h:HM.op2 g fa fb r=some d):∃x y,fa r=some x/\fb r=some y/\g x y=some d:=by
 unfold HM.op2 at h;split at h
 ·split at h
  ·exact⟨_,_,by assumption,by assumption,h⟩
  ·cases h
 ·cases h
theorem two{x y:PyData}{P:Hp->Hp->Hp->V->Prop}{σ:L2.St}{H:Hp}{Q:VK}{R:V->V->Hp->VK->Prop}(h:tAt K r P σ H Q)
  (hk:∀H F2 H2 v w,Zq F2 H2->Rep K F2 x v->Rep K F2 y w->(∀u F3 H3,Ext F2 H2 F3 H3->P H F3 H3 u->Q u H3)->ZaM H H2->R v w H2 Q) :
  tOp R (tAt K r λ_ F' _ v=>Rep K F' x v) (tAt K r λ_ F' _ v=>Rep K F' y v) σ H Q:=by
 obtain⟨F0,H0,F,at_,k⟩:=h;refine⟨F0,H0,F,at_,λv F1 H1 x1 r1=>⟨F0,H0,F1,at_.grow x1,λw F2 H2 x2 r2=>?_⟩⟩;exact hk H F2 H2 v w x2.sub (r1.mono x2.ff) r2 (λu F3 H3 x3 q=>k u F3 H3 ((x1.trans x2).trans x3) q) (x1.hh.trans x2.hh)
theorem ZG{op:Operator}(o:Zps X op g)(ha:XE X a fa)(hb:XE X b fb):XE X (.BinOp a op b pos) (HM.op2 g fa fb):=by intro r d h;obtain⟨x,y,h1,h2,h3⟩:=ZhY h;obtain⟨R,o1,o2⟩:=o.ex;refine PE.imp (ZnN o1 (ha r x h1) (hb r y h2)) λσ H Q q=>?_;exact two q λ_ F2 H2 v w s r1 r2 k _=>o2 F2 H2 x y d v w Q s h3 r1 r2 λu ru=>k u F2 H2 (.refl s) ru
theorem ZdX{op:CmpOp}(o:ZgY X op g)(ha:XE X a fa)(hb:XE X b fb):XE X (.Compare a [op] [b] pos) (HM.op2 g fa fb):=by intro r d h;obtain⟨x,y,h1,h2,h3⟩:=ZhY h;obtain⟨R,o1,o2⟩:=o.ex;refine PE.imp (Zrr o1 (ha r x h1) (hb r y h2) (ZkT _ o.n1 o.n2)) λσ H Q q=>?_;exact two q λ_ F2 H2 v w s r1 r2 k _=>o2 F2 H2 x y d v w Q s h3 r1 r2 λu ru=>k u F2 H2 (.refl s) ru
theorem ZgK{c:Bool}(h:HM.tV fa r=some c):fa r=some (.bool c):=by
 unfold HM.tV at h;split at h
 ·rename_i q; cases h; exact q
 ·cases h
theorem Rep.bool_inv{c:Bool}{v:V}(h:Rep K F (.bool c) v):v=.bl c:=by cases h; rfl
theorem Rep.int_inv{v:V}(h:Rep K F (.int i) v):v=.int i:=by cases h; rfl
theorem Rep.none_inv{v:V}(h:Rep K F .none v):v=.non:=by cases h; rfl
theorem Zas{op:CmpOp}(o:ZgY X op g)(ha:XE X a fa)(hb:XE X b fb):XT X (.Compare a [op] [b] pos) (HM.tV (HM.op2 g fa fb)):=by intro r d h;obtain⟨x,y,h1,h2,h3⟩:=ZhY (ZgK h);obtain⟨R,o1,o2⟩:=o.ex;refine PT.imp (Zmf o1 (ha r x h1) (hb r y h2) (ZkT _ o.n1 o.n2)) λσ H Q ⟨F0,H0,F,at_,k⟩=>?_;refine⟨F0,H0,F,at_,λv F1 H1 x1 r1=>⟨F0,H0,F1,at_.grow x1,λw F2 H2 x2 r2=>?_⟩⟩;refine o2 F2 H2 x y _ v w _ x2.sub h3 (r1.mono x2.ff) r2 λu ru=>?_;exact⟨d,ru.bool_inv,k F2 H2 (x1.trans x2)⟩
theorem ZbK(h:XE X e fa)(he:∀whole,isTrue e X.env whole=(do let v <-whole; standAt e.pos; holding [v] (truthy v)):=by intro _; rfl):XT X e (HM.tV fa):=by intro r c hc;refine PT.imp (ZxM (h r _ (ZgK hc)) he) λσ H Q ⟨F0,H0,F,at_,k⟩=>?_;exact⟨F0,H0,F,at_,λv F1 H1 x1 r1=>⟨c,r1.bool_inv,k F1 H1 x1⟩⟩
theorem ZcY{t:HM.TF}(h:XT X a t):XT X (.UnaryOp .Not a pos) (HM.Zej t):=by intro r c hc;obtain⟨d,h1,h2⟩:=ZzR.mp hc;subst h2;refine PT.imp (Zxz (h r d h1)) λσ H Q ⟨F0,H0,F,at_,k⟩=>?_;exact⟨F0,H0,F,at_,λF1 H1 x1=>k F1 H1 x1⟩
theorem ZnX{t:HM.TF}(h:XW X e t):XT X e t:=λr c hc=>(h r c hc).pt
theorem ZiZ{t:HM.TF}(h:XT X a t):XW X (.BoolOp .Or [a] pos) t:=λr c hc=>Zyk (h r c hc)
theorem ZuR{e:Expr}:PW X e λ_ _ _=>False:=λ_ _ _ _ _ _ _ h=>h.elim
theorem ZiC{e:Expr}:PE X e λ_ _ _=>False:=λ_ _ _ _ _ _ h=>h.elim
theorem Zld{t u:HM.TF}(ha:XT X a t)(hb:XW X (.BoolOp .Or (b::rest) pos) u):XW X (.BoolOp .Or (a::b::rest) pos) (HM.tOr t u):=by
 intro r c hc;unfold HM.tOr at hc;split at hc
 ·rename_i q
  cases hc;refine PW.imp (Zvz (ha r true q) ZuR) λσ H Q ⟨F0,H0,F,at_,k⟩=>?_;exact⟨F0,H0,F,at_,λF1 H1 x1=>ZpG (k F1 H1 x1)⟩
 ·rename_i q
  refine PW.imp (Zvz (ha r false q) (hb r c hc)) λσ H Q ⟨F0,H0,F,at_,k⟩=>?_;exact⟨F0,H0,F,at_,λF1 H1 x1=>ZoJ ⟨F0,H0,F1,at_.grow x1,λF2 H2 x2=>k F2 H2 (x1.trans x2)⟩⟩
 ·cases hc
theorem ZdY{op:BoolOp}(h:XE X a fa):XE X (.BoolOp op [a] pos) fa:=λr d hd=>Zxh (h r d hd)
theorem Zdr(ha:XE X a fa)(hb:XE X (.BoolOp .And (b::rest) pos) fb):XE X (.BoolOp .And (a::b::rest) pos) (HM.ZeT fa fb):=by
 intro r d hd;unfold HM.ZeT at hd;split at hd
 ·rename_i q
  refine PE.imp (Ztt (ha r _ q) (hb r d hd)) λσ H Q ⟨F0,H0,F,at_,k⟩=>?_;exact⟨F0,H0,F,at_,λv F1 H1 x1 r1=>⟨true,r1.bool_inv,ZpG ⟨F0,H0,F1,at_.grow x1,λw F2 H2 x2 r2=>k w F2 H2 (x1.trans x2) r2⟩⟩⟩
 ·rename_i q
  cases hd;refine PE.imp (Ztt (ha r _ q) ZiC) λσ H Q ⟨F0,H0,F,at_,k⟩=>?_;exact⟨F0,H0,F,at_,λv F1 H1 x1 r1=>⟨false,r1.bool_inv,ZoJ (k _ F1 H1 x1 (.bl false))⟩⟩
 ·cases hd
theorem ZwN(ha:XE X a fa):XE X (.UnaryOp .Not a pos) (HM.Zup fa):=by
 intro r d hd;unfold HM.Zup at hd;split at hd
 ·rename_i c q
  cases hd;refine PE.imp (Zxu (ha r _ q)) λσ H Q ⟨F0,H0,F,at_,k⟩=>?_;exact⟨F0,H0,F,at_,λv F1 H1 x1 r1=>⟨c,r1.bool_inv,k _ F1 H1 x1 (.bl _)⟩⟩
 ·cases hd
theorem ZrB{t:HM.TF}(hc:XT X c t)(ha:XE X a fa)(hb:XE X b fb):XE X (.IfExp c a b pos) (HM.eIf t fa fb):=by
 intro r d hd;unfold HM.eIf at hd;split at hd
 ·rename_i q
  refine PE.imp (Zpg (hc r _ q) (ha r d hd) ZiC) λσ H Q ⟨F0,H0,F,at_,k⟩=>?_;exact⟨F0,H0,F,at_,λF1 H1 x1=>ZpG ⟨F0,H0,F1,at_.grow x1,λw F2 H2 x2 r2=>k w F2 H2 (x1.trans x2) r2⟩⟩
 ·rename_i q
  refine PE.imp (Zpg (hc r _ q) ZiC (hb r d hd)) λσ H Q ⟨F0,H0,F,at_,k⟩=>?_;exact⟨F0,H0,F,at_,λF1 H1 x1=>ZoJ ⟨F0,H0,F1,at_.grow x1,λw F2 H2 x2 r2=>k w F2 H2 (x1.trans x2) r2⟩⟩
 ·cases hd
theorem ZnY{op op':CmpOp}{g':PyData->PyData->Option PyData}(o:ZgY X op g)(o':ZgY X op' g')(ha:XE X a fa)(hb:XE X b fb)(hc:XE X c fc)
  (hm:lastMarks [op,op'] [b,c]=false:=by with_unfolding_all rfl):XE X (.Compare a [op,op'] [b,c] pos) (HM.ZlT g g' fa fb fc):=by
 intro r d hd;unfold HM.ZlT at hd;obtain⟨R,o1,o2⟩:=o.ex;obtain⟨R',o1',o2'⟩:=o'.ex;split at hd
 ·rename_i x hx
  split at hd
  ·rename_i y hy
   split at hd
   ·rename_i hg
    split at hd
    ·rename_i z hz
     refine PE.imp (ZpU o1 o1' (ha r x hx) (hb r y hy) (hc r z hz) hm) λσ H Q ⟨F0,H0,F,at_,k⟩=>?_;refine⟨F0,H0,F,at_,λv F1 H1 x1 r1=>⟨F0,H0,F1,at_.grow x1,λw F2 H2 x2 r2=>?_⟩⟩;refine o2 F2 H2 x y _ v w _ x2.sub hg (r1.mono x2.ff) r2 λu ru=>?_;refine⟨true,ru.bool_inv,ZpG ⟨F0,H0,F2,(at_.grow x1).grow x2,λw' F3 H3 x3 r3=>?_⟩⟩;exact o2' F3 H3 y z d w w' Q x3.sub hd (r2.mono x3.ff) r3 λu' ru'=>k u' F3 H3 ((x1.trans x2).trans x3) ru'
    ·cases hd
   ·rename_i hg
    cases hd;refine PE.imp (ZpU o1 o1' (ha r x hx) (hb r y hy) ZiC hm) λσ H Q ⟨F0,H0,F,at_,k⟩=>?_;refine⟨F0,H0,F,at_,λv F1 H1 x1 r1=>⟨F0,H0,F1,at_.grow x1,λw F2 H2 x2 r2=>?_⟩⟩;refine o2 F2 H2 x y _ v w _ x2.sub hg (r1.mono x2.ff) r2 λu ru=>?_;exact⟨false,ru.bool_inv,ZoJ (k _ F2 H2 (x1.trans x2) (.bl false))⟩
   ·cases hd
  ·cases hd
 ·cases hd
theorem Zf:XA X [] HM.Zi:=by refine⟨λr ds h=>by cases h; rfl,λr ds h=>?_⟩;cases h;exact PA.imp Zb2 λσ H Q ⟨F0,H0,F,at_,k⟩=>k [] F H at_.refl .nil
theorem Zd(ha:XE X e fa)(hr:XA X es f)(hs:Zz6 (e::es) X.env=(false,eval e X.env)::Zz6 es X.env:=by rfl):XA X (e::es) (HM.Zc fa f):=by
 refine⟨λr ds h=>?_,λr ds h=>?_⟩
 ·unfold HM.Zc at h
  split at h
  ·obtain⟨xs,h1,h2⟩:=ZzR.mp h
   subst h2;rw[Zz8,Zz8,hr.len r xs h1]
  ·cases h
 unfold HM.Zc at h;split at h
 ·rename_i x hx
  obtain⟨xs,h1,h2⟩:=ZzR.mp h;subst h2;refine PA.imp (ZaB (ha r x hx) (hr.pa r xs h1) hs) λσ H Q ⟨F0,H0,F,at_,k⟩=>?_;exact⟨F0,H0,F,at_,λv F1 H1 x1 r1=>⟨F0,H0,F1,at_.grow x1,λvs F2 H2 x2 r2=>k (v::vs) F2 H2 (x1.trans x2) (.cons (r1.mono x2.ff) r2)⟩⟩
 ·cases h
theorem Zbq{x1:Nat}(h:XA X es f)(hl:es.length<=100:=by exact Nat.le_of_ble_eq_true rfl):XE X (.Tuple es x1 pos) (HM.Za9 f):=by
 intro r d hd;obtain⟨ds,h1,h2⟩:=ZzR.mp hd;subst h2;refine PE.imp (Zxy (h.pa r ds h1)) λσ H Q ⟨F0,H0,F,at_,k⟩=>⟨F0,H0,F,at_,λvs F1 H1 x1 r1=>⟨?_,λp hp=>?_⟩⟩
 ·have e1:=h.len r ds h1
  have e2:=r1.1;have e3:(100:Nat)<=sizeLine:=by decide
  omega
 ·have hF:F1 p=none:=x1.sub.free hp
  exact k _ (upd F1 p (.tup vs)) _ (x1.lay hp) (.tup ZF r1.1 (r1.mono (Zq.upd' hF)).2)
theorem ZbL(h:XA X es f)(hl:es.length<=100:=by exact Nat.le_of_ble_eq_true rfl):XF X (.List es pos) (HM.Zdj f):=by
 intro r d hd;obtain⟨ds,h1,h2⟩:=ZzR.mp hd;subst h2;refine PE.imp (Zyn (h.pa r ds h1)) λσ H Q ⟨F0,H0,F,at_,k⟩=>⟨F0,H0,F,at_,λvs F1 H1 x1 r1=>⟨?_,λp hp=>?_⟩⟩
 ·have e1:=h.len r ds h1
  have e2:=r1.1;have e3:(100:Nat)<=sizeLine:=by decide
  omega
 ·have hF:F1 p=none:=x1.sub.free hp
  refine k _ F1 _ (x1.lay' hp) ⟨[p],.ol ZF r1,by simp,λa ha=>?_⟩;have:a=p:=by simpa using ha
  subst this;exact⟨hF,x1.hh.free hp⟩
end
end HP
namespace HP
open PySem PySem.Spec PyProof.Rows L2
variable{f:Addr}{fd:FuncData}{g:HM.SF}{base:Heap}{N ps:List Str}{p':Pos}{P:Program}{K:ZzS}{st:Stmt}{qual x:Str}{mg:Str->Option Value}{w:World}
variable[FX]
section
variable{X:Cx}{a b c e:Expr}{fa fb fc:HM.EF}{pos p:Pos}{st:Stmt}{rest:List Stmt}{g u:HM.SF}
theorem Zj0(h:X.xe=λ_ _=>False):PassesOwn (model X.prog X.w) X.A X.env X.xe:=by rw[h]; exact PassesOwn.never
theorem Z1:XSs X [] HM.Zay:=by intro r o h;cases h;exact PSs.imp Zwk λE σ H ⟨F0,H0,F,at_,k⟩=>k σ F H at_
theorem Zk(h:XS X st g):XSs X [st] g:=λr o ho=>Zrk (h r o ho)
theorem Zh(h1:XS X st g)(h2:XSs X rest u):XSs X (st::rest) (HM.Zu g u):=by
  intro r o h
  unfold HM.Zu at h
  split at h
  · rename_i r' q
    refine PSs.imp (Ziy (h1 r _ q) (h2 r' o h)) λE σ H ⟨F0,H0,F,at_,k⟩=>?_
    exact⟨F0,H0,F,at_,λσ' F' H' at'=>⟨F0,H0,F',at',k⟩⟩
  all_goals first
    | cases h
      rename_i q
      refine PSs.imp (Ziy (h1 r _ q) Zhf) λE σ H ⟨F0,H0,F,at_,k⟩=>?_
      exact⟨F0,H0,F,at_,k⟩
    | cases h
theorem Zh3:XS X st HM.ZjV:=λr o h=>nomatch h
theorem Zz(h:XE X e fa):XS X (.Return (some e) pos) (HM.ZE fa):=by intro r o ho;obtain⟨d,h1,h2⟩:=ZzR.mp ho;subst h2;refine PS.imp (Zo9 (h r d h1)) λE σ H ⟨F0,H0,F,at_,k⟩=>?_;exact⟨F0,H0,F,at_,λv F' H' x q=>k v F' H' (at_.ext.trans x) q⟩
theorem Zj3(h:XE X e fa)(hs:ZBT e none pos.line X.env=pure false:=by rfl):XS X (.Expr e pos) (HM.ZlW fa):=by intro r o ho;obtain⟨d,h1,h2⟩:=ZzR.mp ho;subst h2;refine PS.imp (Zh1 (h r d h1) hs) λE σ H ⟨F0,H0,F,at_,k⟩=>?_;exact⟨F0,H0,F,at_,λv F' H' x q=>k σ F' H' (at_.grow x)⟩
theorem ZaK{t:HM.TF}{sa sb:List Stmt}(hc:XT X c t)(ha:XSs X sa g)(hb:XSs X sb u):XS X (.If c sa sb pos) (HM.sIf t g u):=by
 intro r o ho;unfold HM.sIf at ho;split at ho
 ·rename_i q
  refine PS.imp (ZvD (hc r _ q) (ha r o ho) Zhf) λE σ H ⟨F0,H0,F,at_,k⟩=>?_;exact⟨F0,H0,F,at_,λF' H' x=>ZpG ⟨F0,H0,F',at_.grow x,k⟩⟩
 ·rename_i q
  refine PS.imp (ZvD (hc r _ q) Zhf (hb r o ho)) λE σ H ⟨F0,H0,F,at_,k⟩=>?_;exact⟨F0,H0,F,at_,λF' H' x=>ZoJ ⟨F0,H0,F',at_.grow x,k⟩⟩
 ·cases ho
theorem ZcZ(i:Nat)(h:XS X st g):XS X st (HM.ZeR i g):=by intro r o ho;refine PS.imp (h (HM.ZlR i r) o ho) λE σ H ⟨F0,H0,F,at_,k⟩=>?_;obtain⟨F',_,_,a'⟩:=at_.freeze i;exact⟨F0,H0,F',a',k⟩
theorem ZP(i:Nat)(hN:X.N.Nodup)(h:XE X e fa)(hi:X.N[i]?=some x:=by rfl)(hx:Loc X.env.scope x:=by first | exact ZAB rfl | exact ZAj rfl)
  (hs:ZBT e (some (.Name x p')) pos.line X.env=pure false:=by rfl) (hf:X.fn x=true\/X.env.scope.names.lookup x=some .local:=by first | exact .inl rfl | exact .inr rfl) :
  XS X (.Assign [.Name x p'] e pos) (HM.Z4 i fa):=by
 intro r o ho;obtain⟨d,h1,h2⟩:=ZzR.mp ho;subst h2;refine PS.imp (Zo6 hN hi hx (h r d h1) hs hf) λE σ H ⟨F0,H0,F,at_,k⟩=>?_;exact⟨F0,H0,F,at_,λv F' H' x q=>k _ F' H' ((at_.grow x).set q)⟩
theorem Zaz(i:Nat){f:HM.BF}(hN:X.N.Nodup)(h:XF X e f)(hi:X.N[i]?=some x:=by rfl)(hx:Loc X.env.scope x:=by first | exact ZAB rfl | exact ZAj rfl)
  (hs:ZBT e (some (.Name x p')) pos.line X.env=pure false:=by rfl) (hf:X.fn x=true\/X.env.scope.names.lookup x=some .local:=by first | exact .inl rfl | exact .inr rfl) :
  XS X (.Assign [.Name x p'] e pos) (HM.ZW i f):=by
 intro r o ho;obtain⟨d,h1,h2⟩:=ZzR.mp ho;subst h2;refine PS.imp (Zo6 hN hi hx (h r d h1) hs hf) λE σ H ⟨F0,H0,F,at_,k⟩=>?_;exact⟨F0,H0,F,at_,λv F' H' x ⟨fp,q,nd,hn⟩=>k _ F' H' ((at_.grow x).storeNew at_ x.hh q nd hn)⟩
theorem ZbM(i:Nat){iter:Expr}{body:List Stmt}{fi:HM.IF}(hN:X.N.Nodup)(hxe:X.xe=λ_ _=>False)(hc:X.calm=true)(hi:XI X (.Name x p') iter fi)(hb:XSs X body g)(hix:X.N[i]?=some x:=by rfl)
  (hx:Loc X.env.scope x:=by first | exact ZAB rfl | exact ZAj rfl) (hf:X.fn x=true\/X.env.scope.names.lookup x=some .local:=by first | exact .inl rfl | exact .inr rfl)
  (hs:∀x,ZBh iter X.env x=pure x:=by intro _; rfl):XS X (.For (.Name x p') iter body [] pos) (HM.Zba i fi g):=by
 intro r o ho;unfold HM.Zba at ho;split at ho
 ·rename_i ds hds
  split at ho
  ·rename_i hbig
   have pb:PSs X body (λE σ H=>∃r o,g r=some o/\tSt X.K r o E σ H):=λpins s σ H E I ⟨r,o,h1,h2⟩=>hb r o h1 pins s σ H E I h2;refine PS.imp (ZtJ (Zj0 hxe) hc (hi r ds hds) (Zge hN hix hx hf) pb hs) λE σ H ⟨F0,H0,F,at_,k⟩=>?_;refine⟨F0,H0,F,at_,λJ F1 H1 x1 it=>?_⟩;refine⟨λn m σ H=>∃F r,At X.K F0 H0 F H r σ/\Zq F1 F/\n+m=ds.length/\HM.ZaQ i g (ds.drop n) r=some o,⟨ds.length,F1,r,at_.grow x1,Zq.refl _,by omega,ho⟩,?_⟩
   rintro n m σ H ⟨F2,r2,at2,s2,hn,go⟩
   obtain⟨it1,it2⟩:=it F2 H s2 at2.sub;cases m with
   | zero =>
    have e:n=ds.length:=by omega
    subst e;rw[ZEa]at go;cases go;exact .inl ⟨it2,k σ F2 H at2⟩
   | succ m =>
    have hlt:n<ds.length:=by omega
    rw[ZCR hlt]at go;obtain⟨j1,j2⟩:=it1 n ds[n] (Zz2 hlt);refine .inr ⟨j1,λσ' H'=>∃F r,At X.K F0 H0 F H' r σ'/\Zq F1 F/\HM.ZaQ i g (ds.drop (n+1)) r=some o,λσ' H' ⟨F,r,a1,a2,a3⟩=>⟨m,by omega,F,r,a1,a2,by omega,a3⟩,λy H' hy=>?_⟩;obtain⟨e1,ry⟩:=j2 y H' hy;subst e1;obtain⟨F3,at3,s3,ry⟩:∃F3,At X.K F0 H0 F3 H' r2 σ/\Zq F1 F3/\Rep X.K F3 ds[n] y:=⟨_,at2.grow at2.refl.tups,s2.trans (ZcQ at2.sub),ry⟩;have a3:=at3.set (i:=i) ry;have a4:=a3.rebase;unfold HM.ZaQ at go;split at go
    ·rename_i r' hr
     exact⟨_,_,hr,F3,H0,F3,a4,λσ' F' H' a'=>⟨F',r',a'.unbase at3.ext at3.nt0,s3.trans a'.ext.ff,go⟩⟩
    ·rename_i r' hr
     exact⟨_,_,hr,F3,H0,F3,a4,λσ' F' H' a'=>⟨F',r',a'.unbase at3.ext at3.nt0,s3.trans a'.ext.ff,go⟩⟩
    ·rename_i r' hr
     cases go;exact⟨_,_,hr,F3,H0,F3,a4,λσ' F' H' a'=>k σ' F' H' (a'.unbase at3.ext at3.nt0)⟩
    ·rename_i d hr
     cases go;exact⟨_,_,hr,F3,H0,F3,a4,λv F' H' x q=>k v F' H' (at3.ext.unbase x) q⟩
    ·cases go
  ·cases ho
 ·cases ho
end
def spD(K:ZzS)(n:Nat)(M:List PyData->Option PyData):Sp:=λvs H Q _=>∃F ds d,vs.length=n/\Zq F H/\Tb H/\NoT F/\Zt K F ds vs/\M ds=some d/\∀v F' H',Ext F H F' H'->Rep K F' d v->Q v H'
structure Callee(P:Program)(w:World)(K:ZzS)(mg:Str->Option Value)(base:Heap)(k:Nat)(x:Str)(M:List PyData->Option PyData):Prop where
 ex:∃f fd ps,(∀ds d,M ds=some d->ds.length=ps.length)/\ZdG P w K mg base CX0 k f fd ps (spD K ps.length M)/\mg x=some (.ref f)/\ZBo K (.ref f)=true/\Binds K fd ps []
theorem Callee.mono{P:Program}{w:World}{K:ZzS}{mg:Str->Option Value}{base:Heap}{j k:Nat}{x:Str}{M:List PyData->Option PyData}(C:Callee P w K mg base j x M)(h:j<=k):Callee P w K mg base k x M:=by obtain⟨f,fd,ps,l,F,r⟩:=C.ex;exact⟨f,fd,ps,l,F.mono h,r⟩
section
variable{X:Cx}{pos p:Pos}{e:Expr}{es:List Expr}{f:HM.AF}
theorem Zl{k:Nat}{M:List PyData->Option PyData}(C:Callee X.prog X.w X.K X.mg X.base k x M)(hr:Zav k X.A)(ha:XA X (e::es) f)(hg:Gl X x:=by rfl)(hdb:(x==("__debug__":Str))=false:=by decide)
  (he:Zz6 (e::es) X.env=(false,eval e X.env)::Zz6 es X.env:=by rfl) (hpl:(backTo pos (Zz6 es X.env)).any (·.1)=false:=by rfl):XE X (.Call (.Name x p) (e::es) [] pos) (HM.Zm M f):=by
 intro r d hd;unfold HM.Zm at hd;split at hd
 ·rename_i ds hds
  obtain⟨fa,fd,ps,hl,F,hm,hk,hb⟩:=C.ex;refine PE.imp (Zme (E:=E0) F hr hg hm hk hb .nil Zr0 (ha.pa r ds hds) hdb he hpl) λσ H Q ⟨F0,H0,F1,at_,k⟩=>?_;refine⟨F0,H0,F1,at_,λvs F' H' x q=>?_⟩;show spD X.K ps.length M (vs++[]) H' Q E0;rw[ZAE];exact⟨F',ds,d,by rw[<-q.1]; exact hl ds d hd,x.sub,at_.tbx x,at_.ntx x,q,hd,λv F2 H2 x2 q2=>k v F2 H2 (x.trans x2) q2⟩
 ·cases hd
end
theorem ZgS{F H:Hp}{ds:List PyData}{vs:List V}(s:Zq F H)(tb:Tb H)(nt:NoT F)(q:Zt K F ds vs)(hl:ds.length<=N.length):At K F H F H (HM.ZeQ N.length ds) (L2.start N vs):=by
 have hv:=q.1;refine⟨λ_=>[],.refl s,?_,λi b h=>?_,λ_ _=>rfl,λi a h=>by simp at h,λ_=>ZBB,λi j a _ h=>by simp at h,tb,nt⟩
 ·unfold HM.ZeQ L2.start
  rw[ZAb,ZAb,ZzP,ZzP,ZAI,ZAI,hv]
 ·unfold HM.ZeQ at h
  by_cases hi:i<ds.length
  ·rw[ZAw (by rw[ZzP]; exact hi),ZAk,Zz2 hi]at h
   cases h;obtain⟨v,h1,h2⟩:=q.get (Zz2 hi);refine⟨v,?_,.pl h2⟩;unfold L2.start;rw[ZAw (by rw[ZzP,<-hv]; exact hi),ZAk,h1];rfl
  ·rw[ZAG (by rw[ZzP]; omega),ZCr]at h
   split at h<;>cases h
theorem Zrm{k:Nat}(Fn:Fun K x qual st f fd)(S:Zs N ps (Ze st))
  (body:∀(cdv:Value) (A:Around) (outer:List Env) (s:Shared) (H:Hp) (E:XK),Zav k (A.deeper (envOfC qual (Ze st) s.heap.objs.size f cdv))->XSs (ZgF CX0 P w K mg base N qual (Ze st) f cdv A outer s H E).nox (Za7 st) g) :
  ZdG P w K mg base CX0 (k+1) f fd ps (spD K ps.length (HM.fnOf ps.length N.length g)):=by
 have hpl:ps.length<=N.length:=by have:=congrArg ZAF S.pre; rw[ZBz]at this; omega
 refine Fn.ok S (λvs H Q E h=>?_) (λcdv A outer s H vs Q E hr h=>?_)
 ·obtain⟨_,_,_,h,_⟩:=h
  exact h
 ·obtain⟨F,ds,d,hl,sub,tb,nt,q,hM,kk⟩:=h
  unfold HM.fnOf at hM;split at hM
  ·rename_i hds
   have a0:=ZgS (N:=N) sub tb nt q (by omega);split at hM
   ·rename_i r hr'
    cases hM;exact⟨_,body cdv A outer s H E hr _ _ hr',F,H,F,a0,λσ F' H' a'=>kk .non F' H' a'.ext .non⟩
   ·rename_i d' hr'
    cases hM;exact⟨_,body cdv A outer s H E hr _ _ hr',F,H,F,a0,λv F' H' x q=>kk v F' H' x q⟩
   ·cases hM
  ·cases hM
theorem Zr{k:Nat}(Fn:Fun K x qual st f fd)(S:Zs N ps (Ze st))(hm:mg x=some (.ref f))(hb:Binds K fd ps [])
  (body:∀(cdv:Value) (A:Around) (outer:List Env) (s:Shared) (H:Hp) (E:XK),Zav k (A.deeper (envOfC qual (Ze st) s.heap.objs.size f cdv))->XSs (ZgF CX0 P w K mg base N qual (Ze st) f cdv A outer s H E).nox (Za7 st) g) :
  Callee P w K mg base (k+1) x (HM.fnOf ps.length N.length g):=by
 refine⟨f,fd,ps,λds d h=>?_,Zrm Fn S body,hm,Fn.kp,hb⟩;unfold HM.fnOf at h;split at h
 ·assumption
 ·cases h
end HP
namespace HP
open PySem PySem.Spec PyProof.Rows L2
variable{q:HM.B}{F H:Hp}{ds:List PyData}{K:ZzS}
variable[FX]
section
variable{X:Cx}{a b c e:Expr}{fa fb fc:HM.EF}{pos p:Pos}
theorem ZgH{h:Int->Int->Option PyData}{x y z:PyData}(e:HM.ZfW h x y=some z):∃i j,x=.int i/\y=.int j/\h i j=some z:=by
 unfold HM.ZfW at e;split at e
 ·exact⟨_,_,rfl,rfl,e⟩
 ·cases e
theorem ZoE{g:Int->Int->V}{h:Int->Int->PyData}(hr:∀F i j,Rep K F (h i j) (g i j)):Bin K (rI0 g) (HM.ZfW λi j=>some (h i j)):=by intro F H x y z v w Q s e r1 r2 k;obtain⟨i,j,rfl,rfl,e⟩:=ZgH e;cases e;exact⟨i,j,r1.int_inv,r2.int_inv,k _ (hr F i j)⟩
theorem Zbn:Zps X .Add HM.ZaE:=⟨_,Zx6,ZoE λ_ _ _=>.int _⟩
theorem Zt9:Zps X .Sub HM.ZmE:=⟨_,ZxX,ZoE λ_ _ _=>.int _⟩
theorem ZeV:Zps X .Mult HM.Zcv:=by
 refine⟨_,Zw6,λF H x y z v w Q s e r1 r2 k=>?_⟩;obtain⟨i,j,rfl,rfl,e'⟩:=ZgH e;split at e'
 ·rename_i hs
  cases e';refine⟨i,j,r1.int_inv,r2.int_inv,?_,k _ (.int _)⟩;unfold HM.Z3 at hs;rw[ZBd,ZC3,ZC3]at hs;unfold Zsp;omega
 ·cases e'
theorem oMod:Zps X .Mod HM.Zuz:=by
 refine⟨_,ZxO,λF H x y z v w Q s e r1 r2 k=>?_⟩;obtain⟨i,j,rfl,rfl,e'⟩:=ZgH e;split at e'
 ·rename_i hs
  cases e';exact⟨i,j,r1.int_inv,r2.int_inv,hs,k _ (.int _)⟩
 ·cases e'
theorem cLt:ZgY X .Lt HM.gLt:=⟨⟨_,ZyJ,ZoE λ_ _ _=>.bl _⟩,by decide,by decide⟩
theorem cLe:ZgY X .LtE HM.gLe:=⟨⟨_,ZyO,ZoE λ_ _ _=>.bl _⟩,by decide,by decide⟩
theorem cGt:ZgY X .Gt HM.gGt:=⟨⟨_,ZyL,ZoE λ_ _ _=>.bl _⟩,by decide,by decide⟩
theorem Rep.non_iff{d:PyData}{v:V}(h:Rep K F d v):decide (v=.non)=match d with | .none=>true | _=>false:=by cases h<;>first | rfl | exact decide_eq_false (λz=>nomatch z)
theorem ZjQ:ZgY X .Is HM.Zfd:=by
 refine⟨⟨_,Zx0,λF H x y z v w Q s e r1 r2 k=>?_⟩,by decide,by decide⟩;unfold HM.Zfd at e;split at e
 ·refine⟨r2.none_inv,k _ ?_⟩
  rw[r1.non_iff];split at e
  ·cases e; exact .bl _
  ·rename_i hx
   cases e;cases x<;>first | exact .bl _ | exact absurd rfl hx
 ·cases e
theorem Zsk:ZgY X .IsNot HM.Zhh:=by
 refine⟨⟨_,Zwn,λF H x y z v w Q s e r1 r2 k=>?_⟩,by decide,by decide⟩;unfold HM.Zhh at e;split at e
 ·refine⟨r2.none_inv,k _ ?_⟩
  rw[r1.non_iff];split at e
  ·cases e; exact .bl _
  ·rename_i hx
   cases e;cases x<;>first | exact .bl _ | exact absurd rfl hx
 ·cases e
theorem ZhM{h:Heap}:∀{ds:List PyData} {us:List Value},ds.length=us.length->(∀(i:Nat) d u,ds[i]?=some d->us[i]?=some u->∃as,Reads h u d as)->∃as,ReadsAll h us ds as
 | [],[],_,_=>⟨[],.nil⟩
 | [],_::_,hl,_=>by simp at hl
 | _::_,[],hl,_=>by simp at hl
 | d::ds,u::us,hl,k=>by obtain⟨as,h1⟩:=k 0 d u rfl rfl;obtain⟨bs,h2⟩:=ZhM (ds:=ds) (us:=us) (by simpa using hl) λi d u e1 e2=>k (i+1) d u (by simpa using e1) (by simpa using e2);exact⟨_,.cons h1 h2⟩
theorem Zrx:∀{ds:List PyData},ZCx ds=true->∀{i:Nat} {d:PyData},ds[i]?=some d->d.canLay0=true
 | [],_,i,d,e=>by simp at e
 | x::ds,h,i,d,e=>by
  have h':(x.canLay0&&ZCx ds)=true:=h;rw[ZAc]at h';cases i with
  | zero=>rw[ZCs]at e; cases e; exact h'.1
  | succ i=>rw[ZAA]at e; exact Zrx h'.2 e
theorem ZpO(h:ZCx ds=true){i:Nat}{d:PyData}(e:ds[i]?=some d):d.canLay0=true:=Zrx h e
theorem Rep.reads{pins:List (Addr × Obj)}{s:Shared}{σ:L2.St}{d:PyData}{v:V}(I:Inv X pins σ H s)(sub:Zq F H)(r:Rep X.K F d v):d.canLay0=true->∀u,RelV v u->∃as,Reads s.heap u d as:=by
 induction r with
 | non=>intro _ u ru; cases ru; exact⟨[],.none⟩
 | bl b=>intro _ u ru; cases ru; exact⟨[],.bool b⟩
 | int i=>intro _ u ru; obtain⟨t,rfl⟩:=ru; exact⟨[],.int i t⟩
 | str x=>intro _ u ru; obtain⟨t,rfl⟩:=ru; exact⟨[],.str x t⟩
 | dct _ _ _ _ _=>intro z; cases z
 | fn _=>intro z; cases z
 | @tupk a x h=>intro z u ru;cases ru;obtain⟨its,rv,⟨o,ho,hc,n,hd⟩,_⟩:=I.tuple (.inr h);obtain⟨u,rfl,t,rfl⟩:=rv.one;exact⟨_,.tuple ho hc hd (by simpa using ReadsAll.cons (.str x t) .nil)⟩
 | @tup a ds vs h hl _ ih =>
  intro z u ru;cases ru;obtain⟨its,rv,⟨o,ho,hc,n,hd⟩,_⟩:=I.tuple (.of (sub _ _ h));obtain⟨as,hr⟩:=ZhM (h:=s.heap) (ds:=ds) (us:=its) (hl.trans rv.length) λi d u e1 e2=>by
   have hi:i<vs.length:=by rw[<-hl]; exact(Zz5.mp e1).1
   obtain⟨u',q1,q2⟩:=rv.get (Zz2 hi);rw[e2]at q1;cases q1;exact ih i d _ e1 (Zz2 hi) (ZpO z e1) u q2
  exact⟨_,.tuple ho hc hd (by simpa using hr)⟩
 | @lst a ds vs h hl _ ih =>
  intro z u ru;cases ru;obtain⟨its,rv,⟨o,n,ho,hc,_,hd⟩,_⟩:=I.list (sub.seq h);obtain⟨as,hr⟩:=ZhM (h:=s.heap) (ds:=ds) (us:=its) (hl.trans rv.length) λi d u e1 e2=>by
   have hi:i<vs.length:=by rw[<-hl]; exact(Zz5.mp e1).1
   obtain⟨u',q1,q2⟩:=rv.get (Zz2 hi);rw[e2]at q1;cases q1;exact ih i d _ e1 (Zz2 hi) (ZpO z e1) u q2
  exact⟨_,.list ho hc hd (by simpa using hr)⟩
def ZxT(K:ZzS)(neg:Bool):R2:=λv w H Q=>∃F x y,Zq F H/\Rep K F x v/\Rep K F y w/\HM.Zao x=true/\HM.Zao y=true/\Q (.bl (if neg then !PyData.eqv x y else ZA1 x y)) H
theorem ZdP{d:PyData}(h:HM.Zao d=true):d.canLay0=true/\d.depth<=60:=by unfold HM.Zao at h;simpa using h
theorem Zyw{k:Nat}(hr:Zav k X.A):OpR X (ZA7 .Eq) (ZxT X.K false):=by intro pins s σ H v w u u' Q I r1 r2 ⟨F,x,y,sub,q1,q2,p1,p2,q⟩;obtain⟨a1,a2⟩:=ZdP p1;obtain⟨b1,b2⟩:=ZdP p2;obtain⟨as,h1⟩:=q1.reads I sub a1 u r1;obtain⟨bs,h2⟩:=q2.reads I sub b1 u' r2;refine PySem.SeqAt.eqOverData X.prog X.w X.A X.xe s u u' x y as bs _ h1 h2 a1 b1 ?_ ⟨.bl _,H,I,rfl,q⟩;have:=hr.un;have:min x.depth y.depth<=60:=ZAR (ZEl _ _) a2;omega
theorem ZyC{k:Nat}(hr:Zav k X.A):OpR X (ZA7 .NotEq) (ZxT X.K true):=by intro pins s σ H v w u u' Q I r1 r2 ⟨F,x,y,sub,q1,q2,p1,p2,q⟩;obtain⟨a1,a2⟩:=ZdP p1;obtain⟨b1,b2⟩:=ZdP p2;obtain⟨as,h1⟩:=q1.reads I sub a1 u r1;obtain⟨bs,h2⟩:=q2.reads I sub b1 u' r2;refine PySem.SeqAt.neOverData X.prog X.w X.A X.xe s u u' x y as bs _ h1 h2 a1 b1 ?_ ⟨.bl _,H,I,rfl,q⟩;have:=hr.un;have:min x.depth y.depth<=60:=ZAR (ZEl _ _) a2;omega
theorem cEq{k:Nat}(hr:Zav k X.A):ZgY X .Eq HM.gEq:=by
 refine⟨⟨_,Zyw hr,λF H x y z v w Q s e r1 r2 k=>?_⟩,by decide,by decide⟩;unfold HM.gEq at e;split at e
 ·rename_i hp
  cases e;rw[ZAc]at hp;exact⟨F,x,y,s,r1,r2,hp.1,hp.2,k _ (.bl _)⟩
 ·cases e
theorem cNe{k:Nat}(hr:Zav k X.A):ZgY X .NotEq HM.gNe:=by
 refine⟨⟨_,ZyC hr,λF H x y z v w Q s e r1 r2 k=>?_⟩,by decide,by decide⟩;unfold HM.gNe at e;split at e
 ·rename_i hp
  cases e;rw[ZAc]at hp;exact⟨F,x,y,s,r1,r2,hp.1,hp.2,k _ (.bl _)⟩
 ·cases e
theorem ZgM{v:V}{fp:List Addr}(sub:Zq F H)(r:Zag K F H q v fp)(h:HM.ZcP q=some ds):∃a vs,v=.ref a/\(SqL K H a vs\/SqT K H a vs)/\Zt K F ds vs:=by
 cases r with
 | pl r =>
  cases r with
  | tup h1 h2 h3=>cases h; exact⟨_,_,rfl,.inr (.of (sub _ _ h1)),h2,h3⟩
  | @tupk a x h1=>cases h; exact⟨_,_,rfl,.inr (.inr h1),.one (.str x)⟩
  | lst h1 h2 h3=>cases h; exact⟨_,_,rfl,.inl (sub.seq h1),h2,h3⟩
  | dct _ _ _ _=>cases h
  | fn _=>cases h
  | non=>cases h
  | bl _=>cases h
  | int _=>cases h
  | str _=>cases h
 | ol h1 r=>cases h; exact⟨_,_,rfl,.inl (.of h1),r⟩
 | ok _ _ _=>cases h
 | hd _ _ _ _=>cases h
 | hf _=>cases h
 | ot _ _ _=>cases h
 | otl _ _ _ _=>cases h
theorem ZvU{vs:List V}{i:Int}{d:PyData}(r:Zt K F ds vs)(h:HM.atD ds i=some d):∃v,atI vs i=some v/\Rep K F d v:=by
 unfold HM.atD at h;split at h
 ·rename_i j hj
  obtain⟨v,h1,h2⟩:=r.get h;refine⟨v,?_,h2⟩;unfold atI;rw[<-r.1,show ixN ds.length i=some j from hj];exact h1
 ·cases h
theorem ZL{fb':HM.BF}(ha:XB X a fb')(hb:XE X b fb)(hs:Zrh b:=by intro _ _; rfl):XE X (.Subscript a b pos) (HM.eIx fb' fb):=by
 intro r d h;unfold HM.eIx at h;split at h
 ·rename_i x hx
  split at h
  ·rename_i ds hds
   split at h
   ·rename_i i hi
    refine PE.imp (ZyR ZxV (ha r x hx) (hb r _ hi) hs) λσ H Q ⟨F0,H0,F,at_,k⟩=>?_;refine⟨F0,H0,F,at_,λv F1 H1 x1 ⟨fp,r1⟩=>⟨F0,H0,F1,at_.grow x1,λw F2 H2 x2 r2=>?_⟩⟩;obtain⟨l,vs,e1,hq,rs⟩:=ZgM x2.sub (r1.mono x2.ff λ_ _ _ z=>x2.hh _ _ z) hds;obtain⟨u,hu,ru⟩:=ZvU rs h;have fin:=k u F2 H2 (x1.trans x2) ru;rcases hq with hq | hq
    ·exact .inl ⟨l,vs,i,u,e1,r2.int_inv,hq,hu,fin⟩
    ·exact .inr (.inl ⟨l,vs,i,u,e1,r2.int_inv,hq,hu,fin⟩)
   ·cases h
  ·cases h
 ·cases h
def PAB(X:Cx)(e:Expr)(r:HM.Env)(q:HM.B):Prop:=PA X [e] λσ H Q=>Now X.K r σ H λF0 H0 F=>∀v fp F' H',Ext F H F' H'->Zag X.K F' H' q v fp->Q [v] H'
theorem ZfE{f:HM.BF}{r:HM.Env}(ha:XB X e f)(h:f r=some q)(hs:Zz6 [e] X.env=[(false,eval e X.env)]:=by rfl):PAB X e r q:=by refine PA.imp (ZaB (ha r q h) Zb2 hs) λσ H Q ⟨F0,H0,F,at_,k⟩=>?_;exact⟨F0,H0,F,at_,λv F1 H1 x1 ⟨fp,r1⟩=>k v fp F1 H1 x1 r1⟩
end
end HP
namespace HP
open PySem PySem.Spec PyProof.Rows L2
variable[FX]
theorem Zxs:ZAW "all" = some (.builtin "all"):=by decide +kernel
theorem Zx5:ZAW "len" = some (.builtin "len"):=by decide +kernel
theorem Ztr:ZAW "max" = some (.builtin "max"):=by decide +kernel
theorem ZtZ:ZAW "min" = some (.builtin "min"):=by decide +kernel
theorem ZmQ:ZAW "sorted" = some (.builtin "sorted"):=by decide +kernel
theorem ZnD:ZAW "isinstance" = some (.builtin "isinstance"):=by decide +kernel
theorem Zo4:ZAW "int" = some (.type "int"):=by decide +kernel
theorem ZvZ:ZAW "bool" = some (.type "bool"):=by decide +kernel
theorem Zwa:ZAW "list" = some (.type "list"):=by decide +kernel
theorem ZkY:ZAW "tuple" = some (.type "tuple"):=by decide +kernel
theorem Zw8:ZAW "set" = some (.type "set"):=by decide +kernel
section
variable{X:Cx}{a b c e:Expr}{fa fb fc:HM.EF}{pos p:Pos}{f:HM.BF}
theorem Za8(hm:X.mg "len" = none)(ha:XB X a f)(hg:Gl X "len":=by rfl)(hs:Zz6 [a] X.env=[(false,eval a X.env)]:=by rfl):XE X (.Call (.Name "len" p) [a] [] pos) (HM.Zaf f):=by
 intro r d h;unfold HM.Zaf at h;split at h
 ·rename_i x hx
  obtain⟨n,h1,h2⟩:=ZzR.mp h;subst h2;refine PE.imp (ZdJ (Zpl.or ZsN) hg hm Zx5 (ZfE ha hx hs) (he:=hs)) λσ H Q ⟨F0,H0,F,at_,k⟩=>?_;refine⟨F0,H0,F,at_,λv fp F1 H1 x1 r1=>?_⟩;have fin:=λ(m:Nat) (e:m=n)=>k (.int m) F1 H1 x1 (by rw[e]; exact .int _);cases r1 with
  | pl q =>
   cases q with
   | tup q1 q2 q3=>cases h1; exact .inl ⟨_,_,rfl,.inr (.of (x1.sub _ _ q1)),fin _ q2.symm⟩
   | tupk q1=>cases h1; exact .inl ⟨_,_,rfl,.inr (.inr q1),fin _ rfl⟩
   | lst q1 q2 q3=>cases h1; exact .inl ⟨_,_,rfl,.inl (x1.sub.seq q1),fin _ q2.symm⟩
   | dct _ _ _ _=>cases h1
   | fn _=>cases h1
   | non=>cases h1
   | bl _=>cases h1
   | int _=>cases h1
   | str _=>cases h1
  | ol q1 q2=>cases h1; exact .inl ⟨_,_,rfl,.inl (.of q1),fin _ q2.1.symm⟩
  | ok q1 q2 q3=>cases h1;refine .inr ⟨_,_,rfl,q1,fin _ ?_⟩;have:=congrArg ZAF q2;rw[ZzP,ZzP]at this;exact this.symm
  | ot _ _ _=>cases h1
  | otl _ _ _ _=>cases h1
  | hd _ _ _ _=>cases h1
  | hf _=>cases h1
 ·cases h
theorem Zaj(hm:X.mg "tuple" = none)(ha:XB X a f)(hg:Gl X "tuple":=by rfl)(hs:Zz6 [a] X.env=[(false,eval a X.env)]:=by rfl):XE X (.Call (.Name "tuple" p) [a] [] pos) (HM.Zan f):=by
 intro r d h;unfold HM.Zan at h;split at h
 ·rename_i x hx
  obtain⟨ds,h1,h2⟩:=ZzR.mp h;subst h2;refine PE.imp (ZdD ZnK hg hm ZkY (ZfE ha hx hs) (he:=hs)) λσ H Q ⟨F0,H0,F,at_,k⟩=>?_;refine⟨F0,H0,F,at_,λv fp F1 H1 x1 r1=>?_⟩;have new:∀(vs:List V),Zt X.K F1 ds vs->∀l,H1 l=none->Q (.ref l) (upd H1 l (.tup vs)):=λvs q l hl=>k _ (upd F1 l (.tup vs)) _ (x1.lay hl) (.tup ZF q.1 (q.mono (Zq.upd' (x1.sub.free hl))).2);cases r1 with
  | pl q =>
   cases q with
   | tup q1 q2 q3=>cases h1; exact⟨_,_,rfl,.inr ⟨.of (x1.sub _ _ q1),k _ F1 H1 x1 (.tup q1 q2 q3)⟩⟩
   | tupk q1=>cases h1; exact⟨_,_,rfl,.inr ⟨.inr q1,k _ F1 H1 x1 (.tupk q1)⟩⟩
   | lst q1 q2 q3=>cases h1; exact⟨_,_,rfl,.inl ⟨x1.sub.seq q1,new _ ⟨q2,q3⟩⟩⟩
   | dct _ _ _ _=>cases h1
   | fn _=>cases h1
   | non=>cases h1
   | bl _=>cases h1
   | int _=>cases h1
   | str _=>cases h1
  | ol q1 q2=>cases h1; exact⟨_,_,rfl,.inl ⟨.of q1,new _ q2⟩⟩
  | ok _ _ _=>cases h1
  | ot _ _ _=>cases h1
  | otl _ _ _ _=>cases h1
  | hd _ _ _ _=>cases h1
  | hf _=>cases h1
 ·cases h
theorem Zed{K:ZzS}{F H F1 H1:Hp}{ds:List PyData}{vs:List V}{l:Addr}{P:V->Hp->Hp->Prop}(x1:Ext F H F1 H1)(q:Zt K F1 ds vs)(hl:H1 l=none)
  (k:∀v F' H',Ext F H F' H'->(∃fp,Zag K F' H' (.ol ds) v fp/\fp.Nodup/\∀a∈fp,F' a=none/\H a=none)->P v F' H'):P (.ref l) F1 (upd H1 l (.lst vs)):=by
 refine k _ F1 _ (x1.lay' hl) ⟨[l],.ol ZF q,by simp,λa ha=>?_⟩;have:a=l:=by simpa using ha
 subst this;exact⟨x1.sub.free hl,x1.hh.free hl⟩
theorem Zi0(hm:X.mg "list" = none)(ha:XB X a f)(hg:Gl X "list":=by rfl)(hs:Zz6 [a] X.env=[(false,eval a X.env)]:=by rfl):XF X (.Call (.Name "list" p) [a] [] pos) (HM.ZhU f):=by
 intro r d h;unfold HM.ZhU at h;split at h
 ·rename_i x hx
  obtain⟨ds,h1,h2⟩:=ZzR.mp h;subst h2;refine PE.imp (ZdD ZoQ hg hm Zwa (ZfE ha hx hs) (he:=hs)) λσ H Q ⟨F0,H0,F,at_,k⟩=>?_;refine⟨F0,H0,F,at_,λv fp F1 H1 x1 r1=>?_⟩;obtain⟨l,vs,e1,hq,rs⟩:=ZgM x1.sub r1 h1;subst e1;exact⟨l,vs,rfl,hq,λl' hl'=>Zed (P:=λv _ H'=>Q v H') x1 rs hl' k⟩
 ·cases h
theorem ZlF{K:ZzS}{F:Hp}:∀{ds:List PyData} {vs:List V} {bs:List Bool},HM.ZeU ds=some bs->Zt K F ds vs->vs=bs.map V.bl
 | [],vs,bs,h,r=>by cases h;exact r.nil_inv
 | d::ds,vs,bs,h,r=>by
  obtain⟨v,us,rfl,r1,r2⟩:=r.cons_inv;cases d with
  | bool b=>obtain⟨bs',h1,h2⟩:=ZzR.mp h;subst h2;rw[r1.bool_inv,ZlF h1 r2];rfl
  | none=>cases h
  | int _=>cases h
  | str _=>cases h
  | list _=>cases h
  | tuple _=>cases h
  | dict _=>cases h
end
end HP
namespace HP
open PySem PySem.Spec PyProof.Rows L2
variable{p2:Pos}
variable[FX]
section
variable{X:Cx}{a b c e:Expr}{fa fb fc:HM.EF}{pos p:Pos}{f:HM.BF}
theorem ZqO:∀{bs:List Bool} {us:List Value},Vals (bs.map V.bl) us->LSm.BoolsAre us bs:=by
 intro bs
 induction bs with
 | nil=>intro us r; rw[ZB4]at r; cases r; exact .nil
 | cons b bs ih =>
  intro us r;rw[ZzZ]at r;cases r with
  | cons r1 r2=>cases r1;exact .cons b (ih r2)
theorem Zxv{A:Around}{s:Shared}{l:Addr}{vs:List Value}{bs:List Bool}{dflt:Bool}(hh:A.handled=none)(hl:s.heap.IsList l vs.toArray)(hb:LSm.BoolsAre vs bs){E:Value->Shared->Prop}{Q:Value->Shared->Prop}{prog:Program}{w:World}
  (h:∀it fp wr (P:Nat->Value->Prop) St,Walks prog w A it fp wr vs.length P St->St 0 (s.heap.push { cls:=.type "list_iterator",data:=.fields #[.ref l,rawInt 0] })->TruthOf prog w A P (λi=>(bs[i]?).getD dflt)->wr=[s.heap.objs.size]->it=s.heap.objs.size->Q (.ref it) { s with heap:=s.heap.push { cls:=.type "list_iterator",data:=.fields #[.ref l,rawInt 0] } }) :
  wpAny (model prog w) A (pyIter (.ref l)) Q E s:=by
 have hlt:l<s.heap.objs.size:=let ⟨_,e,_⟩:=hl; Zz9 e
 refine ZDW hl ?_;have W:=Walks.list (prog:=prog) (w:=w) hh s.heap.objs.size l (ZAf hlt) vs.toArray;rw[ZAd]at W;refine h _ _ _ _ _ W ⟨⟨_,ZAa _ rfl,rfl,rfl⟩,hl.push _⟩ (λi v s' Q' E' hP hQ=>?_) rfl rfl;obtain⟨b,e,rfl⟩:=hb.get i v (by simpa using hP);simp only[e,Option.getD_some]at hQ;exact ZBE hQ
theorem Ztv(hc:X.calm=true):Zbh X (.builtin "all") (λxs H Q=>∃(p:Addr) (bs:List Bool),xs=[.ref p]/\SqL X.K H p (bs.map V.bl)/\Q (.bl (bs.all id)) H):=by intro pins s σ H xs us Q I r h;obtain⟨p,bs,rfl,hq,q⟩:=h;obtain⟨u,rfl,rx⟩:=vals1 r;cases rx;obtain⟨its,rv,pl,hz⟩:=I.list hq;have hb:=ZqO rv;refine call_all_walk (Zxv (dflt:=true) (A:=X.A.in1) (I.ok.hd hc) pl.isList hb λit fp wr P St W st tr e1 e2=>?_);subst e1 e2;refine⟨_,_,_,_,P,St,_,rfl,W,st,tr,λh' tk hk=>?_⟩;rw[hb.length,LSm.range_all bs];exact⟨.bl _,H,I.kept (LSm.kept_iter hk),rfl,q⟩
theorem Zek{K:ZzS}{F H:Hp}{q:HM.B}{v:V}{fp:List Addr}{ds:List PyData}(sub:Zq F H)(r:Zag K F H q v fp)(h:HM.ZjU q=some ds):∃a vs,v=.ref a/\SqL K H a vs/\Zt K F ds vs:=by
 cases r with
 | pl r =>
  cases r with
  | lst h1 h2 h3=>cases h; exact⟨_,_,rfl,sub.seq h1,h2,h3⟩
  | dct _ _ _ _=>cases h
  | fn _=>cases h
  | tupk _=>cases h
  | tup _ _ _=>cases h
  | non=>cases h
  | bl _=>cases h
  | int _=>cases h
  | str _=>cases h
 | ol h1 r=>cases h; exact⟨_,_,rfl,.of h1,r⟩
 | ok _ _ _=>cases h
 | hd _ _ _ _=>cases h
 | hf _=>cases h
 | ot _ _ _=>cases h
 | otl _ _ _ _=>cases h
theorem Zgf(hm:X.mg "all" = none)(hc:X.calm=true)(ha:XB X a f)(hg:Gl X "all":=by rfl)(hs:Zz6 [a] X.env=[(false,eval a X.env)]:=by rfl):XE X (.Call (.Name "all" p) [a] [] pos) (HM.ZiG f):=by
 intro r d h;unfold HM.ZiG at h;split at h
 ·rename_i x hx
  split at h
  ·rename_i ds hds
   obtain⟨bs,h1,h2⟩:=ZzR.mp h;subst h2;refine PE.imp (ZdJ (Ztv hc) hg hm Zxs (ZfE ha hx hs) (he:=hs)) λσ H Q ⟨F0,H0,F,at_,k⟩=>?_;refine⟨F0,H0,F,at_,λv fp F1 H1 x1 r1=>?_⟩;obtain⟨l,vs,e1,hq,rs⟩:=Zek x1.sub r1 hds;rw[ZlF h1 rs]at hq;exact⟨l,bs,by rw[e1],hq,k _ F1 H1 x1 (.bl _)⟩
  ·cases h
 ·cases h
theorem Zp7{tyn:String}{t:HM.Ty}(hr:∀(s:Shared) (d:PyData) (v:V) (u:Value) (Q:Value->Shared->Prop),RelV v u->(∃(K:ZzS) (F:Hp),Rep K F d v)->(∀es,d≠.dict es)->(∀x,v=.ref x->∃o,s.heap.get? x=some o/\((∃ds,d=.tuple ds/\o.cls=.type "tuple")\/(∃ds,d=.list ds/\o.cls=.type "list")\/∃ds,d=.dict ds/\o.cls=.type "dict")) ->
   (∀tk,Q (.bool (HM.Zjy t d)) { s with toks:=tk })->wpAny (model X.prog X.w) X.A (call (.builtin "isinstance") [u,.type tyn]) Q X.xe s) :
  Zbh X (.builtin "isinstance") (λxs H Q=>∃F d v,xs=[v,.ty tyn]/\Zq F H/\Rep X.K F d v/\(∀es,d≠.dict es)/\Q (.bl (HM.Zjy t d)) H):=by
 intro pins s σ H xs us Q I r h;obtain⟨F,d,v,rfl,sub,rp,nd,q⟩:=h;obtain⟨u,u',rfl,ru,ru'⟩:=vals2 r;cases(show u'=ZCf tyn from ru');refine hr s d v u _ ru ⟨_,_,rp⟩ nd (λx e=>?_) λtk=>⟨.bl _,H,I.tok tk,rfl,q⟩;subst e;cases rp with
 | tup h1 h2 h3=>obtain⟨its,rv,⟨o,ho,hc,n,hd⟩,_⟩:=I.tuple (.of (sub _ _ h1));exact⟨o,ho,.inl ⟨_,rfl,hc⟩⟩
 | tupk h1=>obtain⟨its,rv,⟨o,ho,hc,n,hd⟩,_⟩:=I.tuple (.inr h1);exact⟨o,ho,.inl ⟨_,rfl,hc⟩⟩
 | lst h1 h2 h3=>obtain⟨its,rv,⟨o,n,ho,hc,_,hd⟩,_⟩:=I.list (sub.seq h1);exact⟨o,ho,.inr (.inl ⟨_,rfl,hc⟩)⟩
 | @dct a es kvs vvs h1 _ _ _=>obtain⟨_,_,xs,_,o,es,ep,q1,q2,_⟩:=(show Zac X.prog X.w H s.heap x (.dT vvs) from Zlv I.hok (Zke h1 sub));exact⟨o,q1,.inr (.inr ⟨_,rfl,q2.1⟩)⟩
 | fn _=>exact absurd rfl (nd _)
theorem Zuv:Zbh X (.builtin "isinstance") (λxs H Q=>∃F d v,xs=[v,.ty "bool"]/\Zq F H/\Rep X.K F d v/\(∀es,d≠.dict es)/\Q (.bl (HM.Zjy .bool d)) H):=by
 refine Zp7 λs d v u Q ru ⟨K,F,rp⟩ nd ho k=>?_;cases rp with
 | non=>cases ru; exact IsiPair.NoneType_bool (k _)
 | bl _=>cases ru; exact IsiPair.bool_bool (k _)
 | int _=>obtain⟨t,rfl⟩:=ru; exact IsiPair.int_bool (k _)
 | str _=>obtain⟨t,rfl⟩:=ru; exact IsiPair.str_bool (k _)
 | tup _ _ _ | tupk _ =>
  cases ru;obtain⟨o,h1,⟨_,_,h2⟩ | ⟨_,e,_⟩ | ⟨_,e,_⟩⟩:=ho _ rfl
  ·exact IsiPair.tuple_bool h1 h2 (k _)
  ·cases e
  ·cases e
 | lst _ _ _ =>
  cases ru;obtain⟨o,h1,⟨_,e,_⟩ | ⟨_,_,h2⟩ | ⟨_,e,_⟩⟩:=ho _ rfl
  ·cases e
  ·exact IsiPair.list_bool h1 h2 (k _)
  ·cases e
 | dct _ _ _ _ =>
  cases ru;obtain⟨o,h1,⟨_,e,_⟩ | ⟨_,e,_⟩ | ⟨_,_,h2⟩⟩:=ho _ rfl
  ·cases e
  ·cases e
  ·exact IsiPair.dict_bool h1 h2 (k _)
 | fn _=>exact absurd rfl (nd _)
theorem Zv2:Zbh X (.builtin "isinstance") (λxs H Q=>∃F d v,xs=[v,.ty "int"]/\Zq F H/\Rep X.K F d v/\(∀es,d≠.dict es)/\Q (.bl (HM.Zjy .int d)) H):=by
 refine Zp7 λs d v u Q ru ⟨K,F,rp⟩ nd ho k=>?_;cases rp with
 | non=>cases ru; exact IsiPair.NoneType_int (k _)
 | bl _=>cases ru; exact IsiPair.bool_int (k _)
 | int _=>obtain⟨t,rfl⟩:=ru; exact IsiPair.int_int (k _)
 | str _=>obtain⟨t,rfl⟩:=ru; exact IsiPair.str_int (k _)
 | tup _ _ _ | tupk _ =>
  cases ru;obtain⟨o,h1,⟨_,_,h2⟩ | ⟨_,e,_⟩ | ⟨_,e,_⟩⟩:=ho _ rfl
  ·exact IsiPair.tuple_int h1 h2 (k _)
  ·cases e
  ·cases e
 | lst _ _ _ =>
  cases ru;obtain⟨o,h1,⟨_,e,_⟩ | ⟨_,_,h2⟩ | ⟨_,e,_⟩⟩:=ho _ rfl
  ·cases e
  ·exact IsiPair.list_int h1 h2 (k _)
  ·cases e
 | dct _ _ _ _ =>
  cases ru;obtain⟨o,h1,⟨_,e,_⟩ | ⟨_,e,_⟩ | ⟨_,_,h2⟩⟩:=ho _ rfl
  ·cases e
  ·cases e
  ·exact IsiPair.dict_int h1 h2 (k _)
 | fn _=>exact absurd rfl (nd _)
theorem ZtE:Zbh X (.builtin "isinstance") (λxs H Q=>∃F d v,xs=[v,.ty "tuple"]/\Zq F H/\Rep X.K F d v/\(∀es,d≠.dict es)/\Q (.bl (HM.Zjy .tuple d)) H):=by
 refine Zp7 λs d v u Q ru ⟨K,F,rp⟩ nd ho k=>?_;cases rp with
 | non=>cases ru; exact IsiPair.NoneType_tuple (k _)
 | bl _=>cases ru; exact IsiPair.bool_tuple (k _)
 | int _=>obtain⟨t,rfl⟩:=ru; exact IsiPair.int_tuple (k _)
 | str _=>obtain⟨t,rfl⟩:=ru; exact IsiPair.str_tuple (k _)
 | tup _ _ _ | tupk _ =>
  cases ru;obtain⟨o,h1,⟨_,_,h2⟩ | ⟨_,e,_⟩ | ⟨_,e,_⟩⟩:=ho _ rfl
  ·exact IsiPair.tuple_tuple h1 h2 (k _)
  ·cases e
  ·cases e
 | lst _ _ _ =>
  cases ru;obtain⟨o,h1,⟨_,e,_⟩ | ⟨_,_,h2⟩ | ⟨_,e,_⟩⟩:=ho _ rfl
  ·cases e
  ·exact IsiPair.list_tuple h1 h2 (k _)
  ·cases e
 | dct _ _ _ _ =>
  cases ru;obtain⟨o,h1,⟨_,e,_⟩ | ⟨_,e,_⟩ | ⟨_,_,h2⟩⟩:=ho _ rfl
  ·cases e
  ·cases e
  ·exact IsiPair.dict_tuple h1 h2 (k _)
 | fn _=>exact absurd rfl (nd _)
theorem ZnZ{tyn:Str}{tys:String}{t:HM.Ty}(hR:Zbh X (.builtin "isinstance") (λxs H Q=>∃F d v,xs=[v,.ty tys]/\Zq F H/\Rep X.K F d v/\(∀es,d≠.dict es)/\Q (.bl (HM.Zjy t d)) H))(bt:ZAW tyn=some (.type tys))
  (hm:X.mg "isinstance" = none) (hm2:X.mg tyn=none) (ha:XE X a fa) (hg:Gl X "isinstance") (hg2:Gl X tyn) (hn:tyn ≠ "__name__") (hd:(tyn==("__debug__":Str))=false)
  (hs1:Zz6 [a,.Name tyn p2] X.env=(false,eval a X.env)::Zz6 [.Name tyn p2] X.env) (hs2:Zz6 [.Name tyn p2] X.env=[(false,eval (.Name tyn p2) X.env)]):XE X (.Call (.Name "isinstance" p) [a,.Name tyn p2] [] pos) (HM.ZgZ fa t):=by
 intro r d h;have key:∃x,fa r=some x/\(∀es,x≠.dict es)/\d=.bool (HM.Zjy t x):=by
  unfold HM.ZgZ at h;split at h
  ·cases h
  ·rename_i x hn hx
   cases h;exact⟨x,hx,λes z=>hn es (by rw[z]),rfl⟩
  ·cases h
 obtain⟨x,h1,nd,h2⟩:=key;subst h2;refine PE.imp (ZdJ hR hg hm ZnD (ZaB (ha r x h1) (ZaB (ZvV (v:=.ty tys) hg2 hm2 bt rfl hn hd) Zb2 (by rw[hs2]; rfl)) hs1) (he:=hs1) (hpl:=by rw[hs2]; rfl)) λσ H Q ⟨F0,H0,F,at_,k⟩=>?_;exact⟨F0,H0,F,at_,λv F1 H1 x1 r1=>⟨F1,x,v,rfl,x1.sub,r1,nd,k _ F1 H1 x1 (.bl _)⟩⟩
theorem Zkr(hm:X.mg "isinstance" = none)(hm2:X.mg "bool" = none)(ha:XE X a fa)(hg:Gl X "isinstance":=by rfl)(hg2:Gl X "bool":=by rfl)(hs1:Zz6 [a,.Name "bool" p2] X.env=(false,eval a X.env)::Zz6 [.Name "bool" p2] X.env:=by rfl) :
  XE X (.Call (.Name "isinstance" p) [a,.Name "bool" p2] [] pos) (HM.ZgZ fa .bool):=ZnZ Zuv ZvZ hm hm2 ha hg hg2 (by decide) (by decide) hs1 rfl
theorem Zle(hm:X.mg "isinstance" = none)(hm2:X.mg "int" = none)(ha:XE X a fa)(hg:Gl X "isinstance":=by rfl)(hg2:Gl X "int":=by rfl)(hs1:Zz6 [a,.Name "int" p2] X.env=(false,eval a X.env)::Zz6 [.Name "int" p2] X.env:=by rfl) :
  XE X (.Call (.Name "isinstance" p) [a,.Name "int" p2] [] pos) (HM.ZgZ fa .int):=ZnZ Zv2 Zo4 hm hm2 ha hg hg2 (by decide) (by decide) hs1 rfl
theorem Zi1(hm:X.mg "isinstance" = none)(hm2:X.mg "tuple" = none)(ha:XE X a fa)(hg:Gl X "isinstance":=by rfl)(hg2:Gl X "tuple":=by rfl)(hs1:Zz6 [a,.Name "tuple" p2] X.env=(false,eval a X.env)::Zz6 [.Name "tuple" p2] X.env:=by rfl) :
  XE X (.Call (.Name "isinstance" p) [a,.Name "tuple" p2] [] pos) (HM.ZgZ fa .tuple):=ZnZ ZtE ZkY hm hm2 ha hg hg2 (by decide) (by decide) hs1 rfl
theorem ZwO(hm:X.mg "max" = none)(hc:X.calm=true)(ha:XE X a fa)(hb:XE X b fb)(hg:Gl X "max":=by rfl)(hs1:Zz6 [a,b] X.env=(false,eval a X.env)::Zz6 [b] X.env:=by rfl)(hs2:Zz6 [b] X.env=[(false,eval b X.env)]:=by rfl) :
  XE X (.Call (.Name "max" p) [a,b] [] pos) (HM.op2 HM.Zx8 fa fb):=by
 intro r d h;obtain⟨x,y,h1,h2,h3⟩:=ZhY h;obtain⟨i,j,rfl,rfl,e⟩:=ZgH h3;cases e;refine PE.imp (ZdJ (ZsT hc) hg hm Ztr (ZaB (ha r _ h1) (ZaB (hb r _ h2) Zb2 hs2) hs1) (he:=hs1) (hpl:=by rw[hs2]; rfl)) λσ H Q ⟨F0,H0,F,at_,k⟩=>?_;exact⟨F0,H0,F,at_,λv F1 H1 x1 r1=>⟨F0,H0,F1,at_.grow x1,λw F2 H2 x2 r2=>⟨i,j,by rw[r1.int_inv,r2.int_inv],k _ F2 H2 (x1.trans x2) (.int _)⟩⟩⟩
theorem ZwP(hm:X.mg "min" = none)(hc:X.calm=true)(ha:XE X a fa)(hb:XE X b fb)(hg:Gl X "min":=by rfl)(hs1:Zz6 [a,b] X.env=(false,eval a X.env)::Zz6 [b] X.env:=by rfl)(hs2:Zz6 [b] X.env=[(false,eval b X.env)]:=by rfl) :
  XE X (.Call (.Name "min" p) [a,b] [] pos) (HM.op2 HM.ZxG fa fb):=by
 intro r d h;obtain⟨x,y,h1,h2,h3⟩:=ZhY h;obtain⟨i,j,rfl,rfl,e⟩:=ZgH h3;cases e;refine PE.imp (ZdJ (ZtB hc) hg hm ZtZ (ZaB (ha r _ h1) (ZaB (hb r _ h2) Zb2 hs2) hs1) (he:=hs1) (hpl:=by rw[hs2]; rfl)) λσ H Q ⟨F0,H0,F,at_,k⟩=>?_;exact⟨F0,H0,F,at_,λv F1 H1 x1 r1=>⟨F0,H0,F1,at_.grow x1,λw F2 H2 x2 r2=>⟨i,j,by rw[r1.int_inv,r2.int_inv],k _ F2 H2 (x1.trans x2) (.int _)⟩⟩⟩
theorem Zt0(hm:X.mg "int" = none)(ha:XE X a fa)(hg:Gl X "int":=by rfl)(hs:Zz6 [a] X.env=[(false,eval a X.env)]:=by rfl):XE X (.Call (.Name "int" p) [a] [] pos) (HM.ZpF fa):=by
 intro r d h;unfold HM.ZpF at h;split at h
 ·rename_i i hi
  cases h;refine PE.imp (ZdD Zna hg hm Zo4 (ZaB (ha r _ hi) Zb2 hs) (he:=hs)) λσ H Q ⟨F0,H0,F,at_,k⟩=>?_;exact⟨F0,H0,F,at_,λv F1 H1 x1 r1=>.inl ⟨i,by rw[r1.int_inv],k _ F1 H1 x1 (.int _)⟩⟩
 ·rename_i q hq
  cases h;refine PE.imp (ZdD Zna hg hm Zo4 (ZaB (ha r _ hq) Zb2 hs) (he:=hs)) λσ H Q ⟨F0,H0,F,at_,k⟩=>?_;exact⟨F0,H0,F,at_,λv F1 H1 x1 r1=>.inr ⟨q,by rw[r1.bool_inv],k _ F1 H1 x1 (.int _)⟩⟩
 ·cases h
end
end HP
namespace HP
open PySem PySem.Spec PyProof.Rows L2
variable{ga:HM.BF}{r:HM.Env}{F F0 H H0:Hp}{σ:L2.St}{ds:List PyData}{vs:List V}{i:Nat}{p1 p2:Pos}{K:ZzS}{x:Str}
variable[FX]
section
variable{X:Cx}{a b c e:Expr}{fa fb fc:HM.EF}{pos p:Pos}{f:HM.BF}{tg:Expr}
theorem PI.imp{X:Cx}{tg e:Expr}{t u:TI}(h:PI X tg e t)(hi:∀σ H R,u σ H R->t σ H R):PI X tg e u:=λpins s σ H R I q=>h pins s σ H R I (hi σ H R q)
theorem ZwX{l:Expr}{tl:TE}(hl:PE X l tl):PI X tg l (λσ H R=>tl σ H λx H1=>∃a,x=.ref a/\((∃xs,SqL X.K H1 a xs)/\R (Itl X.K a) H1\/(∃xs,SqT X.K H1 a xs)/\R (Itt X.K a) H1)):=by
 intro pins s σ H R I h;refine thn (hl pins s σ H _ I h) λv s1 ⟨x,H1,I1,r1,q1⟩=>?_;obtain⟨a,e,q1⟩:=q1;subst e;cases r1;rcases q1 with⟨⟨xs,hq⟩,q⟩ | ⟨⟨xs,hq⟩,q⟩
 ·obtain⟨its,rv,p,hz⟩:=I1.list hq
  refine ZDW p.isList ⟨s1.heap.objs.size,[s1.heap.objs.size],_,_,H1,rfl,I1.kept (t':=s1.toks) λb o e=>ZzW _ e,ZsX a _,⟨_,ZAa _ rfl,rfl,rfl⟩,λb hb=>?_,q⟩;obtain rfl:b=s1.heap.objs.size:=by simpa using hb
  exact I1.fpOk (Zz3 _) (I1.hok.fresh (Zz3 _))
 ·obtain⟨its,rv,p,hz⟩:=I1.tuple hq
  refine ZDJ (show s1.heap.IsTuple a its.toArray from p) ⟨s1.heap.objs.size,[s1.heap.objs.size],_,_,H1,rfl,I1.kept (t':=s1.toks) λb o e=>ZzW _ e,ZrP a _,⟨_,ZAa _ rfl,rfl,rfl⟩,λb hb=>?_,q⟩;obtain rfl:b=s1.heap.objs.size:=by simpa using hb
  exact I1.fpOk (Zz3 _) (I1.hok.fresh (Zz3 _))
theorem Zul{a:Addr}(h:SqL K F a vs)(r:Zt K F ds vs):ItD K (Itl K a) ds F:=by intro F' H s1 s2;have hq:SqL K H a vs:=(s1.trans s2).seq h;refine⟨λi d hd=>?_,⟨vs,hq,by rw[r.1]; exact Zz3 _⟩⟩;obtain⟨v,h1,h2⟩:=r.get hd;refine⟨⟨vs,v,hq,h1⟩,λx H' hy=>?_⟩;obtain⟨e,y⟩:=hy;refine⟨e,?_⟩;have:=y vs hq;rw[h1]at this;cases this;exact h2.mono (s1.trans (ZcQ s2))
theorem Zuu{a:Addr}(h:SqT K F a vs)(r:Zt K F ds vs):ItD K (Itt K a) ds F:=by intro F' H s1 s2;have hq:SqT K H a vs:=Zk4 h (s1.trans s2);refine⟨λi d hd=>?_,⟨vs,hq,by rw[r.1]; exact Zz3 _⟩⟩;obtain⟨v,h1,h2⟩:=r.get hd;refine⟨⟨vs,v,hq,h1⟩,λx H' hy=>?_⟩;obtain⟨e,y⟩:=hy;refine⟨e,?_⟩;have:=y vs hq;rw[h1]at this;cases this;exact h2.mono (s1.trans (ZcQ s2))
theorem Zwz{a:Addr}(h:F a=some (.tup vs))(r:Zt K F ds vs):ItD K (Itt K a) ds F:=by intro F' H s1 s2;have hq:SqT K H a vs:=.of (s2 _ _ (s1 _ _ h));refine⟨λi d hd=>?_,⟨vs,hq,by rw[r.1]; exact Zz3 _⟩⟩;obtain⟨v,h1,h2⟩:=r.get hd;refine⟨⟨vs,v,hq,h1⟩,λx H' hy=>?_⟩;obtain⟨e,y⟩:=hy;refine⟨e,?_⟩;have:=y vs hq;rw[h1]at this;cases this;exact h2.mono (s1.trans (ZcQ s2))
theorem ZX(h:XE X e fa):XI X tg e (HM.ZS (HM.bOf fa)):=by
 intro r ds hd;unfold HM.ZS HM.bOf at hd;cases hx:fa r with
 | none=>rw[hx]at hd; cases hd
 | some d =>
  rw[hx]at hd;have hd:HM.ZcP (.pl d)=some ds:=hd;refine PI.imp (ZwX (h r d hx)) λσ H R ⟨F0,H0,F,at_,k⟩=>?_;refine⟨F0,H0,F,at_,λv F1 H1 x1 r1=>?_⟩;cases r1 with
  | @tupk a x h1=>cases hd;exact⟨a,rfl,.inr ⟨⟨_,.inr h1⟩,k _ F1 H1 x1 (Zuu (.inr h1) (.one (.str x)))⟩⟩
  | @tup a ds' vs h1 h2 h3=>cases hd;exact⟨a,rfl,.inr ⟨⟨vs,.of (x1.sub _ _ h1)⟩,k _ F1 H1 x1 (Zwz h1 ⟨h2,h3⟩)⟩⟩
  | @lst a ds' vs h1 h2 h3=>cases hd;exact⟨a,rfl,.inl ⟨⟨vs,x1.sub.seq h1⟩,k _ F1 H1 x1 (Zul h1 ⟨h2,h3⟩)⟩⟩
  | dct _ _ _ _=>cases hd
  | fn _=>cases hd
  | non=>cases hd
  | bl _=>cases hd
  | int _=>cases hd
  | str _=>cases hd
theorem Zv6(lo:Int)(n:Nat):ItD K (Itr lo n) (HM.Zc5 lo n) F:=by
 intro F' H s1 s2;have hl:(HM.Zc5 lo n).length=n:=by unfold HM.Zc5; rw[ZzP,ZAN]
 refine⟨λi d hd=>?_,?_⟩
 ·have hi:i<n:=by rw[<-hl]; exact(Zz5.mp hd).1
  unfold HM.Zc5 at hd;rw[ZAk,List.getElem?_range hi]at hd;cases hd;exact⟨hi,λx H' ⟨e1,e2⟩=>⟨e1,by rw[e2]; exact .int _⟩⟩
 ·rw[hl]; exact Zz3 _
theorem Zrc{j:Int}(h:HM.okR j=true):-1000000<j/\j<1000000:=by unfold HM.okR at h;rw[ZC3]at h;omega
theorem ZbN(hm:X.mg "range" = none)(ha:XE X a fa)(hg:Gl X "range":=by rfl)(hs:Zz6 [a] X.env=[(false,eval a X.env)]:=by rfl):XI X tg (.Call (.Name "range" p) [a] [] pos) (HM.Za6 fa):=by
 intro r ds hd;unfold HM.Za6 at hd;split at hd
 ·rename_i j hj
  split at hd
  ·rename_i hok
   cases hd;obtain⟨k1,k2⟩:=Zrc hok;refine PI.imp (Ztz hg hm (ZaB (ha r _ hj) Zb2 hs) hs) λσ H R ⟨F0,H0,F,at_,k⟩=>?_;exact⟨F0,H0,F,at_,λv F1 H1 x1 r1=>⟨j,by rw[r1.int_inv],by omega,by omega,k _ F1 H1 x1 (Zv6 0 j.toNat)⟩⟩
  ·cases hd
 ·cases hd
theorem Zlf{gb:HM.BF}(ha:XB X a ga)(hb:XB X b gb):XF X (.BinOp a .Add b pos) (HM.ZmG ga gb):=by
 intro r d h;unfold HM.ZmG at h;split at h
 ·rename_i xs hx
  split at h
  ·rename_i ys hy
   split at h
   ·rename_i hz
    cases h;refine PE.imp (ZnN Zx3 (ha r _ hx) (hb r _ hy)) λσ H Q ⟨F0,H0,F,at_,k⟩=>?_;refine⟨F0,H0,F,at_,λv F1 H1 x1 ⟨fp,r1⟩=>⟨F0,H0,F1,at_.grow x1,λw F2 H2 x2 ⟨fq,r2⟩=>?_⟩⟩;cases r1 with
    | ol h1 q1 =>
     cases r2 with
     | ol h2 q2 =>
      have q1':=q1.mono x2.ff;refine⟨_,_,_,_,rfl,rfl,x2.hh _ _ h1,h2,?_,λl hl=>Zed (P:=λv _ H'=>Q v H') (x1.trans x2) (q1'.append q2) hl k⟩;have e1:=q1.1;have e2:=q2.1;have e3:(1000000:Nat)<=sizeLine:=by decide
      unfold HM.big at hz;omega
   ·cases h
  ·cases h
 ·cases h
theorem ZwQ(ha:XB X a ga)(hb:XE X b fb):XF X (.BinOp a .Mult b pos) (HM.Zu8 ga fb):=by
 intro r d h;unfold HM.Zu8 at h;split at h
 ·rename_i xs hx
  split at h
  ·rename_i i hy
   split at h
   ·rename_i hz
    cases h;rw[ZAc,decide_eq_true_eq,decide_eq_true_eq]at hz;refine PE.imp (ZnN Zxr (ha r _ hx) (hb r _ hy)) λσ H Q ⟨F0,H0,F,at_,k⟩=>?_;refine⟨F0,H0,F,at_,λv F1 H1 x1 ⟨fp,r1⟩=>⟨F0,H0,F1,at_.grow x1,λw F2 H2 x2 r2=>?_⟩⟩;cases r1 with
    | ol h1 q1 =>
     have q1':=q1.mono x2.ff;refine⟨_,i,_,rfl,r2.int_inv,x2.hh _ _ h1,by omega,by omega,?_,λl hl=>Zed (P:=λv _ H'=>Q v H') (x1.trans x2) (q1'.rep i.toNat) hl k⟩;have e1:=q1.1;have e3:(1000*1000:Nat)<=sizeLine:=by decide
     refine ZAR (Nat.mul_le_mul (?_:_<=1000) (?_:_<=1000)) e3<;>omega
   ·cases h
  ·cases h
 ·cases h
def XO(X:Cx)(e:Option Expr)(f:Option HM.EF):Prop:=∀r o,HM.ZrS f r=some o->PO X e λσ H Q=>Now X.K r σ H λF0 H0 F=>∀F' H',Ext F H F' H'->Q o H'
theorem ZvS:XO X none none:=by intro r o h;cases h;intro pins s σ H Q I q;obtain⟨F0,H0,F,at_,k⟩:=q;exact Zv9 pins s σ H Q I (k F H at_.refl)
theorem ZvR(h:XE X e fa):XO X (some e) (some fa):=by
 intro r o ho;unfold HM.ZrS at ho;split at ho
 ·rename_i z; cases z
 ·rename_i g z
  cases z;split at ho
  ·rename_i i hi
   cases ho;intro pins s σ H Q I q;obtain⟨F0,H0,F,at_,k⟩:=q;exact Zwj (h r _ hi) pins s σ H Q I ⟨F0,H0,F,at_,λv F1 H1 x1 r1=>⟨i,r1.int_inv,k F1 H1 x1⟩⟩
  ·cases ho
theorem ZwR{lo hi:Option Expr}{fl fh:Option HM.EF}(ha:XB X a ga)(hl:XO X lo fl)(hh:XO X hi fh):XF X (.Subscript a (.Slice lo hi none p2) pos) (HM.Zvd ga fl fh):=by
 intro r d h;unfold HM.Zvd at h;split at h
 ·rename_i x hx
  split at h
  ·rename_i xs hxs
   split at h
   ·rename_i l hl'
    split at h
    ·rename_i u hu'
     cases h;refine PE.imp (Zu2 ZvT (ha r _ hx) (hl r _ hl') (hh r _ hu')) λσ H Q ⟨F0,H0,F,at_,k⟩=>?_;refine⟨F0,H0,F,at_,λv F1 H1 x1 ⟨fp,r1⟩=>⟨F0,H0,F1,at_.grow x1,λF2 H2 x2=>⟨F0,H0,F2,(at_.grow x1).grow x2,λF3 H3 x3=>?_⟩⟩⟩;have x23:=x2.trans x3;obtain⟨l',vs,e1,hq,rs⟩:=Zek x3.sub (r1.mono x23.ff λ_ _ _ z=>x23.hh _ _ z) hxs;refine⟨l',vs,e1,hq,λl2 hl2=>Zed (P:=λv _ H'=>Q v H') (x1.trans x23) ?_ hl2 k⟩;unfold HM.cutD ZoR;rw[<-rs.1];exact(rs.drop _).take _
    ·cases h
   ·cases h
  ·cases h
 ·cases h
theorem Zbt.val{fp:Nat->List Addr}(e:Zbt K F0 H0 F H r σ fp)(h:r[i]?=some (some (.ol ds))) :
  ∃l vs,σ[i]?=some (some (.ref l))/\H l=some (.lst vs)/\Zt K F ds vs/\fp i=[l]:=by
 obtain⟨v,h1,h2⟩:=e.at_ i _ h;generalize hf:fp i=q at h2;cases h2 with
 | ol k1 k2=>exact⟨_,_,h1,k1,k2,rfl⟩
theorem At.chgList{es:List PyData}(e:At K F0 H0 F H r σ)(h:r[i]?=some (some (.ol ds))) :
  ∃l vs,σ[i]?=some (some (.ref l))/\H l=some (.lst vs)/\Zt K F ds vs/\∀us,Zt K F es us->At K F0 H0 F (upd H l (.lst us)) (r.set i (some (.ol es))) σ:=by
 obtain⟨fp,e⟩:=e;obtain⟨l,vs,h1,h2,h3,h4⟩:=e.val h;refine⟨l,vs,h1,h2,h3,λus q=>e.change (fp':=[l]) h1 (.ol ZF q) (by simp) (λa ha=>.inl (by rw[h4]; exact ha)) λa o z hn=>?_⟩;rw[ZB (λz=>hn (by rw[h4,z]; simp))];exact z
theorem Zds(i:Nat){p3:Pos}(ha:XE X a fa)(hN:X.N[i]?=some x:=by rfl)(hv:Vis X.env.scope x:=by first | exact ZAB rfl | exact ZAj (ZAB rfl) | exact ZAj (ZAj rfl))(hd:(x==("__debug__":Str))=false:=by decide)(hcd:(x==("__classdict__":Str))=false:=by decide)
  (hbase:ZBU (.Name x p1) "append" X.env (eval (.Name x p1) X.env)=eval (.Name x p1) X.env:=by rfl)
  (hfew:((backTo p3 (Zz6 [a] X.env)).all (λx=>!x.1)&&(ZDC p3 (ZCN [] X.env)).all (λx=>x.1.isSome)&&decide (([a]:List Expr).length+([]:List Keyword).length+(if([]:List Keyword).isEmpty then 0 else 1)<30))=true:=by rfl)
  (hline:(p2.endLine==p3.line)=true:=by rfl) (hs:Zz6 [a] X.env=[(false,eval a X.env)]:=by rfl):XS X (.Expr (.Call (.Attribute (.Name x p1) "append" p2) [a] [] p3) pos) (HM.Zdf i fa):=by
 intro r o h;unfold HM.Zdf at h;split at h
 ·rename_i ds hds
  split at h
  ·rename_i d hd'
   split at h
   ·rename_i hz
    cases h;refine PS.imp (Zh1 (ZnQ ZBX ZCX ZCY Zg6 (Zcg hN hv hd hcd) (ZaB (ha r d hd') Zb2 hs) hbase hfew hline hs rfl)) λE σ H ⟨F0,H0,F,at_,k⟩=>?_;obtain⟨l,vs,e1,e2,e3,_⟩:=at_.chgList (es:=ds) hds;refine⟨.ref l,e1,.inl ⟨rfl,_,SqL.of e2⟩,F0,H0,F,at_,λv F1 H1 x1 r1=>?_⟩;have at1:=at_.grow x1;obtain⟨l',vs',f1,f2,f3,f4⟩:=at1.chgList (es:=ds++[d]) hds;rw[e1]at f1;cases f1;refine⟨_,vs',v,rfl,rfl,f2,?_,k _ F1 _ (f4 _ (f3.append (.one r1)))⟩;have e4:=f3.1;have e5:(1000000:Nat)<=sizeLine:=by decide
    unfold HM.big at hz;omega
   ·cases h
  ·cases h
 ·cases h
theorem ZvK(i:Nat)(hk:XE X b fb)(ha:XE X a fa)(hN:X.N[i]?=some x:=by rfl)(hv:Vis X.env.scope x:=by first | exact ZAB rfl | exact ZAj (ZAB rfl) | exact ZAj (ZAj rfl))(hd:(x==("__debug__":Str))=false:=by decide)(hcd:(x==("__classdict__":Str))=false:=by decide)
  (hsub:∀v,assign (.Subscript (.Name x p1) b p2) X.env v=(do
   let ov <-holding [v] (eval (.Name x p1) X.env)
   let iv <-holding [v,ov] (eval b X.env)
   standAt p2
   holding [v,ov,iv] (setItem ov iv v)
   release [v,ov,iv] []):=by intro _; rfl)
  (hs:swapsWithSole [.Subscript (.Name x p1) b p2] a pos.line X.env=pure false:=by rfl) (hw:swappedStores [.Subscript (.Name x p1) b p2] a X.env=pure none:=by rfl)
  (h1:(ZB0 [.Subscript (.Name x p1) b p2] X.env).map (·.2)=[assign (.Subscript (.Name x p1) b p2) X.env]:=by rfl):XS X (.Assign [.Subscript (.Name x p1) b p2] a pos) (HM.Zr9 i fb fa):=by
 intro r o h;unfold HM.Zr9 at h;split at h
 ·rename_i d hd'
  split at h
  ·rename_i ds hds
   split at h
   ·rename_i n hn
    split at h
    ·rename_i j hj
     cases h;refine PS.imp (Zx2 (ha r d hd') (Zya (Zcg hN hv hd hcd) (hk r _ hn) set_list hsub) hs hw h1) λE σ H ⟨F0,H0,F,at_,k⟩=>?_;refine⟨F0,H0,F,at_,λv F1 H1 x1 r1=>?_⟩;have at1:=at_.grow x1;obtain⟨l,vs,e1,e2,e3,_⟩:=at1.chgList (es:=ds) hds;refine⟨.ref l,e1,F0,H0,F1,at1,λw F2 H2 x2 r2=>?_⟩;obtain⟨l',vs',f1,f2,f3,f4⟩:=(at1.grow x2).chgList (es:=ds.set j d) hds;rw[e1]at f1;cases f1;refine⟨_,vs',n,j,rfl,r2.int_inv,f2,?_,k _ F2 _ (f4 _ (f3.set (r1.mono x2.ff) j))⟩;rw[<-f3.1];exact hj
    ·cases h
   ·cases h
  ·cases h
 ·cases h
end
end HP
namespace HP
open PySem PySem.Spec PyProof.Rows L2
variable[FX]
section
variable{K:ZzS}{F:Hp}{κ:Type}[DecidableEq κ]
def ZaS(K:ZzS)(F:Hp)(kvs:List (κ × PyData))(vvs:List (κ × V)):Prop:=kvs.map (·.1)=vvs.map (·.1)/\Zt K F (kvs.map (·.2)) (vvs.map (·.2))
theorem ZaS.nil:ZaS K F ([]:List (κ × PyData)) []:=⟨rfl,.nil⟩
theorem ZaS.cons{k:κ}{d:PyData}{v:V}{kvs:List (κ × PyData)}{vvs:List (κ × V)}(r:Rep K F d v)(q:ZaS K F kvs vvs):ZaS K F ((k,d)::kvs) ((k,v)::vvs) :=
 ⟨by rw[ZzZ,ZzZ,q.1],by rw[ZzZ,ZzZ]; exact .cons r q.2⟩
theorem ZaS.inv{kvs:List (κ × PyData)}{vvs:List (κ × V)}(q:ZaS K F kvs vvs):(kvs=[]/\vvs=[])\/∃k d v kvs' vvs',kvs=(k,d)::kvs'/\vvs=(k,v)::vvs'/\Rep K F d v/\ZaS K F kvs' vvs':=by
 cases kvs with
 | nil =>
  cases vvs with
  | nil=>exact .inl ⟨rfl,rfl⟩
  | cons p r=>exact absurd q.1 (by simp)
 | cons p kvs' =>
  cases vvs with
  | nil=>exact absurd q.1 (by simp)
  | cons p' vvs' =>
   obtain⟨k,d⟩:=p;obtain⟨k',v⟩:=p';obtain⟨q1,q2⟩:=q;rw[ZzZ,ZzZ]at q1 q2;injection q1 with e1 e2
   have e1:k=k':=e1;subst e1;obtain⟨v',us,e3,r1,r2⟩:=q2.cons_inv;injection e3 with e3 e4
   refine .inr ⟨k,d,v,kvs',vvs',rfl,rfl,?_,e2,?_⟩
   ·rw[show v=v' from e3]; exact r1
   ·rw[e4]; exact r2
theorem ZaS.len{kvs:List (κ × PyData)}{vvs:List (κ × V)}(q:ZaS K F kvs vvs):kvs.length=vvs.length:=by
 have:=congrArg ZAF q.1
 rwa [ZzP,ZzP]at this
theorem ZaS.any{kvs:List (κ × PyData)}{vvs:List (κ × V)}(k:κ)(q:ZaS K F kvs vvs):(kvs.any λp=>decide (p.1=k))=vvs.any λp=>decide (p.1=k):=by
 have e:∀{β:Type} (l:List (κ × β)),(l.any λp=>decide (p.1=k))=(l.map (·.1)).any λx=>decide (x=k):=λl=>by rw[List.any_map]; rfl
 rw[e,e,q.1]
theorem ZaS.repl{d:PyData}{v:V}(k:κ)(r:Rep K F d v):∀{kvs:List (κ × PyData)} {vvs:List (κ × V)},ZaS K F kvs vvs->ZaS K F (kvs.map λp=>if p.1=k then(p.1,d)else p) (vvs.map λp=>if p.1=k then(p.1,v)else p)
 | [],vvs,q=>by
  rcases q.inv with⟨_,e⟩ | ⟨_,_,_,_,_,e,_⟩
  ·subst e; exact .nil
  ·cases e
 | p::kvs,vvs,q=>by
  rcases q.inv with⟨e,_⟩ | ⟨k',d',v',kvs',vvs',e1,e2,r1,r2⟩
  ·cases e
  ·cases e1
   subst e2;have ih:=ZaS.repl k r r2;rw[ZzZ,ZzZ]
   by_cases h:k'=k
   ·rw[if_pos h,if_pos h]; exact .cons r ih
   ·rw[if_neg h,if_neg h]; exact .cons r1 ih
theorem ZaS.snoc{kvs:List (κ × PyData)}{vvs:List (κ × V)}{k:κ}{d:PyData}{v:V}(q:ZaS K F kvs vvs)(r:Rep K F d v):ZaS K F (kvs++[(k,d)]) (vvs++[(k,v)]) :=
 ⟨by rw[ZAq,ZAq,q.1]; rfl,by rw[ZAq,ZAq]; exact q.2.append (.one r)⟩
theorem ZaS.put{kvs:List (κ × PyData)}{vvs:List (κ × V)}{d:PyData}{v:V}(q:ZaS K F kvs vvs)(k:κ)(r:Rep K F d v):ZaS K F (HM.putD kvs k d) (putK vvs k v):=by
 unfold HM.putD putK;rw[q.any k]
 by_cases h:(vvs.any λp=>decide (p.1=k))=true
 ·rw[if_pos h,if_pos h]; exact q.repl k r
 ·rw[if_neg h,if_neg h]; exact q.snoc r
theorem ZaS.look{k:κ}:∀{kvs:List (κ × PyData)} {vvs:List (κ × V)},ZaS K F kvs vvs->(∀d,HM.Zg kvs k=some d->∃v,ZaZ vvs k=some v/\Rep K F d v)/\(HM.Zg kvs k=none->ZaZ vvs k=none)
 | [],vvs,q=>by
  rcases q.inv with⟨_,e⟩ | ⟨_,_,_,_,_,e,_⟩
  ·subst e; exact⟨λd h=>(by cases h),λ_=>rfl⟩
  ·cases e
 | p::kvs,vvs,q=>by
  rcases q.inv with⟨e,_⟩ | ⟨k',d',v',kvs',vvs',e1,e2,r1,r2⟩
  ·cases e
  ·cases e1
   subst e2;obtain⟨i1,i2⟩:=ZaS.look (k:=k) r2
   by_cases h:k'=k
   ·have e3:HM.Zg ((k',d')::kvs) k=some d':=by simp[HM.Zg,ZAU,h]
    rw[e3,Zeh (p:=(k',v')) h];exact⟨λd hd=>(by cases hd; exact⟨v',rfl,r1⟩),λhd=>by cases hd⟩
   ·have e3:HM.Zg ((k',d')::kvs) k=HM.Zg kvs k:=by simp[HM.Zg,ZAU,h]
    rw[e3,Zee (p:=(k',v')) h];exact⟨i1,i2⟩
theorem ZaS.some_iff{k:κ}{kvs:List (κ × PyData)}{vvs:List (κ × V)}(q:ZaS K F kvs vvs):(ZaZ vvs k).isSome=(HM.Zg kvs k).isSome:=by
 obtain⟨i1,i2⟩:=q.look (k:=k);cases h:HM.Zg kvs k with
 | none=>rw[i2 h]; rfl
 | some d=>obtain⟨v,h1,_⟩:=i1 d h; rw[h1]; rfl
end
section
variable{K:ZzS}{F:Hp}
theorem ZgX{d:PyData}{k:Key}{v:V}(h:HM.ZiQ d=some k)(r:Rep K F d v):v=kV k:=by cases r<;>first | (cases h; rfl) | cases h
theorem ZmZ:∀{ds:List PyData} {ks:List Key} {vs:List V},HM.Zhg ds=some ks->Zt K F ds vs->vs=ks.map kV
 | [],ks,vs,h,r=>by cases h; exact r.nil_inv
 | d::ds,ks,vs,h,r=>by
  obtain⟨v,us,rfl,r1,r2⟩:=r.cons_inv;unfold HM.Zhg at h;split at h
  ·rename_i k hk
   obtain⟨ks',h1,h2⟩:=ZzR.mp h;subst h2;rw[ZgX hk r1,ZmZ h1 r2];rfl
  ·cases h
theorem Zrf:∀{ds:List PyData} {ks:List Key},HM.Zmk ds=some ks->HM.Zhg ds=some ks
 | [],ks,h=>h
 | d::ds,ks,h=>by
  unfold HM.Zmk at h;split at h
  ·cases ‹_=[]›
  ·rename_i i r e
   injection e with e1 e2
   subst e1 e2;obtain⟨ks',h1,h2⟩:=ZzR.mp h;subst h2;show(match HM.ZiQ (.int i)with | some k=>(HM.Zhg ds).map (k::·) | none=>none)=_;rw[Zrf h1];rfl
  ·cases h
theorem ZbY{d:PyData}{ks:List Key}{v:V}(h:HM.Za1 d=some ks)(r:Rep K F d v):∃b,v=.ref b/\F b=some (.tup (ks.map kV)):=by
 cases r with
 | tup h1 h2 h3=>refine⟨_,rfl,?_⟩;rw[<-ZmZ (Zrf h) ⟨h2,h3⟩];exact h1
 | tupk _=>cases h
 | lst _ _ _=>cases h
 | dct _ _ _ _=>cases h
 | fn _=>cases h
 | non=>cases h
 | bl _=>cases h
 | int _=>cases h
 | str _=>cases h
end
section
variable{X:Cx}{a b c e:Expr}{fa fb fc:HM.EF}{pos p:Pos}{f:HM.BF}
theorem fresh_one{K:ZzS}{F H F1 H1:Hp}{o:HO}{q:HM.B}{l:Addr}{P:V->Hp->Hp->Prop}(x1:Ext F H F1 H1)(hl:H1 l=none)(hq:Zag K F1 (upd H1 l o) q (.ref l) [l])
  (k:∀v F' H',Ext F H F' H'->(∃fp,Zag K F' H' q v fp/\fp.Nodup/\∀a∈fp,F' a=none/\H a=none)->P v F' H'):P (.ref l) F1 (upd H1 l o):=by
 refine k _ F1 _ (x1.lay' hl) ⟨[l],hq,by simp,λa ha=>?_⟩;obtain rfl:a=l:=by simpa using ha
 exact⟨x1.sub.free hl,x1.hh.free hl⟩
theorem Zyr:XF X (.Dict [] [] pos) HM.fDk:=by intro r d h;cases h;exact PE.imp ZuE λσ H Q ⟨F0,H0,F,at_,k⟩ l hl=>fresh_one (P:=λv _ H'=>Q v H') at_.refl hl (.ok ZF rfl .nil) k
theorem ZnM:XF X (.Dict [] [] pos) HM.fDt:=by intro r d h;cases h;exact PE.imp ZpR λσ H Q ⟨F0,H0,F,at_,k⟩ l hl=>fresh_one (P:=λv _ H'=>Q v H') at_.refl hl (.ot ZF rfl .nil) k
theorem Zsx:XF X (.Dict [] [] pos) HM.Zuw:=by intro r d h;cases h;exact PE.imp ZpR λσ H Q ⟨F0,H0,F,at_,k⟩ l hl=>fresh_one (P:=λv _ H'=>Q v H') at_.refl hl (.otl ZF rfl rfl λi ds l' h=>by simp at h) k
theorem Zt1(ha:XE X a fa)(hb:XE X b fb):XF X (.Dict [some a] [b] pos) (HM.ZoK fa fb):=by
 intro r d h;unfold HM.ZoK at h;split at h
 ·rename_i x hx
  split at h
  ·rename_i y hy
   split at h
   ·rename_i k hk
    cases h;refine PE.imp (ZwE (Zvn (ha r x hx) (hb r y hy) ZvW) rfl rfl (by simp) (by simp)) λσ H Q ⟨F0,H0,F,at_,kk⟩ l hl=>?_;have hFl:F l=none:=at_.sub.free hl;have x0:Ext F H F (upd H l (.dK [])):=at_.refl.lay' hl;refine⟨F0,H0,F,at_.grow x0,λv F1 H1 x1 r1=>⟨F0,H0,F1,(at_.grow x0).grow x1,λw F2 H2 x2 r2=>?_⟩⟩;have x12:=x1.trans x2;have hl2:H2 l=some (.dK []):=x12.hh l _ ZF;have hF2:F2 l=none:=by
     cases q:F2 l with
     | none=>rfl
     | some o =>
      rcases x12.new l o q with z | z
      ·rw[hFl]at z; cases z
      ·exact(z.no ZF λ_ q=>by cases q).elim
    refine⟨hl2,[(k,w)],?_,by simp,?_⟩
    ·rw[ZgX hk r1]
     rfl
    have xe:Ext F H F2 (upd H2 l (.dK (Zh2 [] [(k,w)]))):=by
     refine⟨x12.ff,λc o z=>?_,λc o z=>?_,λc o z=>?_,λt=>(x12.tab (t.same (ZkU hl))).keep λa u z hu=>?_,x12.nts⟩
     ·have hc:c≠l:=ZaF z hl
      exact(x12.hh c o (by rw[ZB hc]; exact z)).cong (ZB hc)
     ·rw[ZB (λe=>by rw[e,hF2]at z; cases z)]
      exact x12.sub c o z
     ·rcases x12.new c o z with q | q
      ·exact .inl q
      ·exact .inr (q.back (.of (Zq.upd' hl)))
     ·rw[ZB (λe=>by subst e; rw[hl2]at z; cases z; cases hu)]; exact z
    refine kk _ F2 _ xe ⟨[l],.ok ZF rfl (.one r2),by simp,λc hc=>?_⟩;obtain rfl:c=l:=by simpa using hc
    exact⟨hF2,hl⟩
   ·cases h
  ·cases h
 ·cases h
end
end HP
namespace HP
open PySem PySem.Spec PyProof.Rows L2
variable{q:HM.B}{r:HM.Env}{F H:Hp}{fp:List Addr}{i:Nat}{p1:Pos}{K:ZzS}{x:Str}
variable[FX]
theorem At.chgOne{F0 H0:Hp}{σ:L2.St}{l:Addr}(e:At K F0 H0 F H r σ)(h:r[i]?=some (some q))(hv:σ[i]?=some (some (.ref l)))(hone:∀v fp,Zag K F H q v fp->∃a,v=.ref a/\fp=[a]) :
  ∀o q',Zag K F (upd H l o) q' (.ref l) [l]->At K F0 H0 F (upd H l o) (r.set i (some q')) σ:=by
 intro o q' hq;obtain⟨fp,e⟩:=e;obtain⟨v,h1,h2⟩:=e.at_ i _ h;obtain⟨a,e1,e2⟩:=hone v _ h2;subst e1;rw[hv]at h1;cases h1;refine e.change (fp':=[l]) hv hq (by simp) (λc hc=>.inl (by rw[e2]; exact hc)) λc o' z hn=>?_;rw[ZB (λz=>hn (by rw[e2,z]; simp))];exact z
section
variable{X:Cx}{a b c e:Expr}{fa fb fc:HM.EF}{pos p:Pos}{f:HM.BF}
theorem Zfk{n:Nat}(h:n<HM.big):n<sizeLine:=by
 have e5:(1000000:Nat)<=sizeLine:=by decide
 unfold HM.big at h;omega
theorem Zgg(hu:X.A.units+1<cLine)(i:Nat){p2:Pos}(hk:XE X b fb)(ha:XE X a fa)(hN:X.N[i]?=some x:=by rfl)(hv:Vis X.env.scope x:=by first | exact ZAB rfl | exact ZAj (ZAB rfl) | exact ZAj (ZAj rfl))(hd:(x==("__debug__":Str))=false:=by decide)(hcd:(x==("__classdict__":Str))=false:=by decide)
  (hs:ZBT a (some (.Subscript (.Name x p1) b p2)) pos.line X.env=pure false:=by rfl):XS X (.Assign [.Subscript (.Name x p1) b p2] a pos) (HM.ZhD i fb fa):=by
 intro r o h;unfold HM.ZhD at h;split at h
 ·rename_i d hd'
  split at h
  ·rename_i y hy
   split at h
   ·rename_i kvs hb
    split at h
    ·rename_i k hk'
     split at h
     ·rename_i hz
      cases h;refine PS.imp (Zmb hu (Zcg hN hv hd hcd) (hk r y hy) (ha r d hd') hs) λE σ H ⟨F0,H0,F,at_,kk⟩=>?_;refine⟨F0,H0,F,at_,λv F1 H1 x1 r1=>?_⟩;have at1:=at_.grow x1;obtain⟨u,fp,e1,e2⟩:=at1.any hb;refine⟨u,e1,F0,H0,F1,at1,λw F2 H2 x2 r2=>?_⟩;have at2:=at1.grow x2;cases e2 with
      | @ok l _ vvs e2 e3 e4=>have T:ZaS X.K F2 kvs vvs:=⟨e3,e4.mono x2.ff⟩;have T':=T.put k (r1.mono x2.ff);rw[ZgX hk' r2];have hH:H2 l=some (.dK vvs):=x2.hh _ _ e2;refine⟨l,_,rfl,ZiA.k hH (by rw[<-T.len]; exact Zfk hz),kk _ F2 _ (at2.chgOne hb e1 (λv fp q=>by cases q; exact⟨_,rfl,rfl⟩) _ _ (.ok ZF T'.1 T'.2))⟩
     ·cases h
    ·cases h
   ·rename_i kvs hb
    split at h
    ·rename_i k hk'
     split at h
     ·rename_i hz
      cases h;refine PS.imp (Zmb hu (Zcg hN hv hd hcd) (hk r y hy) (ha r d hd') hs) λE σ H ⟨F0,H0,F,at_,kk⟩=>?_;refine⟨F0,H0,F,at_,λv F1 H1 x1 r1=>?_⟩;have at1:=at_.grow x1;obtain⟨u,fp,e1,e2⟩:=at1.any hb;refine⟨u,e1,F0,H0,F1,at1,λw F2 H2 x2 r2=>?_⟩;have at2:=at1.grow x2;cases e2 with
      | @ot l _ vvs e2 e3 e4=>have T:ZaS X.K F2 kvs vvs:=⟨e3,e4.mono x2.ff⟩;have T':=T.put k (r1.mono x2.ff);obtain⟨bb,rfl,hbb⟩:=ZbY hk' r2;have hH:H2 l=some (.dT vvs):=x2.hh _ _ e2;refine⟨l,_,rfl,ZiA.t hH (x2.sub _ _ hbb) (by rw[<-T.len]; exact Zfk hz),kk _ F2 _ (at2.chgOne hb e1 (λv fp q=>by cases q; exact⟨_,rfl,rfl⟩) _ _ (.ot ZF T'.1 T'.2))⟩
     ·cases h
    ·cases h
   ·cases h
  ·cases h
 ·cases h
theorem ZkV{K:ZzS}{F H:Hp}(k:List Key):∀(kvs:List (List Key × List PyData)) (vvs:List (List Key × V)) (ls:List Addr),kvs.map (·.1)=vvs.map (·.1)->vvs.map (·.2)=ls.map V.ref ->
  (∀(i:Nat) (ds:List PyData) (l:Addr),(kvs.map (·.2))[i]?=some ds->ls[i]?=some l->∃vs,H l=some (.lst vs)/\Zt K F ds vs) ->
  (∀ds,HM.Zg kvs k=some ds->∃l' vs,ZaZ vvs k=some (.ref l')/\l'∈ls/\H l'=some (.lst vs)/\Zt K F ds vs)/\(HM.Zg kvs k=none->ZaZ vvs k=none)
 | [],[],_,_,_,_=>⟨(λds h=>by cases h),λ_=>rfl⟩
 | [],_::_,_,hk,_,_=>by simp at hk
 | _::_,[],_,hk,_,_=>by simp at hk
 | _::_,_::_,[],_,hv,_=>by simp at hv
 | (k1,ds1)::kvs,(k2,v2)::vvs,l1::ls,hk,hv,r=>by
  rw[ZzZ,ZzZ]at hk hv;injection hk with e1 e2
  injection hv with e3 e4
  have e1:k1=k2:=e1;have e3:v2=.ref l1:=e3;subst e1 e3;obtain⟨i1,i2⟩:=ZkV k kvs vvs ls e2 e4 λi ds l h1 h2=>r (i+1) ds l (by simpa using h1) (by simpa using h2)
  by_cases hkk:k1=k
  ·have e5:HM.Zg ((k1,ds1)::kvs) k=some ds1:=by simp[HM.Zg,ZAU,hkk]
   rw[e5,Zeh (p:=(k1,V.ref l1)) hkk];obtain⟨vs,q1,q2⟩:=r 0 ds1 l1 rfl rfl;exact⟨(λds h=>by cases h; exact⟨l1,vs,rfl,by simp,q1,q2⟩),(λh=>by cases h)⟩
  ·have e5:HM.Zg ((k1,ds1)::kvs) k=HM.Zg kvs k:=by simp[HM.Zg,ZAU,hkk]
   rw[e5,Zee (p:=(k1,V.ref l1)) hkk];exact⟨λds h=>let ⟨l',vs,a1,a2,a3⟩:=i1 ds h; ⟨l',vs,a1,ZzU _ a2,a3⟩,i2⟩
theorem ZoG{kvs:List (List Key × List PyData)}{v:V}(q:Zag K F H (.otl kvs) v fp) :
  ∃l vvs ls,v=.ref l/\fp=l::ls/\H l=some (.dT vvs)/\kvs.map (·.1)=vvs.map (·.1)/\vvs.map (·.2)=ls.map V.ref /\
   ∀k,(∀ds,HM.Zg kvs k=some ds->∃l' vs,ZaZ vvs k=some (.ref l')/\l'∈ls/\H l'=some (.lst vs)/\Zt K F ds vs)/\(HM.Zg kvs k=none->ZaZ vvs k=none):=by
 cases q with
 | @otl l _ vvs ls h hk hv r=>exact⟨l,vvs,ls,rfl,rfl,h,hk,hv,λk=>ZkV k kvs vvs ls hk hv r⟩
theorem Zu6{v w:V}{x:PyData}{c:Bool}(sub:Zq F H)(rq:Zag K F H q v fp)(rx:Rep K F x w)(h:HM.hasB q x=some c):∃l o,v=.ref l/\Zch H l w o/\o.isSome=c:=by
 cases rq with
 | pl _=>cases h
 | hd _ _ _ _=>cases h
 | hf _=>cases h
 | ol _ _=>cases h
 | @ok l kvs vvs h1 h2 h3=>obtain⟨k,e1,e2⟩:=ZzR.mp h;rw[ZgX e1 rx];exact⟨l,_,rfl,Zch.k h1,by rw[ZaS.some_iff (K:=K) (F:=F) ⟨h2,h3⟩,<-e2]⟩
 | @ot l kvs vvs h1 h2 h3=>obtain⟨k,e1,e2⟩:=ZzR.mp h;obtain⟨bb,rfl,hbb⟩:=ZbY e1 rx;exact⟨l,_,rfl,Zch.t h1 (sub _ _ hbb),by rw[ZaS.some_iff (K:=K) (F:=F) ⟨h2,h3⟩,<-e2]⟩
 | @otl l kvs vvs ls h1 h2 h3 h4 =>
  obtain⟨k,e1,e2⟩:=ZzR.mp h;obtain⟨bb,rfl,hbb⟩:=ZbY e1 rx;refine⟨l,_,rfl,Zch.t h1 (sub _ _ hbb),?_⟩;obtain⟨l2,vvs2,ls2,e3,e4,e5,_,_,hl⟩:=ZoG (Zag.otl h1 h2 h3 h4);cases e3;rw[h1]at e5;cases e5;obtain⟨i1,i2⟩:=hl k;rw[<-e2];cases hq:HM.Zg kvs k with
  | none=>rw[i2 hq]; rfl
  | some ds=>obtain⟨_,_,h5,_⟩:=i1 ds hq; rw[h5]; rfl
theorem ZrQ{d:PyData}(h:HM.ZlH fa f r=some d):∃x q c,fa r=some x/\f r=some q/\HM.hasB q x=some c/\d=.bool (!c):=by
 unfold HM.ZlH at h;split at h
 ·split at h
  ·obtain⟨c,h1,h2⟩:=ZzR.mp h
   exact⟨_,_,c,by assumption,by assumption,h1,h2.symm⟩
  ·cases h
 ·cases h
theorem Zt2(hu:X.A.units+1<cLine)(ha:XE X a fa)(hb:XB X b f)(hm:ZBa .NotIn b=false:=by rfl):XT X (.Compare a [.NotIn] [b] pos) (HM.tV (HM.ZlH fa f)):=by intro r d h;obtain⟨x,q,c,h1,h2,h3,e⟩:=ZrQ (ZgK h);cases e;refine PT.imp (Zp3 (Zm3 hu (ha r x h1) (hb r q h2)) hm) λσ H Q ⟨F0,H0,F,at_,k⟩=>?_;refine⟨F0,H0,F,at_,λv F1 H1 x1 r1=>⟨F0,H0,F1,at_.grow x1,λw F2 H2 x2 ⟨fp,r2⟩=>?_⟩⟩;obtain⟨l,o,e1,e2,e3⟩:=Zu6 x2.sub r2 (r1.mono x2.ff) h3;exact⟨l,o,e1,e2,_,rfl,by rw[e3]; exact k F2 H2 (x1.trans x2)⟩
theorem Zug(h:HM.ZpH i fa r=some q):∃x bb,fa r=some x/\r[i]?=some (some bb) /\
  ((∃kvs k d,bb=.ok kvs/\HM.ZiQ x=some k/\HM.Zg kvs k=some d/\q=.pl d)\/(∃kvs k d,bb=.ot kvs/\HM.Za1 x=some k/\HM.Zg kvs k=some d/\q=.pl d)\/∃kvs k ds,bb=.otl kvs/\HM.Za1 x=some k/\HM.Zg kvs k=some ds/\q=.ol ds):=by
 unfold HM.ZpH at h;split at h
 ·rename_i x hx
  split at h
  ·rename_i kvs hb
   split at h
   ·rename_i k hk
    obtain⟨d,h1,h2⟩:=ZzR.mp h;exact⟨x,_,hx,hb,.inl ⟨kvs,k,d,rfl,hk,h1,h2.symm⟩⟩
   ·cases h
  ·rename_i kvs hb
   split at h
   ·rename_i k hk
    obtain⟨d,h1,h2⟩:=ZzR.mp h;exact⟨x,_,hx,hb,.inr (.inl ⟨kvs,k,d,rfl,hk,h1,h2.symm⟩)⟩
   ·cases h
  ·rename_i kvs hb
   split at h
   ·rename_i k hk
    obtain⟨d,h1,h2⟩:=ZzR.mp h;exact⟨x,_,hx,hb,.inr (.inr ⟨kvs,k,d,rfl,hk,h1,h2.symm⟩)⟩
   ·cases h
  ·cases h
 ·cases h
theorem Zsy(hu:X.A.units+1<cLine)(i:Nat)(hk:XE X b fb)(hN:X.N[i]?=some x:=by rfl)(hv:Vis X.env.scope x:=by first | exact ZAB rfl | exact ZAj (ZAB rfl) | exact ZAj (ZAj rfl))(hd:(x==("__debug__":Str))=false:=by decide)(hcd:(x==("__classdict__":Str))=false:=by decide)
  (hs:ZpV b:=by intro _ _; rfl):XB X (.Subscript (.Name x p1) b pos) (HM.ZpH i fb):=by
 intro r q h;obtain⟨y,bb,h1,h2,h3⟩:=Zug h;refine PE.imp (Zma hu (Zcg hN hv hd hcd) (hk r y h1) hs) λσ H Q ⟨F0,H0,F,at_,kk⟩=>?_;obtain⟨u,fp,e1,e2⟩:=at_.any h2;refine⟨u,e1,F0,H0,F,at_,λw F2 H2 x2 r2=>?_⟩;have e2':=e2.mono x2.ff λ_ _ _ z=>x2.hh _ _ z;rcases h3 with⟨kvs,k,d,rfl,hk',hl,rfl⟩ | ⟨kvs,k,d,rfl,hk',hl,rfl⟩ | ⟨kvs,k,ds,rfl,hk',hl,rfl⟩
 ·cases e2' with
  | @ok l _ vvs g1 g2 g3=>obtain⟨v,q1,q2⟩:=(ZaS.look (k:=k) (K:=X.K) (F:=F2) ⟨g2,g3⟩).1 d hl;rw[ZgX hk' r2];exact⟨l,v,rfl,by rw[<-q1]; exact Zch.k g1,kk v F2 H2 x2 ⟨[],.pl q2⟩⟩
 ·cases e2' with
  | @ot l _ vvs g1 g2 g3=>obtain⟨v,q1,q2⟩:=(ZaS.look (k:=k) (K:=X.K) (F:=F2) ⟨g2,g3⟩).1 d hl;obtain⟨bb',rfl,hbb⟩:=ZbY hk' r2;exact⟨l,v,rfl,by rw[<-q1]; exact Zch.t g1 (x2.sub _ _ hbb),kk v F2 H2 x2 ⟨[],.pl q2⟩⟩
 ·obtain⟨l,vvs,ls,rfl,_,g1,_,_,hlk⟩:=ZoG e2'
  obtain⟨l',vs,q1,_,q2,q3⟩:=(hlk k).1 ds hl;obtain⟨bb',rfl,hbb⟩:=ZbY hk' r2;exact⟨l,_,rfl,by rw[<-q1]; exact Zch.t g1 (x2.sub _ _ hbb),kk _ F2 H2 x2 ⟨[l'],.ol q2 q3⟩⟩
end
end HP
namespace HP
open PySem PySem.Spec PyProof.Rows L2
variable{p:Addr}{env:Env}{r:HM.Env}{F F0 H H0:Hp}{σ:L2.St}{K:ZzS}{scope:Scope}
variable[FX]
abbrev No:Value->Shared->Prop:=λ_ _=>False
abbrev Zrg(ifs:List Expr)(env:Env):Sem Bool :=
 forIn ifs true λc r=>if r=true then do let ok <-isTrue c env (eval c env); pure (ZDt ok)else pure (ZDt r)
theorem ZsP{prog:Program}{w:World}{A:Around}{R:Result->Shared->Prop}{s:Shared}{elt target iter:Expr}{ifs:List Expr}{pos:Pos}{it acc:Value}(J:Nat->Shared->Prop)
  (turn:∀n s,J n s->wpAny (model prog w) A (pyNext it) (λr s1=>match r with
   | none=>R (.ok .next) s1
   | some v=>wpAny (model prog w) A (ZDq target it v) (λ_ s2=>wpAny (model prog w) A (assign target env v) (λ_ s3=>wpAny (model prog w) A (Zrg ifs env) (λok s4=>if ok=true then wpAny (model prog w) A (eval elt env) (λx s5=>wpAny (model prog w) A (call (.builtin "list.append") [acc,x]) (λ_ s6=>∃m,m<n/\J m s6) No s5) No s4 else ∃m,m<n/\J m s4) No s3) No s2) No s1) No s)
  (n:Nat) (h:J n s):codeAny (model prog w) A (.compLoop (.ListComp elt [⟨target,iter,ifs,0⟩] scope pos) 0 it acc env) R s:=by
 refine codeAny_loop rfl J (λn s hI=>?_) n h;show wpAny _ A ((compTurn (.ListComp elt [⟨target,iter,ifs,0⟩] scope pos) 0 it acc env).onRaise (λx=>do noteFrame x env; theTreesLotGoes x)) _ _ s;refine wpAny_noted ?_;rw[compTurn_list];refine ZzQ (wpAny_standAt (ZzQ (ZBg (turn n s hI) (λr s1 h1=>?_) λ_ _ z=>z.elim)));cases r with
 | none=>exact ZzV h1
 | some v =>
  refine ZzQ (ZBg h1 (λ_ s2 h2=>ZzQ (ZBg h2 (λ_ s3 h3=>ZzQ (ZBg h3 (λok s4 h4=>?_) λ_ _ z=>z.elim)) λ_ _ z=>z.elim)) λ_ _ z=>z.elim);cases ok with
  | false=>exact ZzV ⟨rfl,h4⟩
  | true=>refine ZzQ (ZzQ (ZBg h4 (λx s5 h5=>?_) λ_ _ z=>z.elim));exact ZzQ (ZBg h5 (λ_ s6 h6=>ZzV (ZzV ⟨rfl,h6⟩)) λ_ _ z=>z.elim)
def ZV(X:Cx)(N:List Str)(scope:Scope)(cl:List (Str × Addr))(C:Addr)(s₀:Shared)(H₀:Hp)(ex:List Addr):Cx where
 prog:=X.prog
 w:=X.w
 K:=X.K
 mg:=X.mg
 base:=X.base
 A:=X.A
 N:=N
 s₀:=s₀
 H₀:=H₀
 env:=compEnvC scope cl C X.env
 outer:=X.stack
 stack:=X.stack
 ex:=ex
 fn:=λ_=>false
 calm:=true
 pn:=[]
 xe:=λ_ _=>False
theorem Zin{env:Env}:∀(names:List (Str × NameKind)) (cs:List (Str × Addr)),(∀y∈names,y.2=.free->∃c,env.cells.lookup y.1=some c)->(∀x c,cs.lookup x=some c->env.cells.lookup x=some c) ->
  ∃cl,(forIn names cs λ(x:Str × NameKind) r=>(match x with | (name,kind)=>if kind==.free then do let c <-cellOf env name; pure (ZDt ((name,c)::r))else pure (ZDt r):Sem (ForInStep (List (Str × Addr)))))=pure cl /\
   (∀x c,cl.lookup x=some c->env.cells.lookup x=some c)/\(∀x,(cs.lookup x).isSome=true->(cl.lookup x).isSome=true)/\∀y∈names,y.2=.free->(cl.lookup y.1).isSome=true
 | [],cs,_,h2=>⟨cs,rfl,h2,λ_ h=>h,λy hy=>by simp at hy⟩
 | (n,k)::r,cs,h1,h2=>by
  rw[List.forIn_cons]
  by_cases hk:(k==ZCa)=true
  ·obtain⟨c,hc⟩:=h1 (n,k) (ZzT ..) (by simpa using hk)
   have ec:cellOf env n=pure c:=by unfold cellOf; rw[hc]
   obtain⟨cl,e1,e2,e3,e4⟩:=Zin r ((n,c)::cs) (λy hy=>h1 y (ZzU _ hy)) (λx d hx=>by
    rw[ZBK]at hx;split at hx
    ·rename_i hb
     have:x=n:=by simpa using hb
     cases hx; rw[this]; exact hc
    ·exact h2 x d hx)
   refine⟨cl,?_,e2,λx hx=>e3 x ?_,λy hy hf=>?_⟩
   ·simp only[hk,if_true,ec,pure_bind]
    exact e1
   ·rw[ZBK]
    split
    ·rfl
    ·exact hx
   ·rcases Zz7.mp hy with e | hy
    ·subst e
     exact e3 n (by rw[ZBK]; simp)
    ·exact e4 y hy hf
  ·obtain⟨cl,e1,e2,e3,e4⟩:=Zin r cs (λy hy=>h1 y (ZzU _ hy)) h2
   refine⟨cl,?_,e2,e3,λy hy hf=>?_⟩
   ·simp only[hk,if_false,pure_bind,ZBO]
    exact e1
   ·rcases Zz7.mp hy with e | hy
    ·subst e
     exact absurd (by simpa using hf) hk
    ·exact e4 y hy hf
theorem ZfV(h:∀y∈scope.names,y.2=.free->∃c,env.cells.lookup y.1=some c) :
  ∃cl,closureFor scope env=pure cl/\(∀x c,cl.lookup x=some c->env.cells.lookup x=some c)/\∀y∈scope.names,y.2=.free->(cl.lookup y.1).isSome=true:=by
 obtain⟨cl,e1,e2,_,e4⟩:=Zin (env:=env) scope.names [] h (λx c hx=>by simp at hx);refine⟨cl,?_,e2,e4⟩;unfold closureFor;exact(congrArg (λm:Sem (List (Str × Addr))=>m >>= λcs=>pure cs) e1).trans (pure_bind cl λcs=>pure cs)
theorem Ext.chg{F' H':Hp}(x:Ext F H F' H')(o:HO)(h1:H p=none)(h2:F' p=none)(h3:∀u,H' p=some u->Zmr u=true):Ext F H F' (upd H' p o) :=
 ⟨x.ff,λb q z=>by
  have hb:b≠p:=ZaF z h1;have y:=x.hh b q z;unfold Zdq at y ⊢;rw[ZB hb];exact y,λb q z=>by rw[ZB (ZaF z h2)]; exact x.sub b q z,x.new,λt=>(x.tab t).keep λa u z hu=>by
   have ha:a≠p:=λe=>by subst e; exact ZtF (h3 u z) hu
   rw[ZB ha]; exact z,x.nts⟩
theorem At.push{d:PyData}{v:V}(e:At K F0 H0 F H r σ)(q:Rep K F d v):At K F0 H0 F H (some (.pl d)::r) (some v::σ):=by
 obtain⟨fp,e⟩:=e;refine⟨λi=>match i with | 0=>[] | i+1=>fp i,e.ext,by rw[Zz8,Zz8,e.len],λi b h=>?_,λi h=>?_,λi a h=>?_,λi=>?_,λi j a hij h=>?_,e.tb,e.nt⟩
 ·cases i with
  | zero=>rw[ZCs]at h;cases h;exact⟨v,rfl,.pl q⟩
  | succ i=>rw[ZAA]at h;obtain⟨u,h1,h2⟩:=e.at_ i b h;exact⟨u,by rw[ZAA]; exact h1,h2⟩
 ·cases i with
  | zero=>rfl
  | succ i=>exact e.emp i λb z=>h b (by rw[ZAA]; exact z)
 ·cases i with
  | zero=>simp at h
  | succ i=>exact e.own i a h
 ·cases i with
  | zero=>exact ZBB
  | succ i=>exact e.nd i
 ·cases i with
  | zero=>simp at h
  | succ i =>
   cases j with
   | zero=>simp
   | succ j=>exact e.dis i j a (by omega) h
theorem At.chgNew(o:HO){Hs Fs:Hp}(e:At K F0 H0 F H r σ)(es:At K F0 H0 Fs Hs r σ)(hs:ZaM Hs H)(h1:Hs p=none)(h2:F p=none)(h3:∀u,H p=some u->Zmr u=true):At K F0 H0 F (upd H p o) r σ:=by
 obtain⟨fp,e⟩:=e;obtain⟨fq,es⟩:=es;have hp:∀i,¬p∈fp i:=λi hm=>by
  obtain⟨b,hb⟩:=e.bound hm;obtain⟨v,q1,q2⟩:=e.at_ i b hb;obtain⟨v',q3,q4⟩:=es.at_ i b hb;rw[q1]at q3;cases q3;generalize fp i=f1 at q2 hm;generalize fq i=f2 at q4;cases q2 with
  | pl _=>simp at hm
  | hd _ _ _ _=>simp at hm
  | hf _=>simp at hm
  | ol k _=>cases q4 with | ol k' _=>simp at hm; subst hm; rw[h1]at k'; cases k'
  | ok k _ _=>cases q4 with | ok k' _ _=>simp at hm; subst hm; rw[h1]at k'; cases k'
  | ot k _ _=>cases q4 with | ot k' _ _=>simp at hm; subst hm; rw[h1]at k'; cases k'
  | otl k _ v1 _ =>
   cases q4 with
   | otl k' hk' v2 r2' =>
    have eo:=hs.back k' k λ_ z=>by cases z
    cases eo;have v2':=v2;rw[v1]at v2;rcases Zz7.mp hm with z2 | z2
    ·subst z2; rw[h1]at k'; cases k'
    ·have:V.ref p∈ZDD V.ref _:=Zz1.mpr ⟨p,z2,rfl⟩
     rw[v2]at this;obtain⟨a',m1,m2⟩:=Zz1.mp this;injection m2 with m2
     subst m2;obtain⟨o,ho⟩:=Zag.there (Zag.otl k' hk' v2' r2') (ZzU _ m1);rw[h1]at ho; cases ho
 have hH0:H0 p=none:=es.ext.hh.free h1;refine⟨fp,e.ext.chg o hH0 h2 h3,e.len,λi b h=>?_,e.emp,e.own,e.nd,e.dis,e.tb,e.nt⟩;obtain⟨v,q1,q2⟩:=e.at_ i b h;refine⟨v,q1,q2.mono (Zq.refl F) λa ha o' z=>?_⟩;have hne:a≠p:=λe=>hp i (by rw[<-e]; exact ha);exact .of (by rw[ZB hne]; exact z)
end HP
namespace HP
open PySem PySem.Spec PyProof.Rows L2
variable{Y:Cx}{H H1:Hp}{σ:L2.St}{pins:List (Addr × Obj)}{fp:List Addr}{s s2:Shared}
variable[FX]
structure Zdp(X:Cx)(N:List Str)(scope:Scope)(fr:List Str):Prop where
 kind:scope.kind=.function
 cell:∀y∈scope.names,y.2≠.cell
 names:∀y∈scope.names,y.2=.local->scope.names.lookup y.1=some .local
 loc:∀x∈fr,scope.names.lookup x=some .local
 first:∀(i:Nat) (x:Str),fr[i]?=some x->N[i]?=some x
 nd:N.Nodup
 len:N.length=X.N.length+fr.length
 cap:∀y∈scope.names,y.2=.free->X.env.kindOf y.1=some .cell\/X.env.kindOf y.1=some .free
 same:∀(i:Nat) (y:Str),N[i+fr.length]?=some y->scope.names.lookup y=some .free->X.N[i]?=some y
 vis:∀(i:Nat) (y:Str),N[i+fr.length]?=some y->Vis scope y->scope.names.lookup y=some .free
def goG(dec:PyData->Option (List PyData))(c:HM.TF)(e:HM.EF)(r:HM.Env):List PyData->Option (List PyData)
 | []=>some []
 | x::xs=>match dec x with
  | some ys=>match c (ys.map (λd=>some (HM.B.pl d))++r)with
   | some true=>match e (ys.map (λd=>some (HM.B.pl d))++r)with
    | some y=>(goG dec c e r xs).map (y::·)
    | none=>none
   | some false=>goG dec c e r xs
   | none=>none
  | none=>none
def Zfz(dec:PyData->Option (List PyData))(i:HM.IF)(c:HM.TF)(e:HM.EF):HM.BF:=λr=>match i r with
 | some xs=>if xs.length<HM.big then(goG dec c e r xs).map λys=>HM.B.ol ys else none
 | none=>none
def Zjx(Y:Cx)(m:Nat)(tg:Expr)(dec:PyData->Option (List PyData)):Prop:=∀(pins:List (Addr × Obj)) (s:Shared) (σ:L2.St) (sv:List (Option V)) (H F:Hp) (d:PyData) (ys:List PyData) (xv:V) (u:Value),sv.length=m->Inv Y pins (sv++σ) H s->RelV xv u->Zq F H->Rep Y.K F d xv->dec d=some ys ->
 wpAny (model Y.prog Y.w) Y.A (assign tg Y.env u) (λ_ s'=>∃vs:List V,vs.length=m/\Inv Y pins (vs.map some++σ) H s'/\Zt Y.K F ys vs) Y.xe s
theorem At.pushes{K:ZzS}{F0 H0 F H:Hp}{r:HM.Env}{σ:L2.St}:∀{ds:List PyData} {vs:List V},At K F0 H0 F H r σ->Zt K F ds vs->At K F0 H0 F H (ds.map (λd=>some (HM.B.pl d))++r) (vs.map some++σ)
 | [],vs,e,q=>by rw[q.nil_inv];exact e
 | d::ds,vs,e,q=>by obtain⟨v,us,rfl,r1,r2⟩:=q.cons_inv;exact(At.pushes e r2).push r1
section
variable{X:Cx}{N:List Str}{scope:Scope}{fr:List Str}{cl:List (Str × Addr)}{C:Addr}
theorem ZbF{env:Env}{y:Str}{k:NameKind}:∀{names:List (Str × NameKind)},(names.map λ(n,k)=>if(k==ZCa&&env.scope.kind==.function&&env.kindOf n==some .cell)then(n,NameKind.cell)else(n,k)).lookup y=some k ->
  names.lookup y=some k\/(k=.cell/\names.lookup y=some .free)
 | [],h=>by simp at h
 | (n,k')::r,h=>by
  have ih:=@ZbF env y k r;rw[ZzZ]at h;dsimp only at h
  by_cases hc:(k'==ZCa&&env.scope.kind==.function&&env.kindOf n==some .cell)=true
  ·rw[if_pos hc,ZBK]at h
   rw[ZBK];split at h
   ·cases h
    refine .inr ⟨rfl,?_⟩;have:(k'==ZCa)=true:=by rw[ZAc,ZAc]at hc;exact hc.1.1
    rw[show k'=ZCa by simpa using this]
   ·exact ih h
  ·rw[if_neg hc,ZBK]at h
   rw[ZBK];split at h
   ·cases h
    exact .inl rfl
   ·exact ih h
theorem lookup_mem{y:Str}{k:NameKind}:∀{names:List (Str × NameKind)},names.lookup y=some k->(y,k)∈names
 | [],h=>by simp at h
 | (n,k')::r,h=>by
  rw[ZBK]at h;split at h
  ·cases h
   rename_i hb;rw[show y=n by simpa using hb];exact ZzT ..
  ·exact ZzU _ (lookup_mem h)
theorem ZwB(T:Zdp X N scope fr)(hcl:∀y c,cl.lookup y=some c->X.env.cells.lookup y=some c)(hfr:∀y∈scope.names,y.2=.free->(cl.lookup y.1).isSome=true)
  (I:Inv X pins σ H s) (hc:X.calm=true) (hf:∀b∈fp,ZfO X pins H b) (hfl:∀b∈fp,b<s.heap.objs.size) (hC:s.heap.objs.size<=C):(ZV X N scope cl C s H fp).Ok:=by
 refine⟨I.ok.mod,T.kind,I.ok.glob,I.ok.blt,hC,λy z c h1 h2=>I.ok.inj y z c (hcl y c h1) (hcl z c h2),λy h=>?_,λy c h=>?_,λ_=>I.ok.hd hc,I.ok.frames,.inl rfl,λb hb=>⟨?_,λy c h=>?_⟩,λb o h=>I.bs b o h,
  ZAR I.ok.bsz I.sz,λb o h hb=>?_,λb hb hs=>?_,I.stack,I.stkFree⟩
 ·have h':(relabel scope X.env).names.lookup y=some .cell\/(relabel scope X.env).names.lookup y=some .free:=h
  have hm:(y,ZCa)∈scope.names:=by
   rcases h' with h' | h'
   ·rcases ZbF h' with q | ⟨_,q⟩
    ·exact absurd rfl (T.cell _ (lookup_mem q))
    ·exact lookup_mem q
   ·rcases ZbF h' with q | ⟨e,_⟩
    ·exact lookup_mem q
    ·cases e
  exact ZAt.mp (hfr _ hm rfl)
 ·exact absurd h (by show ¬false=true; simp)
 ·exact ZAf (ZAn (hfl b hb) hC)
 ·obtain⟨_,_,_,_,q,_⟩:=hf b hb
  exact q y c (hcl y c h)
 ·obtain⟨_,_,_,q,_⟩:=hf b hb
  rcases q with q | q
  ·exact I.ok.noex b o h q
  ·exact absurd (ZAn (Zz9 h) (ZAR I.ok.bsz q)) (ZBI _)
 ·obtain⟨_,q1,q2,_⟩:=hf b hb
  rcases Zz7.mp (I.stkSub b hs)with z | z
  ·exact q1 z
  ·exact q2 z
theorem Zpv{D:Addr}{h1:Heap}{tk:Nat}(T:Zdp X N scope fr)(hcl:∀y c,cl.lookup y=some c->X.env.cells.lookup y=some c)(hfr:∀y∈scope.names,y.2=.free->(cl.lookup y.1).isSome=true)
  (I:Inv X pins σ H s) (hc:X.calm=true) (hf:∀b∈fp,ZfO X pins H b) (hfl:∀b∈fp,b<s.heap.objs.size) (hD:s.heap.objs.size=D) (hC:D<C) (ns:h1.Ns C (λ_=>none)) (hl:h1.get? D=some { cls:=.type "list",data:=.seq #[] 0 })
  (k:∀b o,s.heap.get? b=some o->h1.get? b=some o):Inv (ZV X N scope cl C s H fp) [] (ZAs fr.length none++σ) (upd H D (.lst [])) { s with heap:=h1,toks:=tk }:=by
 have hn:H D=none:=I.hok.fresh (ZDu hD);have hDC:s.heap.objs.size<=C:=ZAR (ZDu hD) (ZBP hC);have hCn:H C=none:=I.hok.fresh hDC;refine⟨ZwB T hcl hfr I hc hf hfl hDC,rfl,I.bare,Un.laid k (ZDu hD) hn,⟨_,ns,λi y v e1 e2 e3=>?_⟩,λy c h=>?_,?_,λy c h=>?_,λp hp=>absurd (show p∈([]:List (Addr × Obj)) from hp) (by simp),I.hok.laid k (ZDu hD) ⟨ZBq _,[],0,.nil,hl⟩,?_⟩
 ·have hge:fr.length<=i:=by
   apply ZCk;intro hlt;rw[ZAw (by rw[ZAI]; exact hlt),ZCr,if_pos hlt]at e2;cases e2
  rw[ZAG (by rw[ZAI]; exact hge),ZAI]at e2;obtain⟨j,rfl⟩:∃j,i=j+fr.length:=⟨i-fr.length,by omega⟩;rw[Nat.add_sub_cancel]at e2
  ·have e3':Vis scope y:=by
    have e3:Vis (relabel scope X.env) y:=e3;rcases e3 with q | q | q
    ·rcases ZbF q with q | ⟨z,_⟩
     ·exact .inl q
     ·cases z
    ·rcases ZbF q with q | ⟨_,q⟩
     ·exact .inr (.inl q)
     ·exact .inr (.inr q)
    ·rcases ZbF q with q | ⟨z,_⟩
     ·exact .inr (.inr q)
     ·cases z
   have hfree:=T.vis j y e1 e3';have hm:=lookup_mem hfree;have hN:=T.same j y e1 hfree;have hcap:=T.cap _ hm rfl;obtain⟨m,_,hl⟩:=I.loc;obtain⟨u,ru,lu⟩:=hl j y v hN e2 (by
    rcases hcap with q | q
    ·exact .inr (.inl q)
    ·exact .inr (.inr q))
   refine⟨u,ru,?_⟩;obtain⟨c,hcc⟩:=ZAt.mp (hfr _ hm rfl);rcases lu with⟨q,_⟩ | ⟨_,c',e,z⟩
   ·rcases hcap with q' | q'<;>(rw[q']at q; cases q)
   ·refine .inr ⟨?_,c,hcc,?_⟩
    ·rcases e3 with q | q | q
     ·have q:(relabel scope X.env).names.lookup y=some .local:=q
      rcases ZbF q with q | ⟨z,_⟩
      ·rw[hfree]at q; cases q
      ·cases z
     ·exact .inl q
     ·exact .inr q
    ·rw[hcl y c hcc]at e
     cases e;obtain⟨o,ho,hd⟩:=z;exact⟨o,k _ _ ho,hd⟩
 ·obtain⟨v,o,ho,hd⟩:=I.cell y c (hcl y c h)
  exact⟨v,o,k _ _ ho,hd⟩
 ·show upd H D (.lst []) C=none
  rw[ZB (ZCU hC)];exact hCn
 ·have hq:=I.freeC y c (hcl y c h)
  obtain⟨v,o,ho,_⟩:=I.cell y c (hcl y c h);have:c≠D:=ZAf (by rw[<-hD]; exact Zz9 ho);rw[ZB this];exact hq
 ·show(ZAs fr.length none++σ).length=N.length
  rw[ZAb,ZAI,I.len,T.len,Nat.add_comm]
def XTs(Y:Cx)(ifs:List Expr)(f:HM.TF):Prop:=∀r c,f r=some c->∀(pins:List (Addr × Obj)) (s:Shared) (σ:L2.St) (H:Hp) (Q:Bool->Hp->Prop),Inv Y pins σ H s->(Now Y.K r σ H λF0 H0 F=>∀F' H',Ext F H F' H'->Q c H') ->
 wpAny (model Y.prog Y.w) Y.A (Zrg ifs Y.env) (TP Y pins σ Q) Y.xe s
theorem ZaY:XTs Y [] HM.ZN:=by intro r c h pins s σ H Q I ⟨F0,H0,F,at_,k⟩;cases h;exact wpAny_tests_nil ⟨H,I,k F H at_.refl⟩
theorem Zc6{e:Expr}{f:HM.TF}(h:XT Y e f):XTs Y [e] f:=λr c hc pins s σ H Q I q=>wpAny_tests_one (h r c hc pins s σ H Q I q)
def ItE(K:ZzS)(J:It)(ds:List PyData)(F:Hp):Prop:=∀F' H,Zq F F'->Zq F' H ->
 (∀(i:Nat) (d:PyData),ds[i]?=some d->J.go i H/\∀x H',J.yld i H x H'->∃F2,Ext (Zci F' H) H F2 H'/\Rep K F2 d x)/\J.stop ds.length H
theorem ItD.e{K:ZzS}{J:It}{ds:List PyData}{F:Hp}(h:ItD K J ds F):ItE K J ds F:=λF' H s1 s2=>by obtain⟨a,b⟩:=h F' H s1 s2;refine⟨λi d hd=>⟨(a i d hd).1,λx H' hy=>?_⟩,b⟩;obtain⟨e,r⟩:=(a i d hd).2 x H' hy;subst e;exact⟨_,.refl (Ext.refl s2).tups.sub,r⟩
def XIE(X:Cx)(tg e:Expr)(f:HM.IF):Prop:=∀r ds,f r=some ds->PI X tg e λσ H R=>Now X.K r σ H λF0 H0 F=>∀J F' H',Ext F H F' H'->ItE X.K J ds F'->R J H'
theorem XI.e{X:Cx}{tg e:Expr}{f:HM.IF}(h:XI X tg e f):XIE X tg e f:=λr ds hr pins s σ H R I ⟨F0,H0,F,at_,k⟩=>h r ds hr pins s σ H R I ⟨F0,H0,F,at_,λJ F' H' x q=>k J F' H' x q.e⟩
theorem ZpL{it D:Addr}{tn:Nat->Heap->Prop}{J:It}{elt iter:Expr}{ifs:List Expr}{tg:Expr}{pos:Pos}{dec:PyData->Option (List PyData)}{fc:HM.TF}{fe:HM.EF}{s4:Shared}{r:HM.Env}{ds out:List PyData}{Fs Hs F0 H0 F1:Hp}
  {R:Result->Shared->Prop} (T:Zdp X N scope fr) (I2:Inv X pins σ H1 s2) (W:Turn X.prog X.w X.K tg J fp it tn) (hf:∀b∈fp,ZfO X pins H1 b)
  (I4:Inv (ZV X N scope cl C s2 H1 fp) [] (ZAs fr.length none++σ) (upd H1 D (.lst [])) s4) (tn0:tn 0 s4.heap) (hD:s2.heap.objs.size<=D) (hfl:∀b∈fp,b<s2.heap.objs.size) (hbl:X.calm=true)
  (hc:XTs (ZV X N scope cl C s2 H1 fp) ifs fc) (he:XE (ZV X N scope cl C s2 H1 fp) elt fe) (at_:At X.K F0 H0 Fs Hs r σ) (x1:Ext Fs Hs F1 H1) (itd:ItE X.K J ds F1) (hbind:Zjx (ZV X N scope cl C s2 H1 fp) fr.length tg dec) (hbig:ds.length<HM.big) (go:goG dec fc fe r ds=some out)
  (hR:∀s',(∃F H vs,Inv (ZV X N scope cl C s2 H1 fp) [] (ZAs fr.length none++σ) H s'/\Ext Fs Hs F H/\H D=some (.lst vs)/\F D=none/\Zt X.K F out vs)->R (.ok .next) s') :
  codeAny (model X.prog X.w) X.A (.compLoop (.ListComp elt [⟨tg,iter,ifs,0⟩] scope pos) 0 (.ref it) (.ref D) (compEnvC scope cl C X.env)) R s4:=by
 have hH1D:H1 D=none:=I2.hok.fresh hD;have hHsD:Hs D=none:=x1.hh.free hH1D;have hF1D:F1 D=none:=x1.sub.free hH1D;have hfpD:∀b∈fp,b≠D:=λb hb=>ZAf (ZAn (hfl b hb) hD);have okY:=I4.ok;have stat:∀{H:Hp},(∀b∈fp,H b=none)->∀b∈fp,ZfO (ZV X N scope cl C s2 H1 fp) [] H b:=λhn b hb=>⟨hn b hb,(okY.exf b hb).1,okY.exfs b hb,.inl hb,(okY.exf b hb).2,λp hp=>absurd (show p∈([]:List (Addr × Obj)) from hp) (by simp)⟩;refine ZsP (λn s'=>∃(j:Nat) (sv:List (Option V)) (F H:Hp) (ys:List PyData) (vs:List V) (rest:List PyData),sv.length=fr.length/\Inv (ZV X N scope cl C s2 H1 fp) [] (sv++σ) H s'/\tn j s'.heap/\(∀b∈fp,H b=none)/\Ext Fs Hs F H/\Zq F1 F/\At X.K F0 H0 F H r σ /\
  H D=some (.lst vs)/\F D=none/\Zt X.K F ys vs/\j+n=ds.length/\ys.length<=j/\goG dec fc fe r (ds.drop j)=some rest/\out=ys++rest) ?_ ds.length
  ⟨0,ZAs fr.length none,F1,_,[],[],out,ZAI,I4,tn0,λb hb=>by rw[ZB (hfpD b hb)]; exact(hf b hb).1,x1.lay' hH1D,Zq.refl _,(at_.grow x1).grow ((at_.grow x1).refl.lay' hH1D),ZF,hF1D,.nil,by omega,Zz3 _,go,rfl⟩
 rintro n s5 ⟨j,sv,F,H,ys,vs,rest,hsv,I5,tn5,hfp5,x5,sF,at5,hHD,hFD,rys,hjn,hyl,hgo,hout⟩
 obtain⟨it1,it2⟩:=itd F H sF at5.sub;cases n with
 | zero =>
  have ej:j=ds.length:=by omega
  subst ej;rw[ZEa]at hgo;cases hgo;rw[ZAE]at hout;subst hout;refine thn (W.done (ZV X N scope cl C s2 H1 fp) rfl rfl rfl rfl _ [] s5 _ H No I5 (stat hfp5) tn5 it2) λrv s6 ⟨e,I6⟩=>?_;subst e;refine hR s6 ⟨F,H,vs,I6.weak (by rw[ZAb,ZAb,ZAI,hsv]) λi v hv=>?_,x5,hHD,hFD,rys⟩
  by_cases hi:i<fr.length
  ·rw[ZAw (by rw[ZAI]; exact hi),ZCr,if_pos hi]at hv
   cases hv
  ·rw[ZAG (by rw[ZAI]; omega),ZAI]at hv
   rw[ZAG (by omega),hsv];exact hv
 | succ n =>
  have hlt:j<ds.length:=by omega
  obtain⟨jg,jy⟩:=it1 j ds[j] (Zz2 hlt);obtain⟨F2,x5,sF,at5,hFD,rys,jy⟩:∃F2,Ext Fs Hs F2 H/\Zq F1 F2/\At X.K F0 H0 F2 H r σ/\F2 D=none/\Zt X.K F2 ys vs/\∀x H',J.yld j H x H'->∃F3,Ext F2 H F3 H'/\Rep X.K F3 ds[j] x :=
   ⟨Zci F H,x5.tups,sF.trans (ZcQ at5.sub),at5.grow at5.refl.tups,by unfold Zci; rw[hHD]; exact hFD,rys.mono (ZcQ at5.sub),jy⟩
  clear it1 it2
  rw[ZCR hlt]at hgo;refine thn (W.item (ZV X N scope cl C s2 H1 fp) rfl rfl rfl rfl j [] s5 _ H No I5 (stat hfp5) tn5 jg) λrv s6 ⟨u,e,h6⟩=>?_;subst e;refine thn h6 λ_ s7 ⟨xv,H7,I7,r7,y7,tn7,fr7⟩=>?_;obtain⟨F7,x7,rx⟩:=jy xv H7 y7;obtain⟨F2,x5,sF,at5,hHD,hFD,rys,rx⟩:∃F2,Ext Fs Hs F2 H7/\Zq F1 F2/\At X.K F0 H0 F2 H7 r σ/\H7 D=some (.lst vs)/\F2 D=none/\Zt X.K F2 ys vs/\Rep X.K F2 ds[j] xv:=by
   refine⟨F7,x5.trans x7,sF.trans x7.ff,at5.grow x7,x7.hh _ _ hHD,?_,rys.mono x7.ff,rx⟩;cases q:F7 D with
   | none=>rfl
   | some o =>
    rcases x7.new D o q with z | z
    ·rw[hFD]at z; cases z
    ·exact(z.no hHD λ_ q=>by cases q).elim
  have I7':=I7.pinned (stat fr7) (W.obj _ _ tn7);unfold goG at hgo;split at hgo
  case h_2=>cases hgo
  rename_i zs hzs;have dok:=hbind _ s7 σ sv H7 F2 ds[j] zs xv u hsv I7' r7 at5.sub rx hzs;refine thn dok λ_ s8 ⟨ws,hws,I8,rws⟩=>?_;have atp:=at5.pushes rws;have again:∀{s9:Shared} {F9 H9:Hp} {zs9:List PyData} {ws9:List V} {rest':List PyData},Inv (ZV X N scope cl C s2 H1 fp) ([]++Zjt fp s7.heap) (ws.map some++σ) H9 s9->Ext Fs Hs F9 H9->Zq F2 F9->At X.K F0 H0 F9 H9 r σ->H9 D=some (.lst ws9)->F9 D=none->Zt X.K F9 zs9 ws9->zs9.length<=j+1->goG dec fc fe r (ds.drop (j+1))=some rest'->out=zs9++rest' ->
    ∃m,m<n+1/\∃(j:Nat) (sv:List (Option V)) (F2 H:Hp) (ys:List PyData) (vs:List V) (rest:List PyData),sv.length=fr.length/\Inv (ZV X N scope cl C s2 H1 fp) [] (sv++σ) H s9/\tn j s9.heap/\(∀b∈fp,H b=none)/\Ext Fs Hs F2 H/\Zq F1 F2/\At X.K F0 H0 F2 H r σ /\
     H D=some (.lst vs)/\F2 D=none/\Zt X.K F2 ys vs/\j+m=ds.length/\ys.length<=j/\goG dec fc fe r (ds.drop j)=some rest/\out=ys++rest:=by
   intro s9 F9 H9 zs9 ws9 rest' I9 x9 s9F a9 h9 f9 r9 l9 g9 o9;refine⟨n,ZCl n,j+1,ws.map some,F9,H9,zs9,ws9,rest',by rw[ZzP]; exact hws,I9.unpinned,W.keep _ _ _ tn7 λb hb o e=>(I9.pin (b,o) (ZAg _ (ZAg _ (Zf8 hb e)))).1,λb hb=>?_,x9,sF.trans s9F,a9,h9,f9,r9,by omega,l9,g9,o9⟩;obtain⟨o,e,d⟩:=W.obj _ _ tn7 b hb;exact(I9.pin (b,o) (ZAg _ (ZAg _ (Zf8 hb e)))).2.1
  have noD:∀{F' H':Hp},Ext F2 H7 F' H'->F' D=none:=λ{F' H'} y=>by
   cases q:F' D with
   | none=>rfl
   | some o =>
    rcases y.new D o q with z | z
    ·rw[hFD]at z; cases z
    ·exact(z.no hHD λ_ q=>by cases q).elim
  split at hgo
  ·rename_i hcv
   split at hgo
   ·rename_i y hy
    obtain⟨rest',g1,g2⟩:=ZzR.mp hgo;subst g2;refine thn (hc _ _ hcv _ s8 _ H7 (λc' H'=>c'=true/\∃F',Ext F2 H7 F' H') I8 ⟨F0,H0,F2,atp,λF' H' y=>⟨rfl,F',y⟩⟩) λok s9 ⟨H9,I9,eok,F9,x9⟩=>?_;subst eok;rw[if_pos rfl];refine thn (he _ _ hy _ s9 _ H9 (λv' H'=>∃F',Ext F9 H9 F' H'/\Rep X.K F' y v') I9 ⟨F0,H0,F9,atp.grow x9,λv' F' H' x q=>⟨F',x,q⟩⟩) λu' s10 ⟨v',H10,I10,r10,F10,x10,q10⟩=>?_;have x910:=x9.trans x10;have hHD':H10 D=some (.lst vs):=x910.hh _ _ hHD;have hFD':=noD x910;refine thn (Zg6 (X:=ZV X N scope cl C s2 H1 fp) _ s10 _ H10 (.ref D) [v'] (.ref D) [u'] (λ_ H'=>H'=upd H10 D (.lst (vs++[v']))) I10 rfl (.cons r10 .nil) ⟨D,vs,v',rfl,rfl,hHD',?_,rfl⟩) λ_ s11 ⟨_,H11,I11,_,e11⟩=>?_
    ·have:=rys.1
     exact Zfk (by omega)
    subst e11;refine again (zs9:=ys++[y]) I11 ((x5.trans x910).chg _ hHsD hFD' λu z=>by rw[hHD']at z; cases z; rfl) x910.ff ((at5.grow x910).chgNew _ at_ (x5.trans x910).hh hHsD hFD' λu z=>by rw[hHD']at z; cases z; rfl) ZF hFD' ((rys.mono x910.ff).append (.one q10)) (by rw[ZAb]; show ys.length+1<=j+1; omega) g1 (by rw[hout,ZA8]; rfl)
   ·cases hgo
  ·rename_i hcv
   refine thn (hc _ _ hcv _ s8 _ H7 (λc' H'=>c'=false/\∃F',Ext F2 H7 F' H') I8 ⟨F0,H0,F2,atp,λF' H' y=>⟨rfl,F',y⟩⟩) λok s9 ⟨H9,I9,eok,F9,x9⟩=>?_;subst eok;rw[if_neg (by simp)];exact again (zs9:=ys) I9 (x5.trans x9) x9.ff (at5.grow x9) (x9.hh _ _ hHD) (noD x9) (rys.mono x9.ff) (by omega) hgo hout
  ·cases hgo
theorem Zpi{s':Shared}{sv:List (Option V)}{h':Heap}(I2:Inv X pins σ H1 s2)(hf:∀b∈fp,ZfO X pins H1 b)(hC:s2.heap.objs.size<=C)
  (I:Inv (ZV X N scope cl C s2 H1 fp) [] (sv++σ) H s') (hs:ZBG C s'.heap h'):Inv X pins σ H { s' with heap:=h' }:=by
 have u:Un (frs X.stack) fp H1 H s2.heap s'.heap:=I.base;have hCn:H C=none:=I.free;have ne:∀b o,s2.heap.get? b=some o->b≠C:=λb o e=>ZAf (ZAn (Zz9 e) hC);refine I2.call' (s':={ s' with heap:=h' }) (ch:=fp) I.os ⟨λb o e n hb hx=>(hs.2 b (ne b o e)).trans (u.keep b o e n hb hx),λb o e n hb hx=>?_,u.free,λb o e hx=>?_,u.tups,u.frzs,u.tbls⟩ (λb o e=>?_) I.bare λb hb=>?_
 ·obtain⟨sl,q⟩:=u.slot b o e n hb hx
  exact⟨sl,(hs.2 b (ne b o e)).trans q⟩
 ·obtain⟨o',q⟩:=u.there b o e hx
  exact⟨o',(hs.2 b (ne b o e)).trans q⟩
 ·refine(I.hok b o e).stay (λc w' hc q=>(hs.2 c ?_).trans q) (λ_ q=>q) λ_ _ q=>q
  rintro rfl
  rcases hc with rfl | hc
  ·rw[hCn]at e; cases e
  ·rw[hCn]at hc; cases hc
 ·obtain⟨q0,q1,q2,q3,q4,q5⟩:=hf b hb
  exact⟨q3,q1,q4,q5⟩
variable{elt iter:Expr}{ifs:List Expr}{tg:Expr}{pos:Pos}{fi:HM.IF}{dec:PyData->Option (List PyData)}{fc:HM.TF}{fe:HM.EF}
theorem ZpQ(T:Zdp X N scope fr)(I:Inv X pins σ H s):∀y∈scope.names,y.2=.free->∃c,X.env.cells.lookup y.1=some c:=λy hy e=>I.ok.has y.1 (T.cap y hy e)
theorem Zn0(hxe:X.xe=λ_ _=>False)(hcalm:X.calm=true)(T:Zdp X N scope fr)(hbind:∀cl C s H ex,Zjx (ZV X N scope cl C s H ex) fr.length tg dec)(hi:XIE X tg iter fi)(hc:∀cl C s H ex,XTs (ZV X N scope cl C s H ex) ifs fc)(he:∀cl C s H ex,XE (ZV X N scope cl C s H ex) elt fe)
  (hs:∀x,ZBh iter X.env x=pure x:=by intro _; rfl):XF X (.ListComp elt [⟨tg,iter,ifs,0⟩] scope pos) (Zfz dec fi fc fe):=by
 intro r b h;unfold Zfz at h;split at h
 ·rename_i ds hds
  split at h
  ·rename_i hbig
   obtain⟨out,hgo,e⟩:=ZzR.mp h;subst e;intro pins s σ H Q I ⟨F0,H0,F,at_,k⟩;obtain⟨cl,hclos,hcl,hfr⟩:=ZfV (ZpQ T I);rw[eval_ListComp];refine wpAny_comprehension_free (use:=none) rfl hs hclos T.kind T.names (thn (hi r ds hds pins s σ H (λJ H'=>∃F',Ext F H F' H'/\ItE X.K J ds F') I ⟨F0,H0,F,at_,λJ F' H' x q=>⟨F',x,q⟩⟩) λv s1 h1=>thn h1 λitv s2 h2=>?_);obtain⟨it,fp,tn,J,H1,rfl,I2,W,st2,f2,F1,x1,itd⟩:=h2;have hfl:∀b∈fp,b<s2.heap.objs.size:=λb hb=>let ⟨o,ho,_⟩:=W.obj 0 _ st2 b hb; Zz9 ho
   refine ZAO (ZDv T.cell (by intro y hy; simp at hy) (λh1 hns hsb=>?_) T.kind);dsimp only at hns hsb ⊢;generalize hP:s2.heap.push { cls:=.type "list",dict:=none,data:=.seq ([]:List Value).toArray }=h0 at hns hsb ⊢;have hsz:h0.objs.size=s2.heap.objs.size+1:=by rw[<-hP,ZBZ]
   have hDC:s2.heap.objs.size<h0.objs.size:=by rw[hsz]; exact ZCl _
   have old:∀b o,s2.heap.get? b=some o->h1.get? b=some o:=λb o e=>hsb.extBut b o (ZAf (ZBQ (Zz9 e) hDC)) (ZzW _ (by rw[<-hP]; exact ZzW _ e));have hl:h1.get? s2.heap.objs.size=some { cls:=.type "list",data:=.seq #[] 0 }:=hsb.extBut _ _ (ZAf hDC) (ZzW _ (by rw[<-hP]; exact ZAa _ rfl));have I4:Inv (ZV X N scope cl h0.objs.size s2 H1 fp) [] (ZAs fr.length none++σ) (upd H1 s2.heap.objs.size (.lst [])) { s2 with heap:=h1,toks:=s2.toks+([]:List (Str × Value)).length }:=Zpv T hcl hfr I2 hcalm f2 hfl rfl hDC hns hl old;have tn1:tn 0 h1:=W.keep _ _ _ st2 λb _ o e=>old b o e;have hHsD:H s2.heap.objs.size=none:=x1.hh.free (I2.hok.fresh (Zz3 _));have loop:codeAny (model X.prog X.w) X.A (.compLoop (.ListComp elt [⟨tg,iter,ifs,0⟩] scope pos) 0 (.ref it) (.ref s2.heap.objs.size) (compEnvC scope cl h0.objs.size X.env)) (compPost (model X.prog X.w) X.A X.xe none (EP X pins σ Q) (.ref s2.heap.objs.size) h0.objs.size)
     { s2 with heap:=h1,toks:=s2.toks+([]:List (Str × Value)).length }:=by
    refine ZpL T I2 W f2 I4 tn1 (Zz3 _) hfl hcalm (hc _ _ _ _ _) (he _ _ _ _ _) at_ x1 itd (hbind _ _ _ _ _) hbig hgo λs' ⟨F',H',vs,I',x',hD',hFD',rs⟩=>?_;obtain⟨m,hn,_⟩:=id I'.loc;refine⟨m,hn,λh2 hs2=>⟨.ref s2.heap.objs.size,H',Zpi I2 f2 (ZBP hDC) I' hs2,rfl,k _ F' H' x' ⟨[s2.heap.objs.size],.ol hD' rs,by simp,λa ha=>?_⟩⟩⟩;obtain rfl:a=s2.heap.objs.size:=by simpa using ha
    exact⟨hFD',hHsD⟩
   exact codeAny_compStart_list loop (W.self _ 0 _ _ _ tn1 loop)
  ·cases h
 ·cases h
theorem Zhj(i:Nat){y:Str}{py spos:Pos}(hN:X.N.Nodup)(hxe:X.xe=λ_ _=>False)(hcalm:X.calm=true)(T:Zdp X N scope fr)(hbind:∀cl C s H ex,Zjx (ZV X N scope cl C s H ex) fr.length tg dec)(hi:XIE X tg iter fi)(hc:∀cl C s H ex,XTs (ZV X N scope cl C s H ex) ifs fc)(he:∀cl C s H ex,XE (ZV X N scope cl C s H ex) elt fe)
  (hiy:X.N[i]?=some y:=by rfl) (hy:X.env.scope.names.lookup y=some .local:=by rfl) (hsw:ZBT (.ListComp elt [⟨tg,iter,ifs,0⟩] scope pos) (some (.Name y py)) spos.line X.env=pure true:=by rfl)
  (hs:∀x,ZBh iter X.env x=pure x:=by intro _; rfl):XS X (.Assign [.Name y py] (.ListComp elt [⟨tg,iter,ifs,0⟩] scope pos) spos) (HM.ZW i (Zfz dec fi fc fe)):=by
 intro r o h;obtain⟨b,hb,e⟩:=ZzR.mp h;subst e;unfold Zfz at hb;split at hb
 ·rename_i ds hds
  split at hb
  ·rename_i hbig
   obtain⟨out,hgo,e⟩:=ZzR.mp hb;subst e;intro pins s σ H E I ⟨F0,H0,F,at_,k⟩;obtain⟨cl,hclos,hcl,hfr⟩:=ZfV (ZpQ T I);rw[exec_Assign_Name_used _ _ _ _ hsw];refine ZzQ (wpAny_standAt (ZzQ ?_));show wpAny _ X.A (do let _ <-comprehension (.ListComp elt [⟨tg,iter,ifs,0⟩] scope pos) scope X.env _ (newList []) false (eval iter X.env) (some (assign (.Name y py) X.env))) _ _ s;refine ZzQ (ZBg (wpAny_comprehension_free (use:=some (assign (.Name y py) X.env)) (Q:=λ_ s'=>SP X pins E .next s') rfl hs hclos T.kind T.names (thn (hi r ds hds pins s σ H (λJ H'=>∃F',Ext F H F' H'/\ItE X.K J ds F') I ⟨F0,H0,F,at_,λJ F' H' x q=>⟨F',x,q⟩⟩) λv s1 h1=>thn h1 λitv s2 h2=>?_)) (λ_ s' hq=>ZzV (ZzV hq)) λ_ _ e=>e)
   obtain⟨it,fp,tn,J,H1,rfl,I2,W,st2,f2,F1,x1,itd⟩:=h2;have hfl:∀b∈fp,b<s2.heap.objs.size:=λb hb=>let ⟨o,ho,_⟩:=W.obj 0 _ st2 b hb; Zz9 ho
   refine ZAO (ZDv T.cell (by intro y hy; simp at hy) (λh1 hns hsb=>?_) T.kind);dsimp only at hns hsb ⊢;generalize hP:s2.heap.push { cls:=.type "list",dict:=none,data:=.seq ([]:List Value).toArray }=h0 at hns hsb ⊢;have hsz:h0.objs.size=s2.heap.objs.size+1:=by rw[<-hP,ZBZ]
   have hDC:s2.heap.objs.size<h0.objs.size:=by rw[hsz]; exact ZCl _
   have old:∀b o,s2.heap.get? b=some o->h1.get? b=some o:=λb o e=>hsb.extBut b o (ZAf (ZBQ (Zz9 e) hDC)) (ZzW _ (by rw[<-hP]; exact ZzW _ e));have hl:h1.get? s2.heap.objs.size=some { cls:=.type "list",data:=.seq #[] 0 }:=hsb.extBut _ _ (ZAf hDC) (ZzW _ (by rw[<-hP]; exact ZAa _ rfl));have I4:Inv (ZV X N scope cl h0.objs.size s2 H1 fp) [] (ZAs fr.length none++σ) (upd H1 s2.heap.objs.size (.lst [])) { s2 with heap:=h1,toks:=s2.toks+([]:List (Str × Value)).length }:=Zpv T hcl hfr I2 hcalm f2 hfl rfl hDC hns hl old;have tn1:tn 0 h1:=W.keep _ _ _ st2 λb _ o e=>old b o e;have hHsD:H s2.heap.objs.size=none:=x1.hh.free (I2.hok.fresh (Zz3 _));have loop:codeAny (model X.prog X.w) X.A (.compLoop (.ListComp elt [⟨tg,iter,ifs,0⟩] scope pos) 0 (.ref it) (.ref s2.heap.objs.size) (compEnvC scope cl h0.objs.size X.env)) (compPost (model X.prog X.w) X.A X.xe (some (assign (.Name y py) X.env)) (λ_ s'=>SP X pins E .next s') (.ref s2.heap.objs.size) h0.objs.size)
     { s2 with heap:=h1,toks:=s2.toks+([]:List (Str × Value)).length }:=by
    refine ZpL T I2 W f2 I4 tn1 (Zz3 _) hfl hcalm (hc _ _ _ _ _) (he _ _ _ _ _) at_ x1 itd (hbind _ _ _ _ _) hbig hgo λs' ⟨F',H',vs,I',x',hD',hFD',rs⟩=>?_;obtain⟨m,hn,_⟩:=id I'.loc;have IX:Inv X pins σ H' s':=Zpi (h':=s'.heap) I2 f2 (ZBP hDC) I' (ZEU _ _);have hCn:H' h0.objs.size=none:=I'.free;have neL:h0.objs.size≠X.env.locals:=ZCU (ZBQ I2.lt hDC);have neC:∀z c,X.env.cells.lookup z=some c->c≠h0.objs.size:=λz c hz=>by obtain⟨v,o,ho,_⟩:=I2.cell z c hz;exact ZAf (ZBQ (Zz9 ho) hDC)
    have neP:∀p∈X.pn++pins,p.1≠h0.objs.size:=λp hp=>ZAf (ZBQ (Zz9 (I2.pin p hp).1) hDC);show wpAny _ X.A (assign (.Name y py) X.env (.ref s2.heap.objs.size)) _ _ _;refine wpAny_assign_Name (Zm8 IX hN hiy (.inl hy) (v:=.ref s2.heap.objs.size) rfl (λs3 I3 hsa=>?_) (.inr hy));obtain⟨a,sa,ea⟩:=hsa;have neA:h0.objs.size≠a:=by
     rcases ea with e | e
     ·rw[e]; exact neL
     ·exact ZA0 (neC _ _ e)
    refine⟨m,hn.sameBut sa neA,λh2 hs2=>?_⟩;refine⟨_,H',I3.turned (t':=s3.toks) (it:=h0.objs.size) (λb o hb e=>(hs2.2 b hb).trans e) hCn neL (.inr (ZAR I2.sz (ZBP hDC))) neC neP,k _ F' H' ((at_.grow x').storeNew at_ x'.hh (fp':=[s2.heap.objs.size]) (.ol hD' rs) (by simp) λa ha=>?_)⟩;obtain rfl:a=s2.heap.objs.size:=by simpa using ha
    exact⟨hFD',hHsD⟩
   exact codeAny_compStart_list loop (W.self _ 0 _ _ _ tn1 loop)
  ·cases hb
 ·cases hb
end
end HP
namespace HP
open PySem PySem.Spec PyProof.Rows L2
variable{py spos:Pos}{y:Str}
variable[FX]
def Zue(d:PyData):Option (List PyData):=some [d]
def Zmg:PyData->Option (List PyData)
 | .tuple [x,y]=>some [x,y]
 | _=>none
theorem ZxS(c:HM.TF)(e:HM.EF)(r:HM.Env):∀xs,HM.Zap c e r xs=goG Zue c e r xs
 | []=>rfl
 | x::xs=>by unfold HM.Zap goG;rw[ZxS c e r xs];rfl
theorem Zx4(c:HM.TF)(e:HM.EF)(r:HM.Env):∀xs,HM.Zdg c e r xs=goG Zmg c e r xs
 | []=>rfl
 | x::xs=>by
  have ih:=Zx4 c e r xs;unfold HM.Zdg goG;split
  ·rename_i h; cases h
  ·rename_i a b q h
   cases h;rw[ih];rfl
  ·rename_i h1
   have hn:Zmg x=none:=by
    unfold Zmg;split
    ·exact(h1 _ _ _ rfl).elim
    ·rfl
   rw[hn]
theorem Zrv(i:HM.IF)(c:HM.TF)(e:HM.EF):HM.ZK i c e=Zfz Zue i c e:=by
 funext r
 unfold HM.ZK Zfz;cases i r with
 | none=>rfl
 | some xs=>dsimp only; rw[ZxS]
theorem Zmh(i:HM.IF)(c:HM.TF)(e:HM.EF):HM.ZdH i c e=Zfz Zmg i c e:=by
 funext r
 unfold HM.ZdH Zfz;cases i r with
 | none=>rfl
 | some xs=>dsimp only; rw[Zx4]
theorem Zpa{K:ZzS}{F:Hp}{d1 d2:PyData}{v:V}(h:Rep K F (.tuple [d1,d2]) v):∃a v1 v2,v=.ref a/\F a=some (.tup [v1,v2])/\Rep K F d1 v1/\Rep K F d2 v2:=by
 cases h with
 | @tup a ds vs h1 h2 h3 =>
  cases vs with
  | nil=>simp at h2
  | cons v1 vs=>cases vs with
   | nil=>simp at h2
   | cons v2 vs=>cases vs with
    | nil=>exact⟨a,v1,v2,rfl,h1,h3 0 _ _ rfl rfl,h3 1 _ _ rfl rfl⟩
    | cons _ _=>simp at h2
section
variable{X:Cx}{N:List Str}{scope:Scope}{x x2:Str}{px px2 pt:Pos}{kt:Nat}
theorem ZsZ(T:Zdp X N scope [x])(cl:List (Str × Addr))(C:Addr)(s₀:Shared)(H₀:Hp)(ex:List Addr):Zjx (ZV X N scope cl C s₀ H₀ ex) 1 (.Name x px) Zue:=by
 intro pins s σ sv H F d ys xv u hsv I r sub q hd;cases hd;have hx:=T.loc x (Zz0.mpr rfl);refine thn (Zge (X:=ZV X N scope cl C s₀ H₀ ex) (i:=0) T.nd (T.first 0 x rfl) (.inl (ZBR hx)) (.inr (ZBR hx)) _ s _ H xv u (λσ' H'=>σ'=(sv++σ).set 0 (some xv)/\H'=H) I r ⟨rfl,rfl⟩) λ_ s' ⟨σ',H',I',e1,e2⟩=>?_
 subst e1 e2;refine⟨[xv],rfl,?_,.one q⟩;cases sv with
 | nil=>simp at hsv
 | cons a sv=>cases sv with
  | nil=>exact I'
  | cons _ _=>simp at hsv
theorem ZoO(T:Zdp X N scope [x,x2])(cl:List (Str × Addr))(C:Addr)(s₀:Shared)(H₀:Hp)(ex:List Addr):Zjx (ZV X N scope cl C s₀ H₀ ex) 2 (.Tuple [.Name x px,.Name x2 px2] kt pt) Zmg:=by
 intro pins s σ sv H F d ys xv u hsv I r sub q hd;have hx:=T.loc x (ZzT ..);have hx2:=T.loc x2 (ZzU _ (ZzT ..));unfold Zmg at hd;split at hd
 ·rename_i d1 d2
  cases hd;obtain⟨pa,v1,v2,e7,hpa,rx1,rx2⟩:=Zpa q;subst e7;refine thn (ZsR (X:=ZV X N scope cl C s₀ H₀ ex) (n:=2) rfl (ZiJ (Zge (X:=ZV X N scope cl C s₀ H₀ ex) (i:=0) T.nd (T.first 0 x rfl) (.inl (ZBR hx)) (.inr (ZBR hx))) (ZiJ (Zge (X:=ZV X N scope cl C s₀ H₀ ex) (i:=1) T.nd (T.first 1 x2 rfl) (.inl (ZBR hx2)) (.inr (ZBR hx2))) Zrb)) rfl rfl _ s _ H (.ref pa) u (λσ' H'=>σ'=((sv++σ).set 0 (some v1)).set 1 (some v2)/\H'=H) I r ⟨pa,[v1,v2],rfl,.of (sub _ _ hpa),rfl,v1,[v2],rfl,v2,[],rfl,rfl,rfl,rfl⟩) λ_ s' ⟨σ',H',I',e1,e2⟩=>?_
  subst e1 e2;refine⟨[v1,v2],rfl,?_,.cons rx1 (.one rx2)⟩;cases sv with
  | nil=>simp at hsv
  | cons a sv=>cases sv with
   | nil=>simp at hsv
   | cons b sv=>cases sv with
    | nil=>exact I'
    | cons _ _=>simp at hsv
 ·cases hd
def Zs0(kinds:Str->Option NameKind)(XN N:List Str)(names:List (Str × NameKind))(fr:List Str):Bool :=
 names.all (λy=>y.2 != .cell)&&names.all (λy=>y.2 != .local||names.lookup y.1==some .local)&&fr.all (λx=>names.lookup x==some .local)&&(ZzX fr.length).all (λi=>N[i]?==fr[i]?)&&decide N.Nodup&&N.length==XN.length+fr.length &&
 names.all (λy=>y.2 != .free||kinds y.1==some .cell||kinds y.1==some .free) &&
 (ZzX (N.length-fr.length)).all (λi=>match N[i+fr.length]? with
  | some y=>(names.lookup y != some .free||XN[i]?==some y)&&(names.lookup y==some .free||(names.lookup y != some .local&&names.lookup y != some .cell))
  | none=>true)
theorem ZD{X:Cx}{N XN:List Str}{scope sc:Scope}{fr:List Str}(hs:X.env.scope=sc:=by rfl)(hN:X.N=XN:=by rfl)(hk:scope.kind=.function:=by rfl)(h:Zs0 (λy=>sc.names.lookup y) XN N scope.names fr=true:=by decide +kernel):Zdp X N scope fr:=by
 subst hN;unfold Zs0 at h;simp only[ZAc,ZzY,ZBd,bne_iff_ne,beq_iff_eq,decide_eq_true_eq]at h;obtain⟨⟨⟨⟨⟨⟨⟨h1,h2⟩,h3⟩,h4⟩,h5⟩,h6⟩,h7⟩,h8⟩:=h;have at_:∀(i:Nat) (y:Str),N[i+fr.length]?=some y->(scope.names.lookup y≠some .free\/X.N[i]?=some y)/\(scope.names.lookup y=some .free\/(scope.names.lookup y≠some .local/\scope.names.lookup y≠some .cell)):=λi y e=>by have hi:i+fr.length<N.length:=(Zz5.mp e).1;have:=h8 i (ZAi.mpr (by omega));rw[e]at this;simpa only[ZAc,ZBd,bne_iff_ne,beq_iff_eq]using this
 refine⟨hk,h1,λy hy e=>(h2 y hy).resolve_left (λz=>z e),h3,λi x e=>?_,h5,h6,λy hy e=>?_,λi y e q=>(at_ i y e).1.resolve_left (λz=>z q),λi y e v=>?_⟩
 ·rw[h4 i (ZAi.mpr (Zz5.mp e).1)]
  exact e
 ·have:=h7 y hy
  rw[show X.env.kindOf y.1=sc.names.lookup y.1 by rw[<-hs]; rfl];rcases this with(z | z) | z
  ·exact absurd e z
  ·exact .inl z
  ·exact .inr z
 ·rcases(at_ i y e).2 with z | ⟨z1,z2⟩
  ·exact z
  ·rcases v with v | v | v
   ·exact absurd v z1
   ·exact absurd v z2
   ·exact v
variable{elt iter:Expr}{ifs:List Expr}{pos:Pos}{fi:HM.IF}{fc:HM.TF}{fe:HM.EF}
theorem Zah(hxe:X.xe=λ_ _=>False)(hcalm:X.calm=true)(T:Zdp X N scope [x])(hi:XI X (.Name x px) iter fi)(hc:∀cl C s H ex,XTs (ZV X N scope cl C s H ex) ifs fc)(he:∀cl C s H ex,XE (ZV X N scope cl C s H ex) elt fe)
  (hs:∀x,ZBh iter X.env x=pure x:=by intro _; rfl):XF X (.ListComp elt [⟨.Name x px,iter,ifs,0⟩] scope pos) (HM.ZK fi fc fe):=by
 rw[Zrv];exact Zn0 hxe hcalm T (ZsZ T) hi.e hc he hs
theorem Zt3(hxe:X.xe=λ_ _=>False)(hcalm:X.calm=true)(T:Zdp X N scope [x,x2])(hi:XI X (.Tuple [.Name x px,.Name x2 px2] kt pt) iter fi)(hc:∀cl C s H ex,XTs (ZV X N scope cl C s H ex) ifs fc)(he:∀cl C s H ex,XE (ZV X N scope cl C s H ex) elt fe)
  (hs:∀x,ZBh iter X.env x=pure x:=by intro _; rfl):XF X (.ListComp elt [⟨.Tuple [.Name x px,.Name x2 px2] kt pt,iter,ifs,0⟩] scope pos) (HM.ZdH fi fc fe):=by
 rw[Zmh];exact Zn0 hxe hcalm T (ZoO T) hi.e hc he hs
theorem Zeu(i:Nat)(hN:X.N.Nodup)(hxe:X.xe=λ_ _=>False)(hcalm:X.calm=true)(T:Zdp X N scope [x])(hi:XI X (.Name x px) iter fi)(hc:∀cl C s H ex,XTs (ZV X N scope cl C s H ex) ifs fc)(he:∀cl C s H ex,XE (ZV X N scope cl C s H ex) elt fe)
  (hiy:X.N[i]?=some y:=by rfl) (hy:X.env.scope.names.lookup y=some .local:=by rfl) (hsw:ZBT (.ListComp elt [⟨.Name x px,iter,ifs,0⟩] scope pos) (some (.Name y py)) spos.line X.env=pure true:=by rfl)
  (hs:∀x,ZBh iter X.env x=pure x:=by intro _; rfl):XS X (.Assign [.Name y py] (.ListComp elt [⟨.Name x px,iter,ifs,0⟩] scope pos) spos) (HM.ZW i (HM.ZK fi fc fe)):=by
 rw[Zrv];exact Zhj i hN hxe hcalm T (ZsZ T) hi.e hc he hiy hy hsw hs
theorem Zqg(i:Nat)(hN:X.N.Nodup)(hxe:X.xe=λ_ _=>False)(hcalm:X.calm=true)(T:Zdp X N scope [x,x2])(hi:XI X (.Tuple [.Name x px,.Name x2 px2] kt pt) iter fi)(hc:∀cl C s H ex,XTs (ZV X N scope cl C s H ex) ifs fc)(he:∀cl C s H ex,XE (ZV X N scope cl C s H ex) elt fe)
  (hiy:X.N[i]?=some y:=by rfl) (hy:X.env.scope.names.lookup y=some .local:=by rfl) (hsw:ZBT (.ListComp elt [⟨.Tuple [.Name x px,.Name x2 px2] kt pt,iter,ifs,0⟩] scope pos) (some (.Name y py)) spos.line X.env=pure true:=by rfl)
  (hs:∀x,ZBh iter X.env x=pure x:=by intro _; rfl):XS X (.Assign [.Name y py] (.ListComp elt [⟨.Tuple [.Name x px,.Name x2 px2] kt pt,iter,ifs,0⟩] scope pos) spos) (HM.ZW i (HM.ZdH fi fc fe)):=by
 rw[Zmh];exact Zhj i hN hxe hcalm T (ZoO T) hi.e hc he hiy hy hsw hs
end
end HP
namespace HP
open PySem PySem.Spec PyProof.Rows L2
variable{p:Addr}{r:HM.Env}{F F0 H H0:Hp}{σ:L2.St}{kvs:List (List Key × List PyData)}{ds:List PyData}{i:Nat}{p1 p2 p3 p4:Pos}{K:ZzS}{x:Str}{Q:Value->Shared->Prop}
variable[FX]
section
variable{prog:Program}{w:World}{K:Type}[DecidableEq K]{knd:HeapKind prog w K}{A:Around}{E:Value->Shared->Prop}{s:Shared}
theorem ZmD{d a:Addr}{xs:List (K × Addr × Value)}{k:K}{v:Value}(hu:knd.room A)(hkey:knd.is s.heap k a)(hm:s.heap.DictOfH knd d xs)(hsz:xs.length<=sizeLine)
  (h1:∀p,atKey xs k=some p->Q p.2 { s with toks:=s.toks+knd.draws k })
  (h2:atKey xs k=none->∀h',h'.DictOfH knd d (storedH xs k a v)->ZBG d s.heap h'->Q v { s with heap:=h',toks:=s.toks+knd.draws k }) :
  wpAny (model prog w) A (dictSetDefault d (.ref a) v) Q E s:=by
 obtain⟨o,es,ep,ho,hc,hd,he,his,hn⟩:=hm;unfold dictSetDefault
 try with_reducible refine ZBb ?_
 refine ZzQ (knd.pyHash hu hkey ?_);refine ZzQ (wpAny_dictFind_heap (s:={ s with toks:=s.toks+knd.draws k }) hu hkey ho hd he his hn ?_ ?_)
 ·intro hno
  have hnot:k ∉ xs.map (·.1):=not_mem_keys_of_get hno;have hnk:=atKey_none_of_get hno;refine ZzQ (ZD3 (ZzQ (wpAny_updateDictKeys (hz:=by have e:=size_of_entries he; omega) (s:={ s with toks:=s.toks+knd.draws k }) ho hd (ZzV (h2 hnk _ ⟨_,_,ep+1,ZAZ _ ho (Obj.isFreed_of_dict (Obj.data_mapDictKeys hd _)),
   hc.mapDictKeys _,Obj.data_mapDictKeys hd _,?_,?_,?_⟩ (ZAS ..))))))
  ·rw[storedH_new hnk]
   simp[he,entryOfKey]
  ·rw[storedH_new hnk]
   intro x hx;rcases ZAp.mp hx with hx | hx
   ·exact knd.keeps (his x hx) ho hd (ZAS ..)
   ·simp only[Zz0]at hx
    subst hx;exact knd.keeps hkey ho hd (ZAS ..)
  ·rw[storedH_new hnk]
   rw[ZAq,ZCd];refine⟨hn,by simp,?_⟩;intro x hx y hy;simp only[ZzZ,ZB4,Zz0]at hy;subst hy;exact λe=>hnot (e▸hx)
 ·intro j p hj
  refine ZzQ (ZC9 (s:={ s with toks:=s.toks+knd.draws k }) ho hd ?_);rw[entry_at he j,hj];exact ZzQ (ZD3 (ZzV (h1 p (atKey_of_get hn hj))))
theorem Zko(d a:Addr)(hd:(d==ZBx)=false)(dflt:Value) :
  MeetsIn prog w (Builtin.«dict.setdefault» ⟨[.ref d,.ref a,dflt],[]⟩) (λA R s=>knd.room A.in1/\∃k xs,knd.is s.heap k a/\s.heap.DictOfH knd d xs/\xs.length<=sizeLine /\
   (∀p,atKey xs k=some p->R (.ok (.ret p.2)) { s with toks:=s.toks+knd.draws k }) /\
   (atKey xs k=none->∀h',h'.DictOfH knd d (storedH xs k a dflt)->ZBG d s.heap h'->R (.ok (.ret dflt)) { s with heap:=h',toks:=s.toks+knd.draws k })) :=
 .of_wp λA R s ⟨hu,k,xs,hkey,hm,hz,h1,h2⟩=>by unfold Builtin.«dict.setdefault»;refine ZzQ ?_;unfold Builtin.Dict.keyAndDefault;refine ZzQ (wpAny_notOrdered_dict hm.typeIs ?_);show wpAny _ _ (pure (d,ZAL a,some dflt)) _ _ s;refine ZzV ?_;show wpAny _ _ (if(d==ZBx)=true then _ else(dictSetDefault d (.ref a) dflt >>= _)) _ _ s;rw[if_neg (by rw[hd]; exact ZAC)];exact ZzQ (ZmD hu hkey hm hz (λp hp=>ZzV ⟨p.2,rfl,h1 p hp⟩) λhn h' hm' hs'=>ZzV ⟨dflt,rfl,h2 hn h' hm' hs'⟩)
end
section
variable{X:Cx}{pins:List (Addr × Obj)}{σ:L2.St}{H:Hp}{s:Shared}{a b:Addr}{z:V}{r:Value}{A:Around}{E:Value->Shared->Prop}{kvs:List (List Key × V)}{k:List Key}
theorem Zxk(hu:A.units+1<cLine)(I:Inv X pins σ H s)(e:H a=some (.dT kvs))(eb:H b=some (.tup (k.map kV)))(hl:kvs.length<sizeLine)(rz:RelV z r)
  (h1:∀v,ZaZ kvs k=some v->∀w' s',Inv X pins σ H s'->RelV v w'->Q w' s') (h2:ZaZ kvs k=none->∀s',Inv X pins σ (upd H a (.dT (kvs++[(k,z)]))) s'->Q r s') :
  wpAny (model X.prog X.w) A (call (.builtin "dict.setdefault") [.ref a,.ref b,r]) Q E s:=by
 obtain⟨zz,hd,xs,rel,dd⟩:=ZvC I.hok e;have hz:xs.length<=sizeLine:=by rw[<-ZCu rel]; exact zz
 have hv:=rel.val k;refine call_meetsIn ZDE dd.typeIs PySem.F.entry_dict_setdefault (PySem.F.args_dict_setdefault_3 _ _ _) (Zko (knd:=ZCT (ZaA X.prog X.w)) a b hd r) ⟨ZB5 hu,k,xs,ZgV I.hok eb,dd,hz,λp hp=>?_,λhn h' dd' hs=>?_⟩
 ·rw[hp]at hv
  cases hvv:ZaZ kvs k with
  | none=>rw[hvv]at hv; exact hv.elim
  | some v=>rw[hvv]at hv; exact h1 v hvv _ _ (I.tok _) hv
 ·rw[hn]at hv
  have hvv:ZaZ kvs k=none:=by
   cases hvv:ZaZ kvs k with
   | none=>rfl
   | some v=>rw[hvv]at hv; exact hv.elim
  refine h2 hvv _ ?_;have hp:=rel.put k eb rz;have epk:putK kvs k z=kvs++[(k,z)]:=by unfold putK;rw[if_neg];rw[ZiM,hvv];simp
  rw[epk]at hp;obtain⟨q,es,ep,hq,g2,g3,g4,_,g5⟩:=dd';refine Zj8 I (by rw[e]; exact ZC2) hs ⟨q,hq⟩ ⟨by rw[ZAb]; exact hl,hd,_,hp.keeps λc ys ec=>?_,q,es,ep,hq,g2,g3,g4,g5⟩;rw[ZB (ZvI ec e (λz=>nomatch z))];exact ec
end
def Zzc(td ty tx:TE):TE:=λσ H Q=>td σ H λx H1=>∃a,x=.ref a/\IsD H1 a/\ty σ H1 λy H2=>tx σ H2 λz H3=>∃kvs k b,H3 a=some (.dT kvs)/\y=.ref b/\H3 b=some (.tup (k.map kV))/\kvs.length<sizeLine /\
 (∀v,ZaZ kvs k=some v->Q v H3)/\(ZaZ kvs k=none->Q z (upd H3 a (.dT (kvs++[(k,z)]))))
section
variable{X:Cx}{o e f:Expr}{apos cpos:Pos}{td ty tx:TE}
theorem ZxZ(hu:X.A.units+1<cLine)(ho:PE X o td)(he:PE X e ty)(hf:PE X f tx)(m:M2 X o "setdefault" apos e f cpos):PE X (.Call (.Attribute o "setdefault" apos) [e,f] [] cpos) (Zzc td ty tx):=by intro pins s σ H Q I h;refine wpAny_Call_method m.base m.few m.line ZEg ZDE PySem.F.type_dict_setdefault (thn (ho pins s σ H _ I h) λu s1 ⟨x,H1,I1,rx,a,ex,d,q1⟩=>?_);subst ex;obtain rfl:u=ZAL a:=rx;obtain⟨t1,t2,_⟩:=ZsY I1 d;refine⟨t1,t2,?_⟩;rw[m.trees];refine ZCw rfl (ZDr (ZCW (thn (he pins s1 σ H1 _ I1 q1) λiv s2 ⟨y,H2,I2,ry,q2⟩=>ZCW (thn (hf pins s2 σ H2 _ I2 q2) λfv s3 ⟨z,H3,I3,rz,kvs,k,b,ea,ey,eb,hl,q3,q4⟩=>ZDV ?_))));subst ey;obtain rfl:iv=ZAL b:=ry;exact Zxk hu I3 ea eb hl rz (λv hv w' s4 I4 rw'=>⟨v,H3,I4,rw',q3 v hv⟩) λhn s4 I4=>⟨z,_,I4,rz,q4 hn⟩
end
def OT(K:ZzS)(F H:Hp)(kvs:List (List Key × List PyData))(vvs:List (List Key × V))(ls:List Addr):Prop:=kvs.map (·.1)=vvs.map (·.1)/\vvs.map (·.2)=ls.map V.ref /\
 ∀(i:Nat) (ds:List PyData) (l:Addr),(kvs.map (·.2))[i]?=some ds->ls[i]?=some l->∃vs,H l=some (.lst vs)/\Zt K F ds vs
section
variable{K:ZzS}{F F' H H':Hp}{kvs:List (List Key × List PyData)}{vvs:List (List Key × V)}{ls:List Addr}
theorem OT.len(q:OT K F H kvs vvs ls):kvs.length=ls.length/\kvs.length=vvs.length:=by have e1:=congrArg ZAF q.1;have e2:=congrArg ZAF q.2.1;rw[ZzP,ZzP]at e1 e2;omega
theorem OT.mono(q:OT K F H kvs vvs ls)(s:Zq F F')(k:∀a∈ls,∀o,H a=some o->H' a=some o):OT K F' H' kvs vvs ls :=
 ⟨q.1,q.2.1,λi ds l h1 h2=>let ⟨vs,q1,q2⟩:=q.2.2 i ds l h1 h2; ⟨vs,k l (ZAo h2) _ q1,q2.mono s⟩⟩
theorem OT.snoc(q:OT K F H kvs vvs ls)(k:List Key)(hp:H p=some (.lst [])):OT K F H (kvs++[(k,[])]) (vvs++[(k,.ref p)]) (ls++[p]):=by
 refine⟨by rw[ZAq,ZAq,q.1]; rfl,by rw[ZAq,ZAq,q.2.1]; rfl,λi ds l h1 h2=>?_⟩;have hl:=q.len;rw[ZAq]at h1
 by_cases hi:i<kvs.length
 ·rw[ZAw (by rw[ZzP]; exact hi)]at h1
  rw[ZAw (by omega)]at h2;exact q.2.2 i ds l h1 h2
 ·rw[ZAG (by rw[ZzP]; omega),ZzP]at h1
  rw[ZAG (by omega),<-hl.1]at h2;cases hj:i-kvs.length with
  | zero=>rw[hj]at h1 h2;cases h1; cases h2;exact⟨[],hp,.nil⟩
  | succ j=>rw[hj]at h1; cases h1
theorem OT.look(q:OT K F H kvs vvs ls)(k:List Key):(∀ds,HM.Zg kvs k=some ds->∃l' vs,ZaZ vvs k=some (.ref l')/\l'∈ls/\H l'=some (.lst vs)/\Zt K F ds vs)/\(HM.Zg kvs k=none->ZaZ vvs k=none):=ZkV k kvs vvs ls q.1 q.2.1 q.2.2
theorem OT.app(k:List Key){d:PyData}{v:V}:∀{kvs:List (List Key × List PyData)} {vvs:List (List Key × V)} {ls:List Addr},OT K F H kvs vvs ls->ls.Nodup->Rep K F d v->∀{l':Addr} {vs:List V},ZaZ vvs k=some (.ref l')->H l'=some (.lst vs) ->
  OT K F (upd H l' (.lst (vs++[v]))) (HM.ZdF kvs k d) vvs ls
 | [],[],_,q,_,_,l',vs,hv,_=>by cases hv
 | [],_::_,_,q,_,_,_,_,_,_=>by have:=q.len; simp at this
 | _::_,[],_,q,_,_,_,_,_,_=>by have:=q.len; simp at this
 | _::_,_::_,[],q,_,_,_,_,_,_=>by have:=q.len; simp at this
 | (k1,ds1)::kvs,(k2,v2)::vvs,l1::ls,q,nd,rd,l',vs,hv,hl=>by
  obtain⟨q1,q2,q3⟩:=q;rw[ZzZ,ZzZ]at q1 q2;injection q1 with e1 e2
  injection q2 with e3 e4
  have e1:k1=k2:=e1;have e3:v2=.ref l1:=e3;subst e1 e3;have rest:OT K F H kvs vvs ls:=⟨e2,e4,λi ds l h1 h2=>q3 (i+1) ds l (by simpa using h1) (by simpa using h2)⟩;obtain⟨n1,n2⟩:=ZAT.mp nd;obtain⟨us,f1,f2⟩:=q3 0 ds1 l1 rfl rfl;unfold HM.ZdF
  by_cases hk:k1=k
  ·rw[if_pos hk]
   rw[Zeh (p:=(k1,V.ref l1)) hk]at hv;cases hv;rw[hl]at f1;cases f1;refine⟨by rw[ZzZ,ZzZ,e2],by rw[ZzZ,ZzZ,e4],λi ds l h1 h2=>?_⟩;cases i with
   | zero=>cases h1; cases h2;exact⟨_,ZF,f2.append (.one rd)⟩
   | succ i=>rw[ZzZ,ZAA]at h1;rw[ZAA]at h2;obtain⟨us,g1,g2⟩:=rest.2.2 i ds l h1 h2;exact⟨us,by rw[ZB (λz=>n1 (by rw[<-z]; exact ZAo h2))]; exact g1,g2⟩
  ·rw[if_neg hk]
   rw[Zee (p:=(k1,V.ref l1)) hk]at hv;have ih:=OT.app k rest n2 rd hv hl;have hne:l1≠l':=by
    rintro rfl
    have:∀(vvs:List (List Key × V)) (ls:List Addr),vvs.map (·.2)=ls.map V.ref->∀l',ZaZ vvs k=some (.ref l')->l'∈ls:=by
     intro vvs
     induction vvs with
     | nil=>intro ls _ l' h; cases h
     | cons p vvs ih =>
      intro ls he l' h;cases ls with
      | nil=>simp at he
      | cons l ls =>
       rw[ZzZ,ZzZ]at he;injection he with he1 he2
       by_cases hp:p.1=k
       ·rw[Zeh hp]at h
        rw[he1]at h;cases h;exact ZzT
       ·rw[Zee hp]at h
        exact ZzU _ (ih ls he2 l' h)
    exact n1 (this vvs ls e4 _ hv)
   refine⟨by rw[ZzZ,ZzZ,ih.1],by rw[ZzZ,ZzZ,e4],λi ds l h1 h2=>?_⟩;cases i with
   | zero=>cases h1; cases h2;exact⟨us,by rw[ZB hne]; exact f1,f2⟩
   | succ i=>rw[ZzZ,ZAA]at h1;rw[ZAA]at h2;exact ih.2.2 i ds l h1 h2
end
theorem Zbt.otl{K:ZzS}{F0 H0 F H:Hp}{r:HM.Env}{σ:L2.St}{fp:Nat->List Addr}{i:Nat}{kvs:List (List Key × List PyData)}(e:Zbt K F0 H0 F H r σ fp)(h:r[i]?=some (some (.otl kvs))) :
  ∃a vvs ls,σ[i]?=some (some (.ref a))/\H a=some (.dT vvs)/\OT K F H kvs vvs ls/\fp i=a::ls:=by
 obtain⟨v,h1,h2⟩:=e.at_ i _ h;generalize hf:fp i=q at h2;cases h2 with
 | otl k1 k2 k3 k4=>exact⟨_,_,_,h1,k1,⟨k2,k3,k4⟩,rfl⟩
theorem Zbt.otlNew{Fb Hb:Hp}{fp:Nat->List Addr}(k:List Key)(eb:Zbt K F0 H0 Fb Hb r σ fp)(x:Ext Fb Hb F H)(h:r[i]?=some (some (.otl kvs)))(hp:H p=some (.lst []))(hF:F p=none)(hb:Hb p=none) :
  ∃a vvs,σ[i]?=some (some (.ref a))/\H a=some (.dT vvs)/\vvs.length=kvs.length/\(HM.Zg kvs k=none->ZaZ vvs k=none)/\At K F0 H0 F (upd H a (.dT (vvs++[(k,.ref p)]))) (r.set i (some (.otl (kvs++[(k,[])])))) σ:=by
 have e:=eb.grow x;obtain⟨a,vvs,ls,h1,h2,h3,h4⟩:=e.otl h;have hpn:∀j,p ∉ fp j:=λj hj=>by obtain⟨o,ho⟩:=eb.there hj;rw[hb]at ho; cases ho
 have hpa:p≠a:=λz=>hpn i (by rw[h4,z]; exact ZzT);have hal:a ∉ ls:=(ZAT.mp (h4▸e.nd i)).1;have nl:ls.Nodup:=(ZAT.mp (h4▸e.nd i)).2;have hpl:p ∉ ls:=λz=>hpn i (by rw[h4]; exact ZzU _ z);refine⟨a,vvs,h1,h2,h3.len.2.symm,(h3.look k).2,?_⟩;have q:=h3.snoc k hp;have q':OT K F (upd H a (.dT (vvs++[(k,.ref p)]))) (kvs++[(k,[])]) (vvs++[(k,.ref p)]) (ls++[p]):=q.mono (Zq.refl F) λc hc o z=>by
  rw[ZB]
  ·exact z
  ·rintro rfl
   rcases ZAp.mp hc with hc | hc
   ·exact hal hc
   ·exact hpa (Zz0.mp hc).symm
 have nd':(a::(ls++[p])).Nodup:=by
  refine ZAT.mpr ⟨?_,?_⟩
  ·intro z
   rcases ZAp.mp z with z | z
   ·exact hal z
   ·exact hpa (Zz0.mp z).symm
  ·rw[ZCd]
   refine⟨nl,by simp,λx hx y hy=>?_⟩;obtain rfl:y=p:=by simpa using hy
   rintro rfl
   exact hpl hx
 refine e.changeW h1 (fp':=a::(ls++[p])) (.otl ZF q'.1 q'.2.1 q'.2.2) nd' (λc hc=>?_) λc o z hn=>?_
 ·rcases Zz7.mp hc with z | z
  ·subst z; exact .inl (by rw[h4]; exact ZzT)
  ·rcases ZAp.mp z with z | z
   ·exact .inl (by rw[h4]; exact ZzU _ z)
   ·obtain rfl:c=p:=Zz0.mp z
    exact .inr ⟨hF,eb.ext.hh.free hb,hpn⟩
 ·rw[ZB (λy=>hn (by rw[h4,y]; exact ZzT))]
  exact z
theorem At.otlApp(k:List Key)(e:At K F0 H0 F H r σ)(h:r[i]?=some (some (.otl kvs)))(hd:HM.Zg kvs k=some ds) :
  ∃a vvs l vs,σ[i]?=some (some (.ref a))/\H a=some (.dT vvs)/\ZaZ vvs k=some (.ref l)/\H l=some (.lst vs)/\Zt K F ds vs/\∀d v,Rep K F d v->At K F0 H0 F (upd H l (.lst (vs++[v]))) (r.set i (some (.otl (HM.ZdF kvs k d)))) σ:=by
 obtain⟨fp,e⟩:=e;obtain⟨a,vvs,ls,h1,h2,h3,h4⟩:=e.otl h;obtain⟨l,vs,g1,g2,g3,g4⟩:=(h3.look k).1 ds hd;have hal:a ∉ ls:=(ZAT.mp (h4▸e.nd i)).1;have nl:ls.Nodup:=(ZAT.mp (h4▸e.nd i)).2;have hne:a≠l:=λz=>hal (by rw[z]; exact g2);refine⟨a,vvs,l,vs,h1,h2,g1,g3,g4,λd v rd=>?_⟩;have q:=h3.app k nl rd g1 g3;refine e.change h1 (fp':=a::ls) (.otl (by rw[ZB hne]; exact h2) q.1 q.2.1 q.2.2) (h4▸e.nd i) (λc hc=>.inl (by rw[h4]; exact hc)) λc o z hn=>?_;rw[ZB (λy=>hn (by rw[h4,y]; exact ZzU _ g2))];exact z
section
variable{X:Cx}{a b c e:Expr}{fa fb fc:HM.EF}{pos p:Pos}{f:HM.BF}
theorem Zsz(hu:X.A.units+1<cLine)(i:Nat)(hk:XE X b fb)(hN:X.N[i]?=some x:=by rfl)(hv:Vis X.env.scope x:=by first | exact ZAB rfl | exact ZAj (ZAB rfl) | exact ZAj (ZAj rfl))(hd:(x==("__debug__":Str))=false:=by decide)(hcd:(x==("__classdict__":Str))=false:=by decide)
  (hs:ZBT (.List [] p3) (some (.Subscript (.Name x p1) b p2)) pos.line X.env=pure false:=by rfl):XS X (.Assign [.Subscript (.Name x p1) b p2] (.List [] p3) pos) (HM.Zl9 i fb):=by
 intro r o h;unfold HM.Zl9 at h;split at h
 ·rename_i y hy
  split at h
  ·rename_i kvs hb
   split at h
   ·rename_i k hk'
    split at h
    ·rename_i hz
     split at h
     ·rename_i hl
      cases h;refine PS.imp (Zmb hu (Zcg hN hv hd hcd) (hk r y hy) (ZbL (X:=X) Zf (by simp) r (.ol []) rfl) hs) λE σ H ⟨F0,H0,F,at_,kk⟩=>?_;refine⟨F0,H0,F,at_,λv F1 H1 x1 ⟨fp,r1,nd,hn⟩=>?_⟩;cases r1 with
      | @ol l _ vs hl1 rs =>
       obtain rfl:vs=[]:=rs.nil_inv;have at1:=at_.grow x1;obtain⟨u,fp,e1,e2⟩:=at1.any hb;refine⟨u,e1,F0,H0,F1,at1,λw F2 H2 x2 r2=>?_⟩;obtain⟨fq,eb⟩:=at_;have hlF:F2 l=none:=by
        cases q:F2 l with
        | none=>rfl
        | some o =>
         rcases x2.new l o q with z | z
         ·rw[(hn l (by simp)).1]at z; cases z
         ·exact(z.no hl1 λ_ q=>by cases q).elim
       obtain⟨aa,vvs,g1,g2,g3,g4,g5⟩:=eb.otlNew k (x1.trans x2) hb (x2.hh _ _ hl1) hlF (hn l (by simp)).2;rw[e1]at g1;cases g1;obtain⟨bb,rfl,hbb⟩:=ZbY hk' r2;have hpk:putK vvs k (V.ref l)=vvs++[(k,.ref l)]:=by unfold putK;rw[if_neg];rw[ZiM,g4 hl];simp
       refine⟨aa,_,rfl,ZiA.t g2 (x2.sub _ _ hbb) (by rw[g3]; exact Zfk hz),?_⟩;rw[hpk];exact kk _ F2 _ g5
     ·cases h
    ·cases h
   ·cases h
  ·cases h
 ·cases h
theorem Zt4(hu:X.A.units+1<cLine)(i:Nat)(hk:XE X b fb)(ha:XE X a fa)(hN:X.N[i]?=some x:=by rfl)(hv:Vis X.env.scope x:=by first | exact ZAB rfl | exact ZAj (ZAB rfl) | exact ZAj (ZAj rfl))(hd:(x==("__debug__":Str))=false:=by decide)(hcd:(x==("__classdict__":Str))=false:=by decide)
  (hsl:ZpV b:=by intro _ _; rfl)
  (hbase:ZBU (.Subscript (.Name x p1) b p2) "append" X.env (eval (.Subscript (.Name x p1) b p2) X.env)=eval (.Subscript (.Name x p1) b p2) X.env:=by rfl)
  (hfew:((backTo p4 (Zz6 [a] X.env)).all (λx=>!x.1)&&(ZDC p4 (ZCN [] X.env)).all (λx=>x.1.isSome)&&decide (([a]:List Expr).length+([]:List Keyword).length+(if([]:List Keyword).isEmpty then 0 else 1)<30))=true:=by rfl)
  (hline:(p3.endLine==p4.line)=true:=by rfl) (hs:Zz6 [a] X.env=[(false,eval a X.env)]:=by rfl):XS X (.Expr (.Call (.Attribute (.Subscript (.Name x p1) b p2) "append" p3) [a] [] p4) pos) (HM.ZoP i fb fa):=by
 intro r o h;unfold HM.ZoP at h;split at h
 ·rename_i y hy
  split at h
  ·rename_i kvs hb
   split at h
   ·rename_i k hk'
    split at h
    ·rename_i d hd'
     split at h
     ·rename_i ds hds
      split at h
      ·rename_i hz
       cases h;refine PS.imp (Zh1 (ZnQ ZBX ZCX ZCY Zg6 (Zma hu (Zcg hN hv hd hcd) (hk r y hy) hsl) (ZaB (ha r d hd') Zb2 hs) hbase hfew hline hs rfl)) λE σ H ⟨F0,H0,F,at_,kk⟩=>?_;obtain⟨aa,vvs,l,vs,e1,e2,e3,e4,e5,_⟩:=at_.otlApp k hb hds;refine⟨.ref aa,e1,F0,H0,F,at_,λw F1 H1 x1 r1=>?_⟩;obtain⟨bb,rfl,hbb⟩:=ZbY hk' r1;have at1:=at_.grow x1;refine⟨aa,.ref l,rfl,by rw[<-e3]; exact Zch.t (x1.hh _ _ e2) (x1.sub _ _ hbb),.inl ⟨rfl,_,SqL.of (x1.hh _ _ e4)⟩,F0,H0,F1,at1,λv F2 H2 x2 r2=>?_⟩;obtain⟨aa',vvs',l',vs',g1,g2,g3,g4,g5,g6⟩:=(at1.grow x2).otlApp k hb hds;rw[e1]at g1;cases g1;have:=(x1.trans x2).hh _ _ e2;rw[this]at g2;cases g2;rw[e3]at g3;cases g3;refine⟨_,vs',v,rfl,rfl,g4,?_,kk _ F2 _ (g6 d v r2)⟩;rw[<-g5.1];exact Zfk hz
      ·cases h
     ·cases h
    ·cases h
   ·cases h
  ·cases h
 ·cases h
theorem Zs9{k:List Key}(h:HM.Zg kvs k=some ds):HM.ZbU kvs k=kvs:=by unfold HM.ZbU; rw[h]
theorem ZtS{k:List Key}(h:HM.Zg kvs k=none):HM.ZbU kvs k=kvs++[(k,[])]:=by unfold HM.ZbU; rw[h]
theorem Zt5(hu:X.A.units+1<cLine)(i:Nat){p0 p5:Pos}(hk:XE X b fb)(ha:XE X a fa)(m:M2 X (.Name x p0) "setdefault" p1 b (.List [] p2) p3)(hN:X.N[i]?=some x:=by rfl)(hv:Vis X.env.scope x:=by first | exact ZAB rfl | exact ZAj (ZAB rfl) | exact ZAj (ZAj rfl))(hd:(x==("__debug__":Str))=false:=by decide)(hcd:(x==("__classdict__":Str))=false:=by decide)
  (hbase:ZBU (.Call (.Attribute (.Name x p0) "setdefault" p1) [b,.List [] p2] [] p3) "append" X.env (eval (.Call (.Attribute (.Name x p0) "setdefault" p1) [b,.List [] p2] [] p3) X.env)=eval (.Call (.Attribute (.Name x p0) "setdefault" p1) [b,.List [] p2] [] p3) X.env:=by rfl)
  (hfew:((backTo p5 (Zz6 [a] X.env)).all (λx=>!x.1)&&(ZDC p5 (ZCN [] X.env)).all (λx=>x.1.isSome)&&decide (([a]:List Expr).length+([]:List Keyword).length+(if([]:List Keyword).isEmpty then 0 else 1)<30))=true:=by rfl)
  (hline:(p4.endLine==p5.line)=true:=by rfl) (hs:Zz6 [a] X.env=[(false,eval a X.env)]:=by rfl):XS X (.Expr (.Call (.Attribute (.Call (.Attribute (.Name x p0) "setdefault" p1) [b,.List [] p2] [] p3) "append" p4) [a] [] p5) pos) (HM.ZoX i fb fa):=by
 intro r o h;unfold HM.ZoX at h;split at h
 ·rename_i y hy
  split at h
  ·rename_i kvs hb
   split at h
   ·rename_i k hk'
    split at h
    ·rename_i hzz
     split at h
     ·rename_i d hd'
      split at h
      ·rename_i ds hds
       split at h
       ·rename_i hz
        cases h;have hi:i<r.length:=(Zz5.mp hb).1;have hb':(r.set i (some (.otl (HM.ZbU kvs k))))[i]?=some (some (.otl (HM.ZbU kvs k))):=ZAM hi;refine PS.imp (Zh1 (ZnQ ZBX ZCX ZCY Zg6 (ZxZ hu (Zcg hN hv hd hcd) (hk r y hy) (ZbL (X:=X) Zf (by simp) r (.ol []) rfl) m) (ZaB (ha _ d hd') Zb2 hs) hbase hfew hline hs rfl)) λE σ H ⟨F0,H0,F,at_,kk⟩=>?_;have fin:∀{F3 H3:Hp} {l:Addr},At X.K F0 H0 F3 H3 (r.set i (some (.otl (HM.ZbU kvs k)))) σ->(∃vs,SqL X.K H3 l vs)->(∀a' vvs',σ[i]?=some (some (.ref a'))->H3 a'=some (.dT vvs')->ZaZ vvs' k=some (.ref l)) ->
          tyV X.K "list" (.ref l) H3/\Now X.K (r.set i (some (.otl (HM.ZbU kvs k)))) σ H3 λF0 H0 F=>∀v F' H',Ext F H3 F' H'->Rep X.K F' d v->Zrt (.ref l) [v] H' λ_ H'=>E.nx σ H':=by
         intro F3 H3 l at3 hl hat;refine⟨.inl ⟨rfl,hl⟩,F0,H0,F3,at3,λv F4 H4 x4 r4=>?_⟩;obtain⟨aa',vvs',l',vs',g1,g2,g3,g4,g5,g6⟩:=(at3.grow x4).otlApp k hb' hds;obtain⟨aa2,vvs2,l2,vs2,f1,f2,f3,_⟩:=at3.otlApp k hb' hds;rw[f1]at g1;cases g1;rw[x4.hh _ _ f2]at g2;cases g2;rw[hat _ _ f1 f2]at g3;cases g3;have g7:=g6 d v r4;rw[ZDs]at g7;refine⟨_,vs',v,rfl,rfl,g4,?_,kk _ F4 _ g7⟩;rw[<-g5.1];exact Zfk hz
        obtain⟨fq,eb⟩:=at_;obtain⟨aa,vvs,ls,e1,e2,e3,e4⟩:=eb.otl hb;refine⟨.ref aa,e1,aa,rfl,.inr ⟨vvs,.inl e2⟩,F0,H0,F,⟨fq,eb⟩,λw F1 H1 x1 r1=>⟨F0,H0,F1,At.grow ⟨fq,eb⟩ x1,λv F2 H2 x2 ⟨fp,r2,nd,hn⟩=>?_⟩⟩;obtain⟨bb,rfl,hbb⟩:=ZbY hk' r1;have x12:=x1.trans x2;have hz0:vvs.length<sizeLine:=by rw[<-e3.len.2]; exact Zfk hzz
        refine⟨vvs,k,bb,x12.hh _ _ e2,rfl,x2.hh _ _ (x1.sub _ _ hbb),hz0,λu hu'=>?_,λhno=>?_⟩
        ·have hls:∃ds0,HM.Zg kvs k=some ds0:=by
          cases hq:HM.Zg kvs k with
          | some ds0=>exact⟨ds0,rfl⟩
          | none=>rw[(e3.look k).2 hq]at hu'; cases hu'
         obtain⟨ds0,hls⟩:=hls;have ead:=Zs9 hls;obtain⟨l0,vs0,q1,q2,q3,q4⟩:=(e3.look k).1 ds0 hls;rw[q1]at hu';cases hu';refine fin (F3:=F2) ?_ ⟨vs0,SqL.of (x12.hh _ _ q3)⟩ λa' vvs' z1 z2=>?_
         ·rw[ead]
          have:r.set i (some (.otl kvs))=r:=by obtain⟨h1,h2⟩:=Zz5.mp hb;rw[<-h2];exact ZCA h1
          rw[this];exact At.grow ⟨fq,eb⟩ x12
         ·rw[e1]at z1
          cases z1;rw[x12.hh _ _ e2]at z2;cases z2;exact q1
        ·have hls:HM.Zg kvs k=none:=by
          cases hq:HM.Zg kvs k with
          | none=>rfl
          | some ds0=>obtain⟨l0,vs0,q1,_⟩:=(e3.look k).1 ds0 hq;rw[hno]at q1; cases q1
         have ead:=ZtS hls;cases r2 with
         | @ol l _ vs hl1 rs =>
          obtain rfl:vs=[]:=rs.nil_inv;have hHl:H l=none:=x1.hh.free (hn l (by simp)).2;obtain⟨aa2,vvs2,g1,g2,g3,g4,g5⟩:=eb.otlNew k x12 hb hl1 (hn l (by simp)).1 hHl;rw[e1]at g1;cases g1;rw[x12.hh _ _ e2]at g2;cases g2;have hne:l≠aa:=λz=>by rw[z,e2]at hHl; cases hHl
          refine fin (F3:=F2) (by rw[ead]; exact g5) ⟨[],SqL.of (by rw[ZB hne]; exact hl1)⟩ λa' vvs' z1 z2=>?_;rw[e1]at z1;cases z1;rw[ZF]at z2;cases z2;unfold ZaZ at hno ⊢;rw[Option.map_eq_none_iff]at hno;rw[ZDX,hno];simp
       ·cases h
      ·cases h
     ·cases h
    ·cases h
   ·cases h
  ·cases h
 ·cases h
end
end HP
namespace HP
open PySem PyProof.Rows
variable{xs:Array Nat}{b:Bool}{i j:Nat}
def ZeP(xs:Array Nat):Prop:=xs.toList.Pairwise (· < ·)
theorem ZeP.lt(h:ZeP xs){k:Nat}(hk:k<xs.size)(hik:i<k):xs.getD i 0<xs.getD k 0:=by have:=ZD4.mp h i k (by simpa using ZBQ hik hk) (by simpa using hk) hik;simpa [ZB1,hk,ZBQ hik hk]using this
theorem ZkX{xs:Array Nat}(h:ZeP xs)(j:Nat):∀(fuel lo hi:Nat),lo<=hi->hi<=xs.size->hi-lo<=fuel->(∀i,i<lo->xs.getD i 0<j)->(∀i,hi<=i->i<xs.size->j<=xs.getD i 0) ->
  ZDa xs j fuel lo hi<=xs.size/\(∀i,i<ZDa xs j fuel lo hi->xs.getD i 0<j)/\∀i,ZDa xs j fuel lo hi<=i->i<xs.size->j<=xs.getD i 0
 | 0,lo,hi,h1,h2,h3,a,b=>by
  obtain rfl:lo=hi:=by omega
  exact⟨h2,a,b⟩
 | fuel+1,lo,hi,h1,h2,h3,a,b=>by
  unfold ZDa;split
  ·rename_i hlt
   have hm:(lo+hi) / 2<xs.size:=by omega
   have e:xs.getD ((lo+hi) / 2) j=xs.getD ((lo+hi) / 2) 0:=by simp[ZB1,hm]
   dsimp only;rw[e]
   by_cases q:xs.getD ((lo+hi) / 2) 0<j
   ·rw[if_pos q]
    refine ZkX h j fuel ((lo+hi) / 2+1) hi (by omega) h2 (by omega) (λi hi'=>?_) b
    by_cases c:i=(lo+hi) / 2
    ·rw[c]; exact q
    ·exact ZBQ (h.lt hm (by omega)) q
   ·rw[if_neg q]
    refine ZkX h j fuel lo ((lo+hi) / 2) (by omega) (by omega) (by omega) a (λi hi' hs=>?_)
    by_cases c:i=(lo+hi) / 2
    ·rw[c]; omega
    ·have:=h.lt hs (show(lo+hi) / 2<i by omega); omega
  ·obtain rfl:lo=hi:=by omega
   exact⟨h2,a,b⟩
theorem Zf2(h:ZeP xs)(j:Nat):Zz4 xs j<=xs.size/\(∀i,i<Zz4 xs j->xs.getD i 0<j)/\∀i,Zz4 xs j<=i->i<xs.size->j<=xs.getD i 0 :=
 ZkX h j xs.size 0 xs.size (ZBq _) (Zz3 _) (by omega) (λi hi=>by omega) λi h1 h2=>by omega
theorem Zsl(h:ZeP xs)(hi:i<xs.size):Zz4 xs (xs.getD i 0+1)=i+1:=by
 obtain⟨a,b,c⟩:=Zf2 h (xs.getD i 0+1);apply Nat.le_antisymm
 ·apply ZCk
  intro q;have h1:=b (i+1) q;have h2:=h.lt (show i+1<xs.size by omega) (ZCl i);omega
 ·apply ZCk
  intro q;have h1:=c (Zz4 xs (xs.getD i 0+1)) (Zz3 _) (by omega)
  by_cases e:Zz4 xs (xs.getD i 0+1)=i
  ·rw[e]at h1; omega
  ·have:=h.lt hi (show Zz4 xs (xs.getD i 0+1)<i by omega); omega
theorem Zsc(h:ZeP xs):Zz4 xs 0=0:=by obtain⟨a,b,c⟩:=Zf2 h 0;apply Nat.eq_zero_of_not_pos;intro q;have:=b 0 q;omega
theorem ZkE(h:ZeP xs)(hn:xs[Zz4 xs j]?≠some j):ZeP (ZAl xs (Zz4 xs j) j):=by
 obtain⟨a,b,c⟩:=Zf2 h j;unfold ZeP;rw[ZCZ];have gt:∀i,Zz4 xs j<=i->i<xs.size->j<xs.getD i 0:=by
  intro i h1 h2
  by_cases e:Zz4 xs j=i
  ·subst e
   have h3:=c _ h1 h2;have:xs.getD (Zz4 xs j) 0≠j:=λq=>hn (by
    have z:xs[Zz4 xs j]?=some (xs.getD (Zz4 xs j) 0):=by simp[ZB1,h2]
    rw[z,q])
   omega
  ·have h3:=h.lt h2 (show Zz4 xs j<i by omega)
   have h4:=c _ (Zz3 _) (show Zz4 xs j<xs.size by omega);omega
 rw[List.pairwise_append];refine⟨h.sublist (List.take_sublist ..),ZAK.mpr ⟨λx hx=>?_,h.sublist (List.drop_sublist ..)⟩,λx hx y hy=>?_⟩
 ·obtain⟨i,hi,rfl⟩:=ZCo hx
  rw[ZCI,ZAm]at hi;rw[List.getElem_drop];have:=gt (Zz4 xs j+i) (by omega) (by omega);simpa [ZB1,show Zz4 xs j+i<xs.size by omega]using this
 ·obtain⟨i,hi,rfl⟩:=ZCo hx
  rw[ZBz,ZAm]at hi;rw[List.getElem_take];have h1:=b i (by omega);have h1':xs.toList[i]'(by simp; omega)<j:=by simpa [ZB1,show i<xs.size by omega]using h1
  rcases Zz7.mp hy with e | e
  ·rw[e]; exact h1'
  ·obtain⟨k,hk,rfl⟩:=ZCo e
   rw[ZCI,ZAm]at hk;rw[List.getElem_drop];have h2:=gt (Zz4 xs j+k) (by omega) (by omega);have h2':j<xs.toList[Zz4 xs j+k]'(by simp; omega):=by simpa [ZB1,show Zz4 xs j+k<xs.size by omega]using h2
   exact ZBQ h1' h2'
theorem has_none(j:Nat):SetTable.has #[] j=false:=by simp[SetTable.has]
structure Tab(b:Bool)(t:SetTable):Prop where
 dum:t.dummies=#[]
 rise:ZeP t.place
 led:t.led=b
 plain:t.plain=true
 low:∀j∈t.place.toList,j<8
 mask:t.mask=if t.place.size<=4 then 7 else 31
theorem Tab.fresh(b:Bool):Tab b (SetTable.fresh 0 0 b):=⟨rfl,.nil,rfl,rfl,λj hj=>by simp[SetTable.fresh]at hj,rfl⟩
theorem Tab.few{t:SetTable}(h:Tab b t):t.place.size<=8:=by
 have key:∀(l:List Nat) (lo:Nat),l.Pairwise (· < ·)->(∀j∈l,lo<=j/\j<8)->l.length<=8-lo:=by
  intro l
  induction l with
  | nil=>intro lo _ _; simp
  | cons x l ih=>intro lo hp hb;have h1:=hb x (ZzT ..);have h2:=ih (x+1) (ZAK.mp hp).2 λy hy=>⟨(ZAK.mp hp).1 y hy,(hb y (ZzU _ hy)).2⟩;rw[Zz8]; omega
 have:=key t.place.toList 0 h.rise λj hj=>⟨ZBq _,h.low j hj⟩;simpa using this
theorem ZiE{t:SetTable}(h:Tab b t)(hj:j ∉ t.place.toList):t.slot j=.empty/\t.place[Zz4 t.place j]?≠some j:=by have q:t.place[Zz4 t.place j]?≠some j:=λe=>hj (by rw[<-ZAP]at e;exact ZAo e);unfold SetTable.slot;dsimp only;rw[if_neg (by simpa using q),h.dum,has_none,if_neg (by simp)];exact⟨rfl,q⟩
theorem Zxj{t:SetTable}(h:Tab b t)(j:Nat):t.put j=({ t with place:=ZAl t.place (Zz4 t.place j) j },Zz4 t.place j):=by
 unfold SetTable.put;dsimp only;rw[h.dum,has_none];cases t;have:=h.dum
 simp_all
theorem size_insert{α:Type}(xs:Array α)(p:Nat)(x:α):(ZAl xs p x).size=xs.size+1:=by rw[<-ZAm,(ZBH xs p x).length_eq];simp
theorem Zxx{t:SetTable}(h:Tab b t){es:Array (Int × Value)}(he:es.size=t.place.size)(h8:j<8)(hj:j ∉ t.place.toList)(v:Value) :
  layNew t es (j:Int) v=(ZAl es (Zz4 t.place j) ((j:Int),v),{ t with place:=ZAl t.place (Zz4 t.place j) j },false,false):=by
 obtain⟨e1,e2⟩:=ZiE h hj;have hfew:=h.few;have hm:t.mask=7\/t.mask=31:=by rw[h.mask]; split<;>simp
 have hbits:ZEI (j:Int) % (t.mask+1)=j:=by
  have hb:ZEI (j:Int)=j:=by unfold ZEI; omega
  rw[hb];rcases hm with e | e<;>rw[e]<;>omega
 have hfree:t.freeSlot (j:Int)=some (j,false):=by
  unfold SetTable.freeSlot SetTable.probe;have hf:10*ZEB t.mask=(10*ZEB t.mask-1)+1:=by unfold ZEB; omega
  rw[hf];unfold SetTable.probe.go;have hp:(t.probeStart (j:Int)).j=j:=hbits;rw[hp,e1];rfl
 have hle:t.place.size<=7:=by
  apply ZCk;intro q;have h8':t.place.size=8:=by omega
  have:=ZBy (l₁:=j::t.place.toList) (l₂:=ZzX 8) (ZAT.mpr ⟨hj,h.rise.imp λq=>ZAf q⟩) (λx hx=>by
   rcases Zz7.mp hx with e | e
   ·rw[e]; exact ZAi.mpr h8
   ·exact ZAi.mpr (h.low x e))
  simp at this;omega
 have hfit:(ZDh { t with place:=ZAl t.place (Zz4 t.place j) j } (ZAl es (Zz4 t.place j) ((j:Int),v)).size)=true:=by unfold ZDh ZDi;simp only[size_insert,he,h.dum];simp;rw[h.mask];split<;>omega
 unfold layNew;rw[hfree];dsimp only;rw[Zxj h];dsimp only;unfold SetTable.orStandIn;rw[hfit];rfl
theorem Tab.ins{t:SetTable}(h:Tab b t)(h8:j<8)(hj:j ∉ t.place.toList)(hs:t.place.size≠4):Tab b { t with place:=ZAl t.place (Zz4 t.place j) j }:=by
 obtain⟨_,e2⟩:=ZiE h hj;refine⟨h.dum,ZkE h.rise e2,h.led,h.plain,λx hx=>?_,?_⟩
 ·have:=(ZBH t.place (Zz4 t.place j) j).mem_iff.mp hx
  rw[ZCe]at this;rcases ZAp.mp this with q | q
  ·exact h.low x q
  ·rw[Zz0.mp q]; exact h8
 ·dsimp only
  rw[size_insert,h.mask];split<;>split<;>omega
def Zmp:List (List Nat):=(ZzX 8).flatMap λa=>(ZzX 8).flatMap λb=>(ZzX 8).flatMap λc=>(ZzX 8).flatMap λd=>(ZzX 8).filterMap λe=>if a<b/\b<c/\c<d/\d<e then some [a,b,c,d,e]else none
theorem ZqX{l:List Nat}(h:l.Pairwise (· < ·))(h8:∀j∈l,j<8)(h5:l.length=5):l∈Zmp:=by
 match l,h5 with
 | [a,b,c,d,e],_=>simp at h h8;unfold Zmp;simp only[ZCm,ZAi,ZAD];refine⟨a,by omega,b,by omega,c,by omega,d,by omega,e,by omega,?_⟩;rw[if_pos (by omega)]
theorem ZxI:∀l∈Zmp,(SetTable.layClean 31 (l.map λ(n:Nat)=>(n:Int)).toArray).map (λowner=>(ZzX 32).filterMap λj=>(owner.getD j none).map (j,·))=some (l.zip (ZzX 5)):=by decide +kernel
end HP
namespace HP
open PySem PyProof.Rows
variable{es:Array (Int × Value)}{h:Heap}{ns:List Int}
def ZeO(e:Int × Value):Int:=match e.2 with
 | .int n _=>n
 | _=>0
section
variable(prog:Program)(w:World)
def ZoS(es:List (Int × Value)):Prop:=∀e∈es,∃n t,e=((intKind prog w).hash n,ZBM n t)
def ZdV(h:Heap)(a:Addr)(L:List Int):Prop:=∃o es ep t,h.get? a=some o/\o.ExactSet/\o.data=.set es ep t/\ZoS prog w es.toList/\(es.toList.map ZeO).Perm L/\es.toList.map ZeO=t.place.toList.map (λ(j:Nat)=>(j:Int))/\Tab (!w.params.followText "set-order") t
end
section
variable{prog:Program}{w:World}{A:Around}{E:Value->Shared->Prop}{s:Shared}{a:Addr}{L:List Int}
theorem ZoS.elems{es:List (Int × Value)}(h:ZoS prog w es):ElemsOf (intKind prog w) es:=λe he=>by obtain⟨n,t,rfl⟩:=h e he;exact⟨⟨n,ZD5 _ _ _ _,rfl⟩,rfl⟩
theorem ZdV.at'{h':Heap}(x:ZdV prog w h a L)(k:∀o,h.get? a=some o->h'.get? a=some o):ZdV prog w h' a L:=let ⟨o,es,ep,t,e,r⟩:=x; ⟨o,es,ep,t,k o e,r⟩
def stp(L:List Int)(n:Int):List Int:=if L.contains n then L else L++[n]
theorem Ztn{k n:Int}{t:Tok}:(intKind prog w).is k (.int n t)=true↔n=k:=by
 constructor
 ·intro h
  exact(intKind prog w).inj _ _ _ (ZD5 _ _ _ _) h
 ·rintro rfl; exact ZD5 _ _ _ _
theorem ZiB:∀(j:Nat),j<8->(intKind prog w).hash (j:Int)=(j:Int)
 | 0,_=>rfl
 | 1,_=>rfl
 | 2,_=>rfl
 | 3,_=>rfl
 | 4,_=>rfl
 | 5,_=>rfl
 | 6,_=>rfl
 | 7,_=>rfl
 | n+8,h=>by omega
theorem Tab.fits{b:Bool}{t:SetTable}(h:Tab b t):t.fits t.place.size=true:=by have hf:=h.few;unfold ZDh ZDi;rw[h.dum,h.mask];simp;split<;>omega
theorem size_of{t:SetTable}(h:es.toList.map ZeO=t.place.toList.map (λ(j:Nat)=>(j:Int))):es.size=t.place.size:=by have:=congrArg ZAF h;simpa using this
theorem ZlQ{o:Obj}{es':Array (Int × Value)}{ep:Nat}{t t':SetTable}(ho:h.get? a=some o)(hex:o.ExactSet)(hd:o.data=.set es ep t)(hel:ZoS prog w es'.toList)(hp:(es'.toList.map ZeO).Perm L)
  (hs:es'.toList.map ZeO=t'.place.toList.map (λ(j:Nat)=>(j:Int))) (ht:Tab (!w.params.followText "set-order") t') :
  (h.update a (ZC4 es' t')).get? a=some { o with data:=.set es' (ep+1) t' }/\ZdV prog w (h.update a (ZC4 es' t')) a L:=by
 have hg:(h.update a (ZC4 es' t')).get? a=some { o with data:=.set es' (ep+1) t' }:=by
  have:=ZAZ (ZC4 es' t') ho (by rw[putSet_of es' t' hd]; rfl)
  rwa [putSet_of es' t' hd]at this
 exact⟨hg,_,es',ep+1,t',hg,hex,rfl,hel,hp,hs,ht⟩
theorem Zvt{b:Bool}{t:SetTable}(hr:ZeP t.place)(h8:∀j∈t.place.toList,j<8)(h5:t.place.size=5)(he:es.map (·.1)=(t.place.toList.map (λ(j:Nat)=>(j:Int))).toArray)(hl:t.led=b)(hp:t.plain=true) :
  ∃t',relayAll t es 20=(es,t',false)/\t'.place=t.place/\Tab b t':=by
 have hc:=ZxI _ (ZqX hr h8 (by simpa using h5));obtain⟨owner,o1,o2⟩:=ZzR.mp hc;have hsz:es.size=5:=by have:=congrArg Array.size he;simp at this;omega
 have hlen:t.place.toList.length=5:=by simpa using h5
 have z1:(t.place.toList.zip (ZzX 5)).map (·.1)=t.place.toList:=List.map_fst_zip (by rw[hlen]; simp);have z2:(t.place.toList.zip (ZzX 5)).map (·.2)=ZzX 5:=List.map_snd_zip (by rw[hlen]; simp);have hrl:t.relaid (es.map (·.1)) 20=some ({ mask:=31,place:=t.place,dummies:=#[],finger:=t.finger,led:=t.led,moves:=t.movedTo 31,plain:=t.plain },(ZzX 5).toArray):=by
  unfold SetTable.relaid SetTable.laid;have e31:SetTable.sizeAbove 20-1=31:=by decide
  rw[e31,he,o1];show some _=some _;rw[o2,z1,z2]
 refine⟨{ mask:=31,place:=t.place,dummies:=#[],finger:=t.finger,led:=t.led,moves:=t.movedTo 31,plain:=t.plain },?_,rfl,⟨rfl,hr,hl,hp,h8,?_⟩⟩
 ·unfold relayAll
  rw[hrl];dsimp only;have ef:(ZzX 5).toArray.filterMap (λx=>es[x]?)=es:=by apply Array.toList_inj.mp;rw[Array.toList_filterMap];have:=filterMap_getElem?_range es;rw[hsz]at this;simpa using this
  rw[ef];have ec:coversAll (ZzX 5).toArray es.size=true:=by rw[hsz]; decide
  have et:ZDh { mask:=31,place:=t.place,dummies:=#[],finger:=t.finger,led:=t.led,moves:=t.movedTo 31,plain:=t.plain } es.size=true:=by unfold ZDh ZDi;simp[h5,hsz]
  rw[ec,et];rfl
 ·dsimp only
  rw[h5];rfl
theorem Zua{j:Nat}{tk:Tok}{Q:Bool->Shared->Prop}(h8:j<8)(hX:ZdV prog w s.heap a L)
  (h:∀b h',ZBG a s.heap h'->ZdV prog w h' a (stp L j)->Q b { s with heap:=h' }) :
  wpAny (model prog w) A (setAddHashed a (.int j tk) ((intKind prog w).hash j)) Q E s:=by
 obtain⟨o,es,ep,t,ho,hex,hd,hen,hpm,hpl,ht⟩:=hX;have hel:=hen.elems;have hsc:(ZBM (j:Int) tk).scannable=true:=rfl;have hkey:(intKind prog w).is (j:Int) (.int j tk)=true:=ZD5 _ _ _ _;have hsz:=size_of hpl;have hfew:=ht.few;have hf:t.fits es.size=true:=by rw[hsz]; exact ht.fits
 have hsb:scanBound=4096:=rfl;have hb:es.size<scanBound:=by omega
 unfold setAddHashed setAddHashedIn;refine ZBb (ZzQ (ZDb ho hd hf ?_));dsimp only;rw[byScan_of hsc hb hel];simp only[↓reduceIte];unfold setAddByScan;refine ZzQ (ZzQ (ZD3 (ZzQ (wpAny_setScan_of hkey ho hd hf hel ?_))));cases hr:List.findIdx? (λe=>(intKind prog w).is (j:Int) e.2) es.toList with
 | some i =>
  dsimp only;obtain⟨hi,hpi,_⟩:=List.findIdx?_eq_some_iff_getElem.mp hr;have hmem:(j:Int)∈L:=by refine hpm.mem_iff.mp (Zz1.mpr ⟨es.toList[i],ZBl hi,?_⟩);obtain⟨m,u,e⟩:=hen _ (ZBl hi);rw[e]at hpi ⊢;exact Ztn.mp hpi
  refine ZzV (ZzV ?_);have e:s={ s with heap:=s.heap }:=by cases s; rfl
  have q:=h false s.heap (ZEU a s.heap) ⟨o,es,ep,t,ho,hex,hd,hen,by unfold stp; rw[if_pos (by simpa using hmem)]; exact hpm,hpl,ht⟩;rw[e];exact q
 | none =>
  dsimp only;have hne:∀e∈es.toList,ZeO e≠(j:Int):=λe he hv=>by obtain⟨m,u,e1⟩:=hen e he;have no:=List.findIdx?_eq_none_iff.mp hr e he;rw[e1]at no hv;have yes:(intKind prog w).is (j:Int) (.int m u)=true:=Ztn.mpr hv;exact absurd (yes.symm.trans no) (by simp)
  have hnm:(j:Int) ∉ L:=λhm=>by obtain⟨e,he,hv⟩:=Zz1.mp (hpm.mem_iff.mpr hm);exact hne e he hv
  have hj:j ∉ t.place.toList:=λhm=>by
   have:(j:Int)∈es.toList.map ZeO:=by rw[hpl]; exact Zz1.mpr ⟨j,hm,rfl⟩
   obtain⟨e,he,hv⟩:=Zz1.mp this;exact hne e he hv
  obtain⟨mk,pl,dm,fg,ld,mv,pn⟩:=t;obtain rfl:pn=true:=ht.plain;obtain rfl:dm=#[]:=ht.dum;rw[ZiB j h8,Zxx ht hsz h8 hj];dsimp only;obtain⟨_,hnj⟩:=ZiE ht hj;obtain⟨hle,_,_⟩:=Zf2 ht.rise j;have hen1:ZoS prog w (ZAl es (Zz4 pl j) ((j:Int),ZBM j tk)).toList:=λe he=>by
   have:=(ZBH _ _ _).mem_iff.mp he;rw[ZCe]at this;rcases ZAp.mp this with q | q
   ·exact hen e q
   ·exact⟨j,tk,by rw[ZiB j h8]; exact Zz0.mp q⟩
  have hpm1:((ZAl es (Zz4 pl j) ((j:Int),ZBM j tk)).toList.map ZeO).Perm (stp L j):=by unfold stp;rw[if_neg (by simpa using hnm)];refine((ZBH _ _ _).map ZeO).trans ?_;rw[ZCe,ZAq];exact hpm.append_right _
  have hpl1:(ZAl es (Zz4 pl j) ((j:Int),ZBM j tk)).toList.map ZeO=(ZAl pl (Zz4 pl j) j).toList.map (λ(j:Nat)=>(j:Int)):=by rw[ZCZ,ZCZ,ZAq,ZAq,ZzZ,ZzZ,List.map_take,List.map_take,List.map_drop,List.map_drop,hpl];rfl
  have hs1:(ZAl es (Zz4 pl j) ((j:Int),ZBM j tk)).size=es.size+1:=size_insert _ _ _;generalize hE:ZAl es (Zz4 pl j) ((j:Int),ZBM j tk)=es1 at hen1 hpm1 hpl1 hs1 ⊢;have hz1:es1.size<=sizeLine:=by rw[ZBn]; omega
  refine ZzQ (ZzV ?_);simp only[↓reduceIte];refine ZzQ ?_;rw[hashByValue_scannable 8 hsc];refine ZzV ?_;rw[show plainKind (ZBM (j:Int) tk)=true from rfl];simp only[↓reduceIte];show wpAny (model prog w) A (do
    storeSet a es1 (⟨mk,ZAl pl (Zz4 pl j) j,#[],fg,ld,mv,true⟩:SetTable)
    if(!false&&ZCJ (⟨mk,ZAl pl (Zz4 pl j) j,#[],fg,ld,mv,true⟩:SetTable))=true then _ else _) _ E s
  refine ZzQ (wpAny_storeSet_of ho hd ?_ hz1);have hsb1:=ZAS s.heap a (ZC4 es1 (⟨mk,ZAl pl (Zz4 pl j) j,#[],fg,ld,mv,true⟩:SetTable))
  by_cases h4:pl.size=4
  ·have hm:mk=7:=by have q:=ht.mask; dsimp only at q; rw[h4]at q; exact q
   have htf:ZCJ (⟨mk,ZAl pl (Zz4 pl j) j,#[],fg,ld,mv,true⟩:SetTable)=true:=by unfold ZCJ ZDi;simp[size_insert,h4,ht.dum,hm]
   have hg:(s.heap.update a (ZC4 es1 (⟨mk,ZAl pl (Zz4 pl j) j,#[],fg,ld,mv,true⟩:SetTable))).get? a=some { o with data:=.set es1 (ep+1) (⟨mk,ZAl pl (Zz4 pl j) j,#[],fg,ld,mv,true⟩:SetTable) }:=by
    have:=ZAZ (ZC4 es1 (⟨mk,ZAl pl (Zz4 pl j) j,#[],fg,ld,mv,true⟩:SetTable)) ho (by rw[putSet_of _ _ hd]; rfl)
    rwa [putSet_of _ _ hd]at this
   have hh:es1.map (·.1)=((ZAl pl (Zz4 pl j) j).toList.map (λ(j:Nat)=>(j:Int))).toArray:=by
    apply Array.toList_inj.mp;rw[Array.toList_map,<-hpl1];refine ZBv λe he=>?_;obtain⟨m,u,e1⟩:=hen1 e he;have hm:m∈es1.toList.map ZeO:=Zz1.mpr ⟨e,he,by rw[e1]; rfl⟩;rw[hpl1]at hm;obtain⟨k,hk,rfl⟩:=Zz1.mp hm;have hk8:k<8:=by
     have:=(ZBH _ _ _).mem_iff.mp hk;rw[ZCe]at this;rcases ZAp.mp this with q | q
     ·exact ht.low k q
     ·rw[Zz0.mp q]; exact h8
    rw[e1];exact ZiB (prog:=prog) (w:=w) k hk8
   obtain⟨t',r1,r2,r3⟩:=Zvt (b:=!w.params.followText "set-order") (t:=(⟨mk,ZAl pl (Zz4 pl j) j,#[],fg,ld,mv,true⟩:SetTable)) (es:=es1) (ZkE ht.rise hnj)
    (λk hk=>by
     have:=(ZBH _ _ _).mem_iff.mp hk;rw[ZCe]at this;rcases ZAp.mp this with q | q
     ·exact ht.low k q
     ·rw[Zz0.mp q]; exact h8) (by dsimp only; rw[size_insert,h4]) hh ht.led ht.plain
   have hgr:SetTable.grown es1.size=20:=by rw[hs1,hsz,h4]; rfl
   rw[htf];simp only[Bool.not_false,Bool.and_self,↓reduceIte];rw[hgr,r1];dsimp only;refine ZzQ (ZzV (ZzQ (wpAny_storeSet_of hg rfl ?_ hz1)));obtain⟨_,hS2⟩:=ZlQ (prog:=prog) (t':=t') hg hex rfl hen1 hpm1 (by rw[r2]; exact hpl1) r3;exact ZzV (ZzV (h true _ (hsb1.trans (ZAS _ a _)) hS2))
  ·have htf:ZCJ (⟨mk,ZAl pl (Zz4 pl j) j,#[],fg,ld,mv,true⟩:SetTable)=false:=by
    unfold ZCJ ZDi;have q:=ht.mask;dsimp only at q;simp only[size_insert];rw[q];simp;have:=hfew;dsimp only at this;split<;>omega
   rw[htf];simp only[Bool.and_false,ZBO,↓reduceIte];obtain⟨_,hS1⟩:=ZlQ (prog:=prog) (t':=(⟨mk,ZAl pl (Zz4 pl j) j,#[],fg,ld,mv,true⟩:SetTable)) ho hex hd hen1 hpm1 hpl1 (ht.ins h8 hj h4);exact ZzV (ZzV (h true _ hsb1 hS1))
end
section
variable{prog:Program}{w:World}{A:Around}{E:Value->Shared->Prop}{s:Shared}
abbrev Zde(w:World):Obj:={ cls:=.type "set",dict:=none,data:=.set #[] 0 (.fresh 0 0 (!w.params.followText "set-order")) }
theorem ZnF(v:Value){Q₁:Value->Shared->Prop}(h:Q₁ (.ref s.heap.objs.size) { s with heap:=s.heap.push (Zde w) }) :
  codeAny (model prog w) A (.call (.builtin "set.__new__") ⟨[.type "set",v],[]⟩) (wants Q₁ E) s:=by
 refine codeAny_of_tree ?_;show wpAny _ A.in1 (do checkBuiltinCall "set.__new__" ⟨[.type "set",v],[]⟩; again (.builtin "set.__new__" ⟨[.type "set",v],[]⟩)) _ _ s;refine ZzQ (ZDH (PySem.F.newCall_set_1 v) (ZzV ⟨ZCb ZEC _,ZBj PySem.F.entry_set_new ?_⟩));rw[ZA2 ZEC _];unfold Builtin.«set.__new__» Builtin.Frozenset.newClass;have hsub:=sub_set_self;obtain⟨hp,g,d,tk,os⟩:=s;dsimp only
 wp_walk
 refine ZCK (ZzV ?_);dsimp only;simp only[newObj];exact ZzQ (wpAny_alloc (ZzV (ZzV h)))
theorem ZuJ(h:Heap):ZdV prog w (h.push (Zde w)) h.objs.size [] :=
 ⟨_,#[],0,_,ZAa _ rfl,⟨rfl,rfl,rfl⟩,rfl,λe he=>by simp at he,.nil,rfl,Tab.fresh _⟩
theorem ZiN:∀(l acc:List Int) (x:Int),HM.dedup acc (l++[x])=stp (HM.dedup acc l) x
 | [],acc,x=>by show HM.dedup acc [x]=stp acc x;unfold HM.dedup stp;split<;>rfl
 | y::l,acc,x=>by
  show HM.dedup acc (y::(l++[x]))=_;unfold HM.dedup;split
  ·exact ZiN l acc x
  ·exact ZiN l _ x
variable{R:Result->Shared->Prop}{I:Addr}{fp wr:List Addr}{G:Array GenState->Array GenState->Prop}{P:Nat->Value->Prop}{St:Nat->Shared->Prop}
theorem Ztm(W:WalksS prog w A.in1 I fp wr G ns.length P St)(S:Addr)(hSf:S ∉ fp)(hval:∀i v,P i v->∃t,v=.int (ns.getD i 0) t)(hb:∀n∈ns,0<=n/\n<8) :
  ∀(k i:Nat) (s:Shared),ns.length-i=k->i<=ns.length->St i s->ZdV prog w s.heap S (HM.dedup [] (ns.take i)) ->
   (∀s',Moved (S::wr) G s s'->ZdV prog w s'.heap S (HM.dedup [] ns)->R (.ok (.ret .none)) s') ->
   codeAny (model prog w) A (.builtin "set.update.loop" ⟨[.ref S,.ref I],[]⟩) R s:=by
 have hSw:S ∉ wr:=λh=>hSf (W.sub _ h);have hsub:∀b∈wr,b∈S::wr:=λb hb=>ZzU _ hb;intro k
 induction k with
 | zero =>
  intro i s hk hi hst hS hR;obtain rfl:i=ns.length:=by omega
  rw[List.take_length]at hS;refine ZBj F.entry_set_update_loop ?_;rw[ZA2 F.plain_set_update_loop _];show wpAny _ A.in1 (pyNext (.ref I) >>= _) _ _ s;refine ZzQ (W.done s _ _ hst λs' hm=>?_);show wpAny _ A.in1 (ret ZAQ) _ _ s';exact ZzV (hR s' (hm.mono hsub) (hS.at' λo e=>hm.heap S o hSw e))
 | succ k ih =>
  intro i s hk hi hst hS hR;have hlt:i<ns.length:=by omega
  refine ZBj F.entry_set_update_loop ?_;rw[ZA2 F.plain_set_update_loop _];show wpAny _ A.in1 (pyNext (.ref I) >>= _) _ _ s;refine ZzQ (W.item i s _ _ hlt hst λv s' hP hst' hm=>?_);obtain⟨t,rfl⟩:=hval i v hP;have hS':=hS.at' (h':=s'.heap) λo e=>hm.heap S o hSw e;show wpAny _ A.in1 (holding [ZBM (ns.getD i 0) t] (setAdd S (.int (ns.getD i 0) t)) >>= _) _ _ s';refine ZzQ (ZBb ?_);unfold setAdd;refine ZBb (ZzQ ((intKind prog w).pyHash (k:=ns.getD i 0) (ZD5 _ _ _ _) ?_));have hbi:=hb (ns.getD i 0) (by rw[ZBt,Zz2 hlt]; exact ZBl hlt);obtain⟨j,ej⟩:∃j:Nat,ns.getD i 0=(j:Int):=⟨(ns.getD i 0).toNat,by omega⟩;have e:stp (HM.dedup [] (ns.take i)) (ns.getD i 0)=HM.dedup [] (ns.take (i+1)):=by rw[<-ZiN,List.take_succ,ZBt];simp[hlt]
  rw[ej]at e hbi ⊢;refine Zua (s:={ s' with toks:=s'.toks+1 }) (by omega) hS' λb h' hsb hS2=>?_;rw[e]at hS2;refine ZzV ⟨ZCb F.plain_set_update_loop _,ih (i+1) _ (by omega) hlt (W.frame _ s' _ _ hst' (ZEu _) λb hb o e=>?_) hS2 λs'' hm'' hS''=>?_⟩
  ·rw[hsb.2 b (λh:b=S=>hSf (by rw[<-h]; exact hb))]; exact e
  ·refine hR s'' (Moved.trans W.gtrans ((hm.mono hsub).then_heap (ZEu _) λb o hb e=>?_) hm'') hS''
   rw[hsb.2 b (λh:b=S=>hb (by rw[h]; exact ZzT))]; exact e
set_option maxHeartbeats 3200000 in
theorem Ztf{l:Addr}{items:Array Value}{Q:Value->Shared->Prop}(hh:A.handled=none)(hl:s.heap.IsList l items)(hi:IntsAre items.toList ns)(hb:∀n∈ns,0<=n/\n<8)
  (h:∀(h':Heap) (tk:Nat),ZdV prog w h' s.heap.objs.size (HM.dedup [] ns)->(∀b o,b<s.heap.objs.size->s.heap.get? b=some o->h'.get? b=some o)->Q (.ref s.heap.objs.size) { s with heap:=h',toks:=tk }) :
  wpAny (model prog w) A (call (.type "set") [.ref l]) Q E s:=by
 have hsz:items.size=ns.length:=by rw[<-hi.length,ZAm]
 obtain⟨c,tl,hmro⟩:=ZBA.mro;have hmade:=ZBA.made;have hsub:=ZBA.sub;refine wpAny_call (codeAny_of_tree ?_);show wpAny _ _ (callAny (.type "set") _) _ _ _;refine ZzV ⟨Code.quiet_builtin _ (by decide +kernel),ZBj PySem.F.entry_type_call ?_⟩;rw[Around.under_plain (weight_type_call_type "set" [.ref l] []) rfl];have h1:=ZBA.notType;have h2:=ZBA.canCreate;have hct:=PySem.F.typeCall_set_1 (.ref l)
 repeat (any_goals (first | assumption | wp_step))
 refine ZB2 (ZnF (.ref l) (E:=E) (Q₁:=λobj s₁=>obj=.ref s.heap.objs.size/\s₁={ s with heap:=s.heap.push (Zde w) }) ⟨rfl,rfl⟩) λr s₁ hr=>?_;cases r with
 | error e=>exact hr
 | ok fl =>
  cases fl with
  | ret obj =>
   obtain⟨rfl,rfl⟩:=hr;have hX:=ZuJ (prog:=prog) (w:=w) s.heap;have hS:(s.heap.push (Zde w)).get? s.heap.objs.size=some (Zde w):=ZAa _ rfl;have hT:Shared.TypeIs { s with heap:=s.heap.push (Zde w) } (.ref s.heap.objs.size) "set":=⟨_,hS,rfl⟩;have hli:=ZBA.init.lookup;have hbi:=ZBA.init.bind (.ref s.heap.objs.size)
   repeat (any_goals (first | assumption | wp_step))
   refine ZB2 (codeAny_call_builtin (R:=wants (λr s₂=>r=.none/\∃h' tk,s₂={ s with heap:=h',toks:=tk }/\ZdV prog w h' s.heap.objs.size (HM.dedup [] ns) /\
     (∀b o,b<s.heap.objs.size->s.heap.get? b=some o->h'.get? b=some o)) E) ZBA.init.plain PySem.F.entry_set_init (check_set_init_1 hT ?_)) λr₂ s₂ hr₂=>?_
   ·obtain⟨⟨ocls,odict,odata,oslots⟩,hol,hcl,nl,hdl⟩:=hl
    simp only at hcl hdl;subst hcl; subst hdl;have hol':(s.heap.push (Zde w)).get? l=some { cls:=.type "list",dict:=odict,data:=.seq items nl,slots:=oslots }:=ZzW _ hol;have hsls:=PySem.F.sub_list_set;have hslf:=PySem.F.sub_list_frozenset;have hne:(ZCf "list" == ZCf "dict")=false:=by decide
    have hl1:(s.heap.push (Zde w)).IsList l items:=⟨_,hol',rfl,nl,rfl⟩;unfold Builtin.«set.__init__» noKeywords Builtin.Frozenset.updateFrom;generalize hPI:pyIter=PI
    wp_walk
    subst hPI;refine ZDW hl1 (ZzQ (wpAny_runValue ?_));have hlS:l<s.heap.objs.size:=Zz9 hol;have hh3:A.in1.in1.in1.handled=none:=by simp[hh]
    have hneI:l≠(s.heap.push (Zde w)).objs.size:=by rw[ZBZ]; exact ZAf (ZCy hlS)
    have hSf:s.heap.objs.size ∉ [(s.heap.push (Zde w)).objs.size,l]:=by rw[ZBZ]; simp only[Zz7,Zz0,List.not_mem_nil,or_false,not_or];exact⟨ZAf (ZCl _),ZCU hlS⟩
    have Wl:=(Walks.list (prog:=prog) (w:=w) hh3 _ l hneI items).toS;rw[hsz]at Wl;refine Ztm Wl s.heap.objs.size hSf (λi v hv=>IntsAre.int_at hi i v (by rw[ZAP]; exact hv)) hb (ns.length-0) 0 _ (by omega) (ZBq _)
     ⟨⟨_,ZAa _ rfl,rfl,rfl⟩,hl1.push _⟩ (hX.at' λo e=>ZzW _ e) λs' hm hS'=>?_
    obtain⟨h',g',d',tk',os'⟩:=s';have eg:g'=s.gens:=hm.gens;have ed:d'=s.drawn:=hm.drawn;have eo:os'=s.os:=hm.os;subst eg; subst ed; subst eo
    show wpAny _ _ _ _ _ _;refine ZzV ?_;show wpAny _ _ (ret ZAQ) _ _ _;refine ZzV ⟨rfl,h',tk',rfl,hS',λb o hb e=>?_⟩;refine hm.heap b o ?_ (ZzW _ (ZzW _ e));simp only[Zz7,Zz0,List.not_mem_nil,or_false,not_or];exact⟨ZAf hb,by rw[ZBZ]; exact ZAf (ZCy hb)⟩
   ·cases r₂ with
    | error e=>exact hr₂
    | ok fl₂ =>
     cases fl₂ with
     | ret r =>
      obtain⟨rfl,h',tk,rfl,hS',hk'⟩:=hr₂
      repeat (any_goals (first | assumption | wp_step))
      exact h _ _ hS' hk'
     | _=>exact hr₂.elim
  | _=>exact hr.elim
end
end HP
namespace HP
open PySem PyProof.Rows
theorem ZcO:Slot "set_iterator" "__next__" "set_iterator.__next__" :=
 .of (owner:="set_iterator") (n:="__next__") (by rw[typeLookup_type,builtinLookup_eq_fast]; kernel_rfl) (by decide +kernel) (by decide +kernel) (by decide +kernel)
  (by first | exact .inl (by decide +kernel) | exact .inr (by decide +kernel)) (by rw[isSubtype_type]; kernel_rfl)
theorem ZiU:entryFor table "set_iterator.__next__" = some Builtin.«set_iterator.__next__»:=entryFor_of_tree (by kernel_rfl)
theorem ZjS:Slot "set_iterator" "__iter__" "set_iterator.__iter__" :=
 .of (owner:="set_iterator") (n:="__iter__") (by rw[typeLookup_type,builtinLookup_eq_fast]; kernel_rfl) (by decide +kernel) (by decide +kernel) (by decide +kernel)
  (by first | exact .inl (by decide +kernel) | exact .inr (by decide +kernel)) (by rw[isSubtype_type]; kernel_rfl)
theorem ZnE:entryFor table "set_iterator.__iter__" = some Builtin.«dict_keyiterator.__iter__» :=
 entryFor_alias (id':="dict_keyiterator.__iter__") (by kernel_rfl) rfl (by decide +kernel) (by kernel_rfl)
theorem Zlt:entryFor table "set.__iter__" = some Builtin.«frozenset.__iter__» :=
 entryFor_alias (id':="frozenset.__iter__") (by kernel_rfl) rfl (by decide +kernel) (by kernel_rfl)
theorem ZpE:Manifest.owners.lookup (String.ofList ['r','o','t','a','r','e','t','i','_','t','e','s'].reverse)=some Manifest.sig_set_iterator:=by kernel_rfl
theorem Zjr(a:Value):argsOk "set_iterator.__next__" ⟨[a],[]⟩:=by unfold argsOk; rw[signature?_of (id:="set_iterator.__next__") (n:=['_','_','t','x','e','n','_','_']) (o:=['r','o','t','a','r','e','t','i','_','t','e','s']) (by kernel_rfl) ZpE]; kernel_rfl
theorem Zpz(a:Value):argsOk "set_iterator.__iter__" ⟨[a],[]⟩:=by unfold argsOk; rw[signature?_of (id:="set_iterator.__iter__") (n:=['_','_','r','e','t','i','_','_']) (o:=['r','o','t','a','r','e','t','i','_','t','e','s']) (by kernel_rfl) ZpE]; kernel_rfl
theorem ZlE{α:Type}:∀(l:List α) (i:Nat) (h:i<l.length),(l[i]::l.eraseIdx i).Perm l
 | x::l,0,_=>.refl _
 | x::l,i+1,h=>by
  have h':i<l.length:=by simpa using h
  show(l[i]::x::l.eraseIdx i).Perm (x::l);exact(List.Perm.swap x l[i] _).trans ((ZlE l i h').cons x)
theorem ZmV{α:Type}(next:Nat->Nat):∀(n k:Nat) (left:List α) (out:Array α),left.length=n->(ZEm.go next n k left out).toList.Perm (out.toList++left)
 | 0,k,left,out,h=>by rw[ZBV h,ZAE];exact .refl _
 | n+1,k,left,out,h=>by
  have hl:next k % left.length<left.length:=Nat.mod_lt _ (by omega)
  unfold ZEm.go;rw[Zz2 hl];dsimp only;refine(ZmV next n (k+1) _ _ (by rw[List.length_eraseIdx_of_lt hl]; omega)).trans ?_
  rw[ZCe,ZA8];refine List.Perm.append_left _ ?_;exact ZlE left _ hl
theorem Zmu{α:Type}(next:Nat->Nat)(xs:Array α):(ZEm next xs).toList.Perm xs.toList:=by
 have:=ZmV next xs.size 0 xs.toList #[] (by simp)
 simpa [ZEm]using this
end HP
namespace HP
open PySem PyProof.Rows
variable{a it:Addr}{h h':Heap}{ep i n slot:Nat}{Q:Value->Shared->Prop}
structure ZeW(w:World)(h:Heap)(a:Addr)(es:Array (Int × Value))(ep:Nat)(t:SetTable):Prop where
 obj:∃o,h.get? a=some o/\o.ExactSet/\o.data=.set es ep t
 fit:t.fits es.size=true
 siz:es.size=t.place.size
 tab:Tab (!w.params.followText "set-order") t
theorem ZeW.at'{w:World}{es:Array (Int × Value)}{t:SetTable}(x:ZeW w h a es ep t)(k:∀o,h.get? a=some o->h'.get? a=some o):ZeW w h' a es ep t :=
 ⟨let ⟨o,e,r⟩:=x.obj; ⟨o,k o e,r⟩,x.fit,x.siz,x.tab⟩
def Zef(w:World)(a:Addr)(es:Array (Int × Value))(ep:Nat):Array (Int × Value):=if w.params.followText "set-order" then ZEm (w.params.setOrder a ep) es else es
theorem Zjp(w:World)(a:Addr)(es:Array (Int × Value))(ep:Nat):(Zef w a es ep).toList.Perm es.toList:=by
 unfold Zef; split
 ·exact Zmu _ _
 ·exact .refl _
theorem ZjT(w:World)(a:Addr)(es:Array (Int × Value))(ep:Nat):(Zef w a es ep).size=es.size:=by have:=(Zjp w a es ep).length_eq;simpa using this
def ZhG(h:Heap)(it a:Addr)(slot i n ep:Nat):Prop:=∃o,h.get? it=some o/\o.cls=.type "set_iterator"/\o.data=.fields #[.int slot 0,.int i 0,.ref a,.int n 0,.int ep 0]
theorem ZhG.typeIs{s:Shared}(x:ZhG s.heap it a slot i n ep):s.TypeIs (.ref it) "set_iterator":=let ⟨o,ho,hc,_⟩:=x; ⟨o,ho,hc⟩
theorem ZhG.at'(x:ZhG h it a slot i n ep)(k:∀o,h.get? it=some o->h'.get? it=some o):ZhG h' it a slot i n ep:=let ⟨o,e,r⟩:=x; ⟨o,k o e,r⟩
section
variable{prog:Program}{w:World}{A:Around}{E:Value->Shared->Prop}{s:Shared}{it a:Addr}{es:Array (Int × Value)}{ep:Nat}{t:SetTable}
theorem Zui(x:ZeW w s.heap a es ep t)
  (hQ:Q (.ref s.heap.objs.size) { s with heap:=s.heap.push { cls:=.type "set_iterator",data:=.fields #[.int 0 0,.int 0 0,.ref a,.int es.size 0,.int ep 0] } }) :
  wpAny (model prog w) A (pyIter (.ref a)) Q E s:=by
 obtain⟨o,ho,hex,hd⟩:=x.obj;have hT:s.TypeIs (.ref a) "set":=⟨o,ho,hex.1⟩;refine ZDY hT ZED (ZA4 ZED hT Zlt ?_ (PySem.F.args_set_iter_1 _));unfold Builtin.«frozenset.__iter__» Builtin.Frozenset.slot0 slotArgs Builtin.Frozenset.addrOf Builtin.Frozenset.sizeOf;refine ZzQ (ZzQ (ZzV (ZzV ?_)));dsimp only;refine ZzQ (ZzQ (ZDA ho hd x.fit (ZzV ?_)));have hdr:∀{R:Bool->Shared->Prop} {A':Around} {E':Value->Shared->Prop},R false s->wpAny (model prog w) A' (setDrawn a) R E' s:=λ{R A' E'} hR=>by unfold setDrawn setsByText;refine ZzQ (ZDb ho hd x.fit (ZzQ (ZzQ (ZCK (ZzV (ZzV ?_))))));obtain⟨mk,pl,dm,fg,ld,mv,pn⟩:=t;obtain rfl:pn=true:=x.tab.plain;show R (!_&&(!true&&_)) s;simpa using hR
 refine ZzQ (hdr ?_);rw[if_neg (by simp)];refine ZzQ (ZzV (ZzQ (wpAny_setEpoch_of ho hd x.fit ?_)));show wpAny (model prog w) A.in1 (newFields "set_iterator" [rawInt 0,rawInt 0,ZAL a,rawInt (es.size:Int),rawInt (ep:Int)] >>= _) _ E s;refine ZzQ (ZAO (ZzV ⟨_,rfl,"set_iterator",_,⟨_,ZAa _ rfl,rfl⟩,ZcO.lookup,?_⟩));simpa [rawInt]using hQ
theorem ZkC{R:Option (Value × Nat)->Shared->Prop}(x:ZeW w s.heap a es ep t)(hs:w.params.followText "set-order" = false->Zz4 t.place slot=i)
  (hR:R ((Zef w a es ep)[i]?.map λe=>(e.2,if w.params.followText "set-order" then slot else t.place.getD i 0+1)) s):wpAny (model prog w) A (setNext a slot i ep) R E s:=by
 obtain⟨o,ho,hex,hd⟩:=x.obj;unfold setNext setsByText;refine ZzQ (ZDb ho hd x.fit ?_);dsimp only;refine ZzQ (ZzQ (ZCK (ZzV ?_)));dsimp only;cases hb:w.params.followText "set-order" with
 | true=>have hb':(model prog w).w.params.followText "set-order" = true:=hb;rw[hb',if_pos rfl];unfold Zef at hR;rw[hb,if_pos rfl]at hR;simp only[if_pos]at hR;refine ZB7 (λq=>absurd q (by simp)) λ_=>?_;unfold setWalk setsByText;refine ZzQ (ZzQ (ZDb ho hd x.fit ?_));dsimp only;refine ZzQ (ZzQ (ZCK (ZzV ?_)));dsimp only;rw[hb',if_pos rfl];exact ZzQ (ZCK (ZzV (ZzV hR)))
 | false =>
  have hb':(model prog w).w.params.followText "set-order" = false:=hb;rw[hb',if_neg (by simp)];unfold Zef at hR;rw[hb]at hR;simp only[ZBO,if_false]at hR;have hi:=hs hb;have hled:t.led=true:=by rw[x.tab.led,hb]; rfl
  have hsz:=x.siz;obtain⟨mk,pl,dm,fg,ld,mv,pn⟩:=t;obtain rfl:pn=true:=x.tab.plain;obtain rfl:ld=true:=hled;refine ZB7 (λq=>absurd (show(!true&&_)=true from q) (by simp)) λ_=>?_;refine ZzQ ?_;refine ZB7 (λq=>absurd (show(!true&&_)=true from q) (by simp)) λ_=>?_;refine ZzV ?_;dsimp only at hi hsz ⊢;rw[hi];refine ZzV ?_
  by_cases hlt:i<es.size
  ·have h1:es[i]?=some es[i]:=ZCg hlt
   have h2:pl[i]?=some (pl.getD i 0):=by simp[ZB1,show i<pl.size by omega]
   rw[h1]at hR ⊢;rw[h2];exact hR
  ·have h1:es[i]?=none:=ZDf (by omega)
   rw[h1]at hR ⊢;exact hR
theorem Zuk{e:Int × Value}{Q:Option Value->Shared->Prop}(hit:ZhG s.heap it a slot i es.size ep)(x:ZeW w s.heap a es ep t)(hs:w.params.followText "set-order" = false->Zz4 t.place slot=i)(he:(Zef w a es ep)[i]?=some e)
  (hQ:∀h',ZhG h' it a (if w.params.followText "set-order" then slot else t.place.getD i 0+1) (i+1) es.size ep->ZBG it s.heap h'->Q (some e.2) { s with heap:=h' }) :
  wpAny (model prog w) A (pyNext (.ref it)) Q E s:=by
 obtain⟨o,ho,hc,hd⟩:=id hit;obtain⟨os,hos,hex,hds⟩:=x.obj;unfold pyNext;refine ZzQ (ZDP (wpAny_callSpecial?_slot (name:=ZAX "__next__") hit.typeIs ZcO
  (ZA4 ZcO hit.typeIs ZiU ?_ (Zjr _))))
 unfold Builtin.«set_iterator.__next__» slotArgs;refine ZzQ (ZzV ?_);dsimp only;refine ZzQ (ZDF ho hd ?_);dsimp only;refine ZzQ (ZDA hos hds x.fit ?_);refine ZB7 (λq=>absurd q (by simp)) λ_=>?_;simp only[ZA9];refine ZzQ (ZkC x hs ?_);rw[he];dsimp only[Option.map_some];refine ZzQ (ZCi ho hd (by simp) ?_);have g1:(s.heap.update it (ZEJ (·.setIfInBounds 0 (rawInt ((if w.params.followText "set-order" = true then slot else t.place.getD i 0+1:Nat):Int))))).get? it=some _:=ZAZ _ ho (ZCB (ZBe hd _));refine ZzQ (ZCi g1 (ZBe hd _) (by simp) ?_);refine ZzV ⟨_,rfl,ZzV (hQ _ ⟨_,ZAZ _ g1 (ZCB (ZBe (ZBe hd _) _)),?_,?_⟩ ((ZAS ..).trans (ZAS ..)))⟩
 ·rw[ZDc,ZDc]; exact hc
 ·rw[ZBe (ZBe hd _)]; simp[rawInt]
theorem ZuB{Q:Option Value->Shared->Prop}(hh:A.handled=none)(hit:ZhG s.heap it a slot i es.size ep)(x:ZeW w s.heap a es ep t)(hs:w.params.followText "set-order" = false->Zz4 t.place slot=i)(he:es.size<=i)
  (hQ:∀h',Heap.ExtBut it s.heap h'->Q none { s with heap:=h' }):wpAny (model prog w) A (pyNext (.ref it)) Q E s:=by
 obtain⟨o,ho,hc,hd⟩:=id hit;obtain⟨os,hos,hex,hds⟩:=x.obj;have hn:(Zef w a es ep)[i]?=none:=ZDf (by rw[ZjT]; exact he);unfold pyNext;refine ZzQ (ZDP (wpAny_callSpecial?_slot (name:=ZAX "__next__") hit.typeIs ZcO
  (ZA4 ZcO hit.typeIs ZiU ?_ (Zjr _))))
 unfold Builtin.«set_iterator.__next__» slotArgs;refine ZzQ (ZzV ?_);dsimp only;refine ZzQ (ZDF ho hd ?_);dsimp only;refine ZzQ (ZDA hos hds x.fit ?_);refine ZB7 (λq=>absurd q (by simp)) λ_=>?_;simp only[ZA9];refine ZzQ (ZkC x hs ?_);rw[hn];dsimp only[Option.map_none];refine ZzQ (ZCi ho hd (by simp) ?_);refine ZzQ ?_;simp only[newExc,newTuple];refine ZzQ (ZAO ?_ (by size_fits));refine ZzQ (m:=ZCC _ _) (ZDH (a:=ZAQ) (by first | rfl | (simp only[ZCC]; rfl)) ?_)
 refine ZAO ?_ (by size_fits);simp only[raiseNew];refine ZzQ (wpAny_handled ?_);rw[show A.in1.handled=none from hh];refine ZzQ (ZzV (wpAny_throw ?_));refine ZzQ (ZEb (T:="StopIteration") (b:=true) ⟨_,ZAa _ rfl,rfl⟩ isSubtype_stop ?_);exact ZzV (hQ _ (((ZAS ..).extBut.push _).push _))
theorem Zus(hit:ZhG s.heap it a slot i n ep)(h:Q (.ref it) s):wpAny (model prog w) A (pyIter (.ref it)) Q E s:=by refine ZDY hit.typeIs ZjS (ZA4 ZjS hit.typeIs ZnE ?_ (Zpz _));show wpAny _ _ (ret (.ref it)) _ _ s;exact ZzV ⟨_,rfl,"set_iterator",_,hit.typeIs,ZcO.lookup,h⟩
theorem Ztx(hh:A.handled=none)(I a:Addr)(hne:a≠I)(es:Array (Int × Value))(ep:Nat)(t:SetTable) :
  Walks prog w A I [I,a] [I] es.size (λi v=>∃e,(Zef w a es ep)[i]?=some e/\v=e.2) (λi h=>∃slot,ZhG h I a slot i es.size ep/\ZeW w h a es ep t/\(w.params.followText "set-order" = false->Zz4 t.place slot=i)) where
 sub:=λb hb=>by simp at hb; simp[hb]
 frame:=λ_ _ _ ⟨slot,h1,h2,h3⟩ hk=>⟨slot,h1.at' λo e=>hk I (by simp) o e,h2.at' λo e=>hk a (by simp) o e,h3⟩
 item:=λi s Q E hi ⟨slot,h1,h2,h3⟩ hQ=>by
  have hlt:i<(Zef w a es ep).size:=by rw[ZjT]; exact hi
  have hx:(Zef w a es ep)[i]?=some (Zef w a es ep)[i]:=ZCg hlt;refine Zuk h1 h2 h3 hx λh' hit' hs'=>?_;refine hQ _ h' s.toks ⟨_,hx,rfl⟩ ⟨_,hit',h2.at' λo e=>hs'.extBut a o hne e,λhb=>?_⟩ λb o hb e=>hs'.extBut b o (λh=>hb (by simp[h])) e;rw[hb];exact Zsl h2.tab.rise (by rw[<-h2.siz]; exact hi)
 done:=λs Q E ⟨slot,h1,h2,h3⟩ hQ=>ZuB hh h1 h2 h3 (Zz3 _) λh' he'=>hQ h' s.toks λb o hb e=>he' b o (λh=>hb (by simp[h])) e
 self:=λ_ _ _ _ ⟨slot,h1,_⟩ hQ=>Zus h1 hQ
end
end HP
namespace HP
open PySem PySem.W PyProof.Rows
variable{p:Array Nat}{h h':Heap}{ep i j m n:Nat}{Q:Nat × Array Nat->Prop}
section
variable{α β:Type}
def ZcN(o:Nat->Nat->Bool)(n:Nat):KasT α->(α->Prop)->Prop
 | .ret a,Q=>Q a
 | .ask i j k,Q=>i<n/\j<n/\ZcN o n (k (o i j)) Q
theorem ZcN.bnd{o:Nat->Nat->Bool}{n:Nat}{f:α->KasT β}{Q:β->Prop}:∀(t:KasT α),ZcN o n t (λa=>ZcN o n (f a) Q)->ZcN o n (t.bind f) Q
 | .ret a,h=>h
 | .ask i j k,h=>⟨h.1,h.2.1,ZcN.bnd (k (o i j)) h.2.2⟩
end
structure Pm(n:Nat)(p:Array Nat):Prop where
 pos:0<n
 perm:p.Perm (List.toArray (ZzX n))
theorem Pm.size{n:Nat}{p:Array Nat}(h:Pm n p):p.size=n:=by have:=h.perm.size_eq;simpa using this
theorem Pm.lt(h:Pm n p)(i:Nat):p.getD i 0<n:=by
 by_cases hi:i<p.size
 ·have e:p.getD i 0=p[i]:=by simp[ZB1,hi]
  rw[e];have:=(ZDQ.mp h.perm).mem_iff (a:=p[i]);have h2:=this.mp (by simp);simpa using h2
 ·have e:p.getD i 0=0:=by simp[ZB1,hi]
  rw[e]; exact h.pos
theorem Pm.rev(h:Pm n p)(i j:Nat):Pm n (kas_rev p i j):=⟨h.pos,(mirror_perm _ _ _ _).trans h.perm⟩
theorem Pm.bub(h:Pm n p)(i j:Nat):Pm n (bubble p i j):=⟨h.pos,(bubble_perm _ _ _).trans h.perm⟩
theorem getD_eq?(p:Array Nat)(i:Nat):p.getD i 0=(p[i]?).getD 0:=by simp[Array.getD_eq_getD_getElem?]
section
variable(O:KeyOrd)(key:Nat->O.α)
def Ka(p:Array Nat)(i:Nat):O.α:=key (p.getD i 0)
def Up(p:Array Nat)(k:Nat):Prop:=∀i j,i<=j->j<k->O.kle (Ka O key p i) (Ka O key p j)
def Dn(p:Array Nat)(k:Nat):Prop:=∀i j,i<=j->j<k->O.kle (Ka O key p j) (Ka O key p i)
def Ev(p:Array Nat)(m q:Nat):Prop:=∀i,m-(q+1)<=i->i<m->Ka O key p i=Ka O key p (m-1)
abbrev orc:Nat->Nat->Bool:=λi j=>O.blt (key i) (key j)
variable{O key}{p:Array Nat}{n:Nat}
theorem ZpC(hj:j<=p.size)(k:Nat):Ka O key (kas_rev p i j) k=if i<=k/\k<j then Ka O key p (i+j-1-k)else Ka O key p k:=by unfold Ka kas_rev;rw[getD_eq?,getElem?_mirror_all hj];split<;>rw[<-getD_eq?]
theorem ZjE(hj:j<=p.size)(h:∀k,i<=k->k<j->Ka O key p k=Ka O key p (j-1))(k:Nat):Ka O key (kas_rev p i j) k=Ka O key p k:=by
 rw[ZpC hj];split
 ·rename_i hk
  rw[h _ (by omega) (by omega),h k hk.1 hk.2]
 ·rfl
theorem ZtT{s d:Nat}(hs:s<p.size)(hd:d<=s)(k:Nat):Ka O key (bubble p s d) k=if k=s-d then Ka O key p s else if s-d<k/\k<=s then Ka O key p (k-1)else Ka O key p k:=by
 unfold Ka;rw[getD_eq?,getElem?_bubble hs d hd]
 by_cases h1:k=s-d
 ·rw[if_pos h1,if_pos h1,<-getD_eq?]
 ·rw[if_neg h1,if_neg h1]
  by_cases h2:s-d<k/\k<=s
  ·rw[if_pos h2,if_pos h2,<-getD_eq?]
  ·rw[if_neg h2,if_neg h2,<-getD_eq?]
theorem Up.one:Up O key p 1:=λi j h1 h2=>by
 obtain rfl:i=j:=by omega
 exact ZCv _
theorem Up.more{k:Nat}(h:Up O key p k)(hl:O.kle (Ka O key p (k-1)) (Ka O key p k)):Up O key p (k+1):=λi j h1 h2=>by
 by_cases hj:j<k
 ·exact h i j h1 hj
 obtain rfl:j=k:=by omega
 by_cases hi:i=j
 ·subst hi; exact ZCv _
 ·exact ZDl (h i (j-1) (by omega) (by omega)) hl
theorem Dn.more{k:Nat}(h:Dn O key p k)(hl:O.kle (Ka O key p k) (Ka O key p (k-1))):Dn O key p (k+1):=λi j h1 h2=>by
 by_cases hj:j<k
 ·exact h i j h1 hj
 obtain rfl:j=k:=by omega
 by_cases hi:i=j
 ·subst hi; exact ZCv _
 ·exact ZDl hl (h i (j-1) (by omega) (by omega))
theorem Dn.same{p':Array Nat}{k:Nat}(h:Dn O key p k)(e:∀i,Ka O key p' i=Ka O key p i):Dn O key p' k:=λi j h1 h2=>by rw[e,e]; exact h i j h1 h2
theorem Zk9(hp:Pm n p){Q:Nat->Prop}:∀(f m:Nat),Up O key p m->(∀m',m<=m'->m'<=m+f->Up O key p m'->(m'=m+f\/O.klt (Ka O key p m') (Ka O key p (m'-1)))->Q m')->ZcN (orc O key) n (kas_asc p f m) Q
 | 0,m,hu,hq=>hq m (Zz3 _) (by omega) hu (.inl rfl)
 | f+1,m,hu,hq=>by
  refine⟨hp.lt _,hp.lt _,?_⟩;dsimp only;split
  ·rename_i h
   exact hq m (Zz3 _) (by omega) hu (.inr h)
  ·rename_i h
   refine Zk9 hp f (m+1) (hu.more (ZB8 h)) λm' h1 h2 h3 h4=>hq m' (by omega) (by omega) h3 (h4.imp (λe=>by omega) id)
theorem Zg9{Q:Array Nat × Nat × Nat->Prop}:∀(f:Nat) (p:Array Nat) (m q:Nat),Pm n p->Dn O key p m->q+1<=m->Ev O key p m q->m+f<=n ->
  (∀p' m' q',Pm n p'->m<=m'->m'<=m+f->Dn O key p' m'->q'+1<=m'->Ev O key p' m' q'->Q (p',m',q'))->ZcN (orc O key) n (kas_desc f p m q) Q
 | 0,p,m,q,hp,hd,h1,he,hn,hq=>hq p m q hp (Zz3 _) (by omega) hd h1 he
 | f+1,p,m,q,hp,hd,h1,he,hn,hq=>by
  have hz:m<=p.size:=by rw[hp.size]; omega
  have e0:∀p',Ev O key p' (m+1) 0:=λp' i h1 h2=>by congr 1; omega
  refine⟨hp.lt _,hp.lt _,?_⟩;dsimp only;split
  ·rename_i h
   have hd':=hd.more (ZDd h);split
   ·exact Zg9 f _ (m+1) 0 (hp.rev _ _) (hd'.same (ZjE hz he)) (by omega) (e0 _) (by omega) λp' m' q' a b c d e g=>hq p' m' q' a (by omega) (by omega) d e g
   ·exact Zg9 f _ (m+1) 0 hp hd' (by omega) (e0 _) (by omega) λp' m' q' a b c d e g=>hq p' m' q' a (by omega) (by omega) d e g
  ·rename_i h
   refine⟨hp.lt _,hp.lt _,?_⟩;dsimp only;split
   ·exact hq p m q hp (Zz3 _) (by omega) hd h1 he
   ·rename_i h'
    have l1:=ZB8 h;have l2:=ZB8 h';have ee:Ka O key p m=Ka O key p (m-1):=ZEL l2 l1;refine Zg9 f p (m+1) (q+1) hp (hd.more l2) (by omega) (λi a b=>?_) (by omega) λp' m' q' a b c d e g=>hq p' m' q' a (by omega) (by omega) d e g;rw[show m+1-1=m by omega]
    by_cases hi:i=m
    ·rw[hi]
    ·rw[ee]; exact he i (by omega) (by omega)
theorem ZmO(hp:Pm n p)(hd:Dn O key p m)(h1:1<=m)(hm:m<=n)(hq:∀m' p',1<=m'->m'<=n->Pm n p'->Up O key p' m'->Q (m',p')):ZcN (orc O key) n (kas_tail3 m n p) Q:=by
 have hz:m<=p.size:=by rw[hp.size]; omega
 refine ZcN.bnd _ (Zk9 (hp.rev 0 m) (n-m) m (λi j a b=>?_) λm' a b c _=>hq m' _ (by omega) (by omega) (hp.rev 0 m) c);rw[ZpC hz,ZpC hz,if_pos (by omega),if_pos (by omega)];exact hd _ _ (by omega) (by omega)
theorem ZmN(hp:Pm n p)(hd:Dn O key p (m+1))(hm:m+1<=n)(hq:∀m' p',1<=m'->m'<=n->Pm n p'->Up O key p' m'->Q (m',p')):ZcN (orc O key) n (kas_descPart m n p) Q:=by
 refine ZcN.bnd _ (Zg9 (n-(m+1)) p (m+1) 0 hp hd (by omega) (λi a b=>by congr 1; omega) (by omega) λp' m' q' h1 h2 h3 h4 h5 h6=>?_);have hz:m'<=p'.size:=by rw[h1.size]; omega
 dsimp only;split
 ·exact ZmO (h1.rev _ _) (h4.same (ZjE hz h6)) (by omega) (by omega) hq
 ·exact ZmO h1 h4 (by omega) (by omega) hq
theorem Zr8(hp:Pm n p)(hq:∀m' p',1<=m'->m'<=n->Pm n p'->Up O key p' m'->Q (m',p')):ZcN (orc O key) n (kas_count n p) Q:=by
 have h0:=hp.pos;refine ZcN.bnd _ (Zk9 hp (n-1) 1 Up.one λm h1 h2 h3 h4=>?_);have hz:m<=p.size:=by rw[hp.size]; omega
 split
 ·exact hq m p (by omega) (by omega) hp h3
 ·rename_i hne
  have hne':m≠n:=by simpa using hne
  have hlt:O.klt (Ka O key p m) (Ka O key p (m-1)):=h4.resolve_left (by omega);split
  ·rename_i hm
   refine⟨hp.lt _,hp.lt _,?_⟩;dsimp only;split
   ·exact hq m p (by omega) (by omega) hp h3
   ·rename_i hr
    have hr':O.kle (Ka O key p (m-1)) (Ka O key p 0):=ZB8 hr;have all:∀k,0<=k->k<m->Ka O key p k=Ka O key p (m-1):=λk _ hk=>ZEL (h3 k (m-1) (by omega) (by omega)) (ZDl hr' (h3 0 k (by omega) hk));refine ZmN (hp.rev _ _) (Dn.same ?_ (ZjE hz all)) (by omega) hq;refine Dn.more (λi j a b=>?_) (ZDd hlt);rw[all i (by omega) (by omega),all j (by omega) b]; exact ZCv _
  ·obtain rfl:m=1:=by omega
   refine ZmN hp (Dn.more (λi j a b=>?_) (ZDd hlt)) (by omega) hq;obtain rfl:i=j:=by omega
   exact ZCv _
theorem Ziu{Q:Nat->Prop}{k:Nat}(hp:Pm n p)(hu:Up O key p k):∀(f l r:Nat),l<=r->r<=k->r-l<=f->(∀i,i<l->O.kle (Ka O key p i) (Ka O key p k))->(∀i,r<=i->i<k->O.klt (Ka O key p k) (Ka O key p i)) ->
  (∀l,l<=k->(∀i,i<l->O.kle (Ka O key p i) (Ka O key p k))->(∀i,l<=i->i<k->O.klt (Ka O key p k) (Ka O key p i))->Q l)->ZcN (orc O key) n (kas_place p k f l r) Q
 | 0,l,r,h1,h2,h3,lo,hi,hq=>by
  obtain rfl:l=r:=by omega
  exact hq l h2 lo hi
 | f+1,l,r,h1,h2,h3,lo,hi,hq=>by
  unfold kas_place;split
  ·obtain rfl:l=r:=by omega
   exact hq l h2 lo hi
  ·refine⟨hp.lt _,hp.lt _,?_⟩
   dsimp only;split
   ·rename_i h
    exact Ziu hp hu f l ((l+r) / 2) (by omega) (by omega) (by omega) lo (λi a b=>KeyOrd.klt_of_klt_of_kle h (hu _ _ a b)) hq
   ·rename_i h
    refine Ziu hp hu f ((l+r) / 2+1) r (by omega) (by omega) (by omega) (λi a=>ZDl (hu i ((l+r) / 2) (by omega) (by omega)) (ZB8 h)) hi hq
theorem Zqf{Q:Array Nat->Prop}:∀(f:Nat) (p:Array Nat) (k:Nat),Pm n p->Up O key p k->k+f=n->(∀p',Pm n p'->Up O key p' n->Q p')->ZcN (orc O key) n (kas_bin f p k) Q
 | 0,p,k,hp,hu,hn,hq=>by
  obtain rfl:k=n:=by omega
  exact hq p hp hu
 | f+1,p,k,hp,hu,hn,hq=>by
  refine ZcN.bnd _ (Ziu hp hu k 0 k (by omega) (Zz3 _) (by omega) (λi a=>by omega) (λi a b=>by omega) λl hl lo hi=>?_);refine Zqf f _ (k+1) (hp.bub _ _) (λi j a b=>?_) (by omega) hq;have hk:k<p.size:=by rw[hp.size]; omega
  rw[ZtT hk (by omega),ZtT hk (by omega),show k-(k-l)=l by omega]
  repeat' split
  all_goals first
   | (exfalso; omega)
   | exact ZCv _
   | exact lo _ (by omega)
   | exact ZDd (hi _ (by omega) (by omega))
   | exact hu _ _ (by omega) (by omega)
theorem Zs3(hn:0<n){Q:Array Nat->Prop}(hq:∀p,Pm n p->Up O key p n->Q p):ZcN (orc O key) n (kas_sort n) Q:=by
 refine ZcN.bnd _ (Zr8 ⟨hn,.refl _⟩ λm p h1 h2 h3 h4=>?_);dsimp only;rw[show max m 1=m by omega];split
 ·exact Zqf _ p m h3 h4 (by omega) hq
 ·exact hq p h3 (by rwa [show n=m by omega])
end
theorem lex_irrefl:∀a:List Int,HM.lexLt a a=false
 | []=>rfl
 | x::a=>by show(if x=x then HM.lexLt a a else decide (x<x))=false;rw[if_pos rfl]; exact lex_irrefl a
theorem ZgG(x y:Int)(a b:List Int):HM.lexLt (x::a) (y::b)=if x=y then HM.lexLt a b else decide (x<y):=rfl
theorem lex_trans:∀a b c:List Int,HM.lexLt a b=true->HM.lexLt b c=true->HM.lexLt a c=true
 | [],[],_,h,_=>by cases h
 | [],_::_,[],_,h=>by cases h
 | [],_::_,_::_,_,_=>rfl
 | _::_,[],_,h,_=>by cases h
 | _::_,_::_,[],_,h=>by cases h
 | x::a,y::b,z::c,h1,h2=>by
  rw[ZgG]at *;split at h1
  ·rename_i e
   subst e;split at h2
   ·rename_i e; subst e; rw[if_pos rfl]; exact lex_trans a b c h1 h2
   ·rename_i e; rw[if_neg e]; exact h2
  ·split at h2
   ·rename_i e1 e2; subst e2; rw[if_neg e1]; exact h1
   ·rename_i e1 e2
    have h1:=of_decide_eq_true h1;have h2:=of_decide_eq_true h2;rw[if_neg (by omega)]; exact decide_eq_true (by omega)
theorem Zmm:∀a b c:List Int,HM.lexLt a c=true->HM.lexLt a b=true\/HM.lexLt b c=true
 | [],[],_,h=>.inr h
 | [],_::_,_,_=>.inl rfl
 | _::_,_,[],h=>by cases h
 | _::_,[],_::_,_=>.inr rfl
 | x::a,y::b,z::c,h=>by
  rw[ZgG]at *;rw[ZgG];split at h
  ·rename_i e
   subst e
   by_cases e:x=y
   ·subst e; rw[if_pos rfl,if_pos rfl]; exact Zmm a b c h
   ·rw[if_neg e,if_neg (ZA0 e)]
    by_cases q:x<y
    ·exact .inl (decide_eq_true q)
    ·exact .inr (decide_eq_true (by omega))
  ·rename_i e
   have h:=of_decide_eq_true h
   by_cases e1:x=y
   ·subst e1; rw[if_neg e]; exact .inr (decide_eq_true h)
   ·rw[if_neg e1]
    by_cases q:x<y
    ·exact .inl (decide_eq_true q)
    ·rw[if_neg (by omega)]; exact .inr (decide_eq_true (by omega))
theorem ZjF:∀a b:List Int,HM.lexLt a b=false->HM.lexLt b a=false->a=b
 | [],[],_,_=>rfl
 | [],_::_,h,_=>by cases h
 | _::_,[],_,h=>by cases h
 | x::a,y::b,h1,h2=>by
  rw[ZgG]at h1 h2
  by_cases e:x=y
  ·subst e
   rw[if_pos rfl]at h1 h2;rw[ZjF a b h1 h2]
  ·rw[if_neg e]at h1
   rw[if_neg (ZA0 e)]at h2;have h1:=of_decide_eq_false h1;have h2:=of_decide_eq_false h2;omega
@[reducible] def ZoV:KeyOrd where
 α:=List Int
 blt:=HM.lexLt
 irrefl:=lex_irrefl
 trans:=lex_trans
 negTrans:=Zmm
 total:=ZjF
theorem Zit{α:Type}{R:α->α->Prop}(anti:∀a b,R a b->R b a->a=b):∀{l m:List α},l.Perm m->l.Pairwise R->m.Pairwise R->l=m
 | [],m,hp,_,_=>(List.nil_perm.mp hp).symm
 | x::l,[],hp,_,_=>absurd hp.symm (by intro q; exact List.cons_ne_nil _ _ (List.nil_perm.mp q))
 | x::l,y::m,hp,hl,hm=>by
  obtain⟨l1,l2⟩:=ZAK.mp hl;obtain⟨m1,m2⟩:=ZAK.mp hm;have e:x=y:=by
   rcases Zz7.mp (hp.mem_iff.mp (ZzT ..))with e | e
   ·exact e
   ·rcases Zz7.mp (hp.mem_iff.mpr (ZzT ..))with e' | e'
    ·exact e'.symm
    ·exact anti x y (l1 y e') (m1 x e)
  subst e;rw[Zit anti ((List.perm_cons x).mp hp) l2 m2]
def TI(h:Heap)(b:Addr)(t:List Int):Prop:=∃o its n,h.get? b=some o/\o.cls=.type "tuple"/\o.data=.seq its n/\IntsAre its.toList t
theorem TI.keep{b:Addr}{t:List Int}(x:TI h b t)(k:∀o,h.get? b=some o->h'.get? b=some o):TI h' b t:=let ⟨o,its,n,e,r⟩:=x; ⟨o,its,n,k o e,r⟩
section
variable{prog:Program}{w:World}{A:Around}{E:Value->Shared->Prop}{s:Shared}
theorem Ztu{fin:Bool}{Q:Bool->Shared->Prop}:∀{vs ws:List Value} {a b:List Int} (i:Nat),IntsAre vs a->IntsAre ws b->fin=decide (vs.length<ws.length)->Q (HM.lexLt a b) s->KatLex prog w A true fin Q (vs.zip ws) i s
 | _,_,_,_,i,.nil,.nil,e,q=>by subst e; exact kat_nil q
 | _,_,_,_,i,.nil,.cons _ _ _,e,q=>by subst e; exact kat_nil q
 | _,_,_,_,i,.cons _ _ _,.nil,e,q=>by subst e; exact kat_nil q
 | _,_,_,_,i,.cons x t hv,.cons y u hw,e,q=>by
  rw[List.zip_cons_cons];refine kat_cons (wpAny_eqBool_int ?_);rw[ZgG]at q
  by_cases h:x=y
  ·rw[if_pos h]at q
   rw[show(x==y)=true by simpa using h];refine kat_yes (Ztu (i+1) hv hw ?_ q);rw[e,Zz8,Zz8];exact decide_eq_decide.mpr (by omega)
  ·rw[if_neg h]at q
   rw[show(x==y)=false by simpa using h];refine kat_no ?_
   by_cases hi:i=0
   ·rw[show(true&&i==0)=true by simpa using hi]
    exact oneLt_int q
   ·rw[show(true&&i==0)=false by simpa using hi]
    exact kat_one _ _ (PyProof.Rows.lt_int q)
theorem Zxi{x y:Addr}{a b:List Int}{Q:Bool->Shared->Prop}(hx:TI s.heap x a)(hy:TI s.heap y b)(h:Q (HM.lexLt a b) s):wpAny (model prog w) A (keyLt' (tuples' true) (.ref x) (.ref y)) Q E s:=by obtain⟨ox,ix,n,e1,_,d1,r1⟩:=hx;obtain⟨oy,iy,k,e2,_,d2,r2⟩:=hy;refine kat_lt e1 d1 e2 d2 (Ztu 0 r1 r2 ?_ h);rw[ZAm,ZAm]
theorem Zry{α:Type}{cmp:Nat->Nat->(Bool->Shared->Prop)->Shared->Prop}{o:Nat->Nat->Bool}{n:Nat}(hc:∀i j C,i<n->j<n->C (o i j) s->cmp i j C s){G:α->Shared->Prop}:∀(t:KasT α),ZcN o n t (λa=>G a s)->t.kasWp cmp G s
 | .ret a,h=>h
 | .ask i j k,h=>hc i j _ h.1 h.2.1 (Zry hc (k (o i j)) h.2.2)
theorem ZuZ{a:Addr}{vs:List Value}{ts:List (List Int)}{P:PySem.Fin->Shared->Prop}(ho:s.heap.get? a=some (seqObj "list" vs.toArray n))(hl:ts.length=vs.length)
  (hT:∀(i:Nat) t,ts[i]?=some t->∃b,vs[i]?=some (.ref b)/\TI s.heap b t) (hne:vs.length<2\/∀t∈ts,t≠[]) (h64:vs.length<64)
  (h:∀p:List Nat,p.Perm (ZzX vs.length)->(p.map λi=>ts.getD i []).Pairwise (λx y=>HM.lexLt y x=false)->P (.done (.ret .none)) { s with heap:=sortedHeap s.heap a vs (p.map λi=>vs.getD i ZAQ).toArray }) :
  wpAny (model prog w) A (Builtin.«list.sort» ⟨[.ref a],[]⟩) P E s:=by
 rw[list_sort_plain];have ha:a<s.heap.objs.size:=Zz9 ho;refine ZzQ (listItems_at ho rfl (ZzQ (listUpdate_at ho rfl ?_ (by rw[ZAd,ZBn]; omega) (ZBq _))));obtain⟨e1,ho1⟩:∃e1,(s.heap.update a (ZC1 λ_=>#[])).get? a=some (seqObj "list" #[] e1):=⟨_,get?_update_seq ho (λ_=>#[])⟩;refine ZzQ (seqEpoch_at ho1 rfl ?_);refine ZzQ (wpAny_newTuple ?_ (by show vs.length<=_; rw[ZBn]; omega));refine ZzQ (wpAny_newList ?_ (ZBq _));refine ZBb ?_;generalize hG:((s.heap.update a (ZC1 λ_=>#[])).push (seqObj "tuple" vs.toArray 0)).push (seqObj "list" #[] 0)=g;have ho6:g.get? a=some (seqObj "list" #[] e1):=by rw[<-hG,ZCz _ _ _ (by rw[size_push',ZDm]; exact ZAf (ZCy ha)),ZCz _ _ _ (by rw[ZDm]; exact ZAf ha)];exact ho1
 have hold:∀b o,b≠a->s.heap.get? b=some o->g.get? b=some o:=λb o hb e=>by have hlt:=Zz9 e;rw[<-hG,ZCz _ _ _ (by rw[size_push',ZDm]; exact ZAf (ZCy hlt)),ZCz _ _ _ (by rw[ZDm]; exact ZAf hlt),Heap.get?_update_ne _ _ _ _ hb];exact e
 have hT6:∀(i:Nat) t,ts[i]?=some t->∃b,vs[i]?=some (.ref b)/\TI g b t:=λi t e=>by
  obtain⟨b,e1,x⟩:=hT i t e;refine⟨b,e1,x.keep λo q=>hold b o ?_ q⟩
  rintro rfl
  obtain⟨o',_,_,q1,q2,_⟩:=x;rw[ho]at q1;cases q1;injection q2 with q2
  exact absurd q2 (by decide)
 show wpAny (model prog w) A _ P E { s with heap:=g };dsimp only;have fin:∀(st':SortSt) (p:List Nat),p.Perm (ZzX vs.length)->(p.map λi=>ts.getD i []).Pairwise (λx y=>HM.lexLt y x=false)->(arrOf st').map (·.2)=(p.map λi=>vs.getD i ZAQ).toArray->failedOf st'=none ->
   wpAny (model prog w) A (do
    let touched:=(<-seqEpoch a) != e1
    Builtin.List.listUpdate (.ref a) λ_=>(arrOf st').map (·.2)
    if let some e:=failedOf st' then rule "list.sort.comparison-raised"; throw e
    if touched then rule "list.sort.modified"; raiseError "ValueError" "list modified during sort"
    ret .none) P E { s with heap:=g }:=by
  intro st' p hp hs har hf;refine ZzQ (seqEpoch_at ho6 rfl ?_);rw[har];refine ZzQ (listUpdate_at ho6 rfl ?_ (ZBq _) (by show(p.map λi=>vs.getD i ZAQ).toArray.size<=_; rw[ZAd,ZzP,hp.length_eq,ZAN,ZBn]; omega));rw[hf];simp only[bne_self_eq_false,ZBO,if_false];refine ZzV ?_;have:=h p hp hs;unfold sortedHeap at this;rw[hG]at this;exact this
 by_cases h2:vs.toArray.size<2
 ·rw[if_pos h2,if_pos h2]
  refine ZzQ (ZzV ?_);rw[StateT.run_pure];refine ZzQ (ZzV ?_);refine fin (SortSt.mk' general' (vs.toArray.zip vs.toArray) #[] 7 none) (ZzX vs.length) (.refl _) ?_ ?_ rfl
  ·rw[ZAd]at h2
   have:vs.length=0\/vs.length=1:=by omega
   rcases this with e | e<;>rw[e]<;>simp
  ·rw[ZAd]at h2
   show Array.map (·.2) (vs.toArray.zip vs.toArray)=_
   match vs,h2 with
   | [],_=>simp
   | [v],_=>simp
 ·rw[if_neg h2,if_neg h2]
  rw[ZAd]at h2;have hne':∀t∈ts,t≠[]:=hne.resolve_left h2;have tups:∀(vs:List Value) (ts:List (List Int)),ts.length=vs.length->(∀(i:Nat) t,ts[i]?=some t->∃b,vs[i]?=some (.ref b)/\TI g b t)->(∀t∈ts,t≠[])->∃fs,KatTups g vs fs/\fs.length=vs.length/\∀v∈fs,∃x t,v=ZBM x t:=by
   intro vs
   induction vs with
   | nil=>intro ts hl _ _; exact⟨[],KatTups.nil,rfl,by simp⟩
   | cons v vs ih =>
    intro ts hl hT hn;cases ts with
    | nil=>simp at hl
    | cons t ts =>
     obtain⟨fs,f1,f2,f3⟩:=ih ts (by simpa using hl) (λi t e=>hT (i+1) t (by simpa using e)) λx hx=>hn x (ZzU _ hx);obtain⟨b,eb,o,its,m,g1,g2,g3,g4⟩:=hT 0 t rfl;simp at eb;subst eb;cases t with
     | nil=>exact absurd rfl (hn [] (ZzT ..))
     | cons x t =>
      cases hi:its.toList with
      | nil=>rw[hi]at g4; cases g4
      | cons y ys =>
       rw[hi]at g4;cases g4 with
       | cons _ u _ =>
        refine⟨.int x u::fs,KatTups.cons g1 g2 g3 ?_ f1,by simp[f2],λv hv=>?_⟩
        ·rw[<-ZAP,hi]; rfl
        ·rcases Zz7.mp hv with e | e
         ·exact⟨x,u,e⟩
         ·exact f3 v e
  obtain⟨fs,f1,f2,f3⟩:=tups vs ts hl hT6 hne';refine ZzQ (kat_kind (s:={ s with heap:=g }) (T:=.type "int") f1 (by omega) (λv hv=>?_) (by rfl) ?_)
  ·obtain⟨x,t,rfl⟩:=f3 v hv
   exact Looks.of_pure rfl
  rw[show(ZCf "int" != ZCf "tuple")=true by decide];refine ZzQ (ZBg (kat_run (ks:=vs) (Q:=λst' s'=>s'={ s with heap:=g }/\∃p:Array Nat,Pm vs.length p/\Up ZoV (λi=>ts.getD i []) p vs.length/\arrOf st'=p.map (kas_item (vs.toArray.zip vs.toArray))/\failedOf st'=none)
   (G:=λp s'=>s'={ s with heap:=g }/\Pm vs.length p/\Up ZoV (λi=>ts.getD i []) p vs.length) rfl (by omega) h64 (λp' st' s' a1 a2 a3 a4=>⟨a4.1,p',a4.2.1,a4.2.2,a2,a3⟩) ?_) ?_ λ_ _ e=>e)
  ·refine Zry (o:=orc ZoV λi=>ts.getD i []) (n:=vs.length) (λi j C hi hj hC=>?_) _ (Zs3 (by omega) λp h1 h2=>⟨rfl,h1,h2⟩)
   have gi:ts[i]?=some (ts.getD i []):=by simp[show i<ts.length by omega]
   have gj:ts[j]?=some (ts.getD j []):=by simp[show j<ts.length by omega]
   obtain⟨b1,v1,x1⟩:=hT6 i _ gi;obtain⟨b2,v2,x2⟩:=hT6 j _ gj;show wpAny (model prog w) A (keyLt' _ (vs.getD i ZAQ) (vs.getD j ZAQ)) C _ _;rw[show vs.getD i ZAQ=.ref b1 by simp[ZBt,v1],show vs.getD j ZAQ=.ref b2 by simp[ZBt,v2]];exact Zxi x1 x2 hC
  ·rintro ⟨⟨⟩,st'⟩ s' ⟨rfl,p,hp,hu,har,hf⟩
   refine fin st' p.toList ?_ ?_ (kat_snds rfl har) hf
   ·have:=ZDQ.mp hp.perm
    simpa using this
   ·rw[ZDZ,ZD4]
    intro i j hi hj hij;have hsz:=hp.size;have q:=hu i j (ZBP hij) (by rw[ZAm]at hj; omega);unfold Ka at q;rw[show p.getD i 0=p.toList[i] by simp[ZB1,show i<p.size by simpa using hi],show p.getD j 0=p.toList[j] by simp[ZB1,show j<p.size by simpa using hj]]at q;exact q
end
def Zfi(h:Heap)(d:Addr)(es:Array DictEntry)(ep:Nat):Prop:=∃o,h.get? d=some o/\o.ExactDict/\o.data=.dict es ep
theorem Zfi.at'{d:Addr}{es:Array DictEntry}(x:Zfi h d es ep)(e:∀o,h.get? d=some o->h'.get? d=some o):Zfi h' d es ep:=let ⟨o,ho,r⟩:=x; ⟨o,e _ ho,r⟩
theorem Zfi.typeIs{s:Shared}{d:Addr}{es:Array DictEntry}(x:Zfi s.heap d es ep):s.TypeIs (.ref d) "dict":=let ⟨o,ho,hc,_⟩:=x; ⟨o,ho,hc.1⟩
theorem Zfi.lt{d:Addr}{es:Array DictEntry}(x:Zfi h d es ep):d<h.objs.size:=let ⟨o,ho,_⟩:=x; Zz9 ho
section
variable{prog:Program}{w:World}{A:Around}{E:Value->Shared->Prop}{s:Shared}{it d:Addr}{es:Array DictEntry}{ep i:Nat}
theorem Zqb{Q:Value->Shared->Prop}(hd:(d==ZBx)=false)(hm:Zfi s.heap d es ep)
  (hQ:Q (.ref s.heap.objs.size) { s with heap:=s.heap.push { cls:=.type "dict_keyiterator",data:=.fields #[.ref d,.int 0 0,.int es.size 0,.int ep 0] } }) :
  wpAny (model prog w) A (pyIter (.ref d)) Q E s:=by
 obtain⟨o,ho,hc,hdat⟩:=id hm;have hT:=hm.typeIs;refine ZDY hT F.slot_dict_iter (ZA4 F.slot_dict_iter hT F.entry_dict_iter ?_ (F.args_dict_iter_1 _));unfold Builtin.«dict.__iter__»;refine ZzQ ?_;unfold Builtin.Dict.dictSlotNone;refine ZzQ (wpAny_notOrdered_dict hT ?_);show wpAny _ _ (pure (ZAL d)) _ _ s;refine ZzV ?_;show wpAny _ _ (ZEE d >>= _) _ _ s;unfold ZEE;rw[if_neg (by rw[hd]; exact ZAC)];refine ZzQ (ZzV (ZzQ (ZC9 ho hdat (ZzQ (ZEn ho hdat ?_)))));refine ZzQ (ZAO (ZzV ⟨_,rfl,"dict_keyiterator",_,⟨_,ZAa _ rfl,rfl⟩,F.slot_dict_keyiterator_next.lookup,?_⟩));simpa [rawInt]using hQ
theorem Zqe{e:DictEntry}{Q:Option Value->Shared->Prop}(hit:s.heap.IsKeyIter it d i es.size ep)(hm:Zfi s.heap d es ep)(hx:es[i]?=some e)
  (hQ:∀h',h'.IsKeyIter it d (i+1) es.size ep->ZBG it s.heap h'->Q (some e.key) { s with heap:=h' }) :
  wpAny (model prog w) A (pyNext (.ref it)) Q E s:=by
 obtain⟨o,ho,hc,hd⟩:=id hit;obtain⟨od,hod,hcd,hdd⟩:=id hm;unfold pyNext;refine ZzQ (ZDP (wpAny_callSpecial?_slot (name:=ZAX "__next__") hit.typeIs F.slot_dict_keyiterator_next
  (ZA4 F.slot_dict_keyiterator_next hit.typeIs F.entry_dict_keyiterator_next ?_ (F.args_dict_keyiterator_next_1 _))))
 refine ZzQ (ZzV (ZzQ (ZzQ ?_)))
 first | refine ZzQ (ZBW hit.typeIs (ZzV ?_)) | refine ZzQ (ZCn hit.typeIs (ZzV ?_))
 refine ZzQ (ZDF ho hd ?_);have hown:ZDG "dict_keyiterator" = false:=by decide
 simp only[hown,ZBO,if_false];show wpAny _ _ (if(ZAL d==ZAQ)=true then _ else _) _ _ s;rw[if_neg (show ¬((ZAL d==ZAQ)=true) from ZAC)];refine ZzQ (ZzV (ZzQ (ZC9 hod hdd ?_)));rw[if_neg (by simp)];refine ZzQ (ZzV (ZzQ (ZEn hod hdd ?_)));rw[if_neg (by simp)];refine ZzV ?_;obtain⟨hlt,he⟩:=Array.getElem?_eq_some_iff.mp hx;simp only[show ¬((i:Int)<0) from by omega,if_false,ZA9,ZCg hlt];refine ZzQ ?_
 first | refine ZzQ (ZBW hit.typeIs (ZzV ?_)) | refine ZzQ (ZCn hit.typeIs (ZzV ?_))
 refine ZzQ (wpAny_isOneOf_keyiter hit.typeIs ?_);show wpAny _ _ (setField (.ref it) 1 (rawInt ((i:Int)+1)) >>= _) _ _ s;refine ZzQ (ZCi ho hd (by simp) ?_);have hit':(s.heap.update it (ZEJ (·.setIfInBounds 1 (rawInt ((i:Int)+1))))).IsKeyIter it d (i+1) es.size ep :=
  ⟨_,ZAZ _ ho (ZCB (ZBe hd _)),(ZDc ..).trans hc,by rw[ZBe hd]; simp[rawInt]⟩
 refine ZzQ (ZBb ?_);refine ZzQ (wpAny_isOneOf_keyiter (s:={ s with heap:=s.heap.update it (ZEJ (·.setIfInBounds 1 (rawInt ((i:Int)+1)))) }) hit'.typeIs ?_);show wpAny _ _ (pure es[i].key) _ _ _;refine ZzV (ZzV ⟨_,rfl,ZzV ?_⟩);rw[he];exact hQ _ hit' (ZAS ..)
theorem Zra{Q:Option Value->Shared->Prop}(hh:A.handled=none)(hit:s.heap.IsKeyIter it d i es.size ep)(hm:Zfi s.heap d es ep)(hx:es.size<=i)
  (hQ:∀h',Heap.ExtBut it s.heap h'->Q none { s with heap:=h' }):wpAny (model prog w) A (pyNext (.ref it)) Q E s:=by
 obtain⟨o,ho,hc,hd⟩:=id hit;obtain⟨od,hod,hcd,hdd⟩:=id hm;unfold pyNext;refine ZzQ (ZDP (wpAny_callSpecial?_slot (name:=ZAX "__next__") hit.typeIs F.slot_dict_keyiterator_next
  (ZA4 F.slot_dict_keyiterator_next hit.typeIs F.entry_dict_keyiterator_next ?_ (F.args_dict_keyiterator_next_1 _))))
 refine ZzQ (ZzV (ZzQ (ZzQ ?_)))
 first | refine ZzQ (ZBW hit.typeIs (ZzV ?_)) | refine ZzQ (ZCn hit.typeIs (ZzV ?_))
 refine ZzQ (ZDF ho hd ?_);have hown:ZDG "dict_keyiterator" = false:=by decide
 simp only[hown,ZBO,if_false];show wpAny _ _ (if(ZAL d==ZAQ)=true then _ else _) _ _ s;rw[if_neg (show ¬((ZAL d==ZAQ)=true) from ZAC)];refine ZzQ (ZzV (ZzQ (ZC9 hod hdd ?_)));rw[if_neg (by simp)];refine ZzQ (ZzV (ZzQ (ZEn hod hdd ?_)));rw[if_neg (by simp)];refine ZzV ?_;simp only[show ¬((i:Int)<0) from by omega,if_false,ZA9,ZDf hx];refine ZzQ ?_
 first | refine ZzQ (ZBW hit.typeIs (ZzV ?_)) | refine ZzQ (ZCn hit.typeIs (ZzV ?_))
 show wpAny _ _ (setField (.ref it) 0 .none >>= _) _ _ s;refine ZzQ (ZCi ho hd (by simp) ?_);show wpAny _ _ (newExc (.type "StopIteration") [] >>= _) _ _ _;refine ZzQ ?_;simp only[newExc,newTuple];refine ZzQ (ZAO ?_ (by size_fits));refine ZzQ (m:=ZCC _ _) (ZDH (a:=ZAQ) (by first | rfl | (simp only[ZCC]; rfl)) ?_)
 refine ZAO ?_ (by size_fits);simp only[raiseNew];refine ZzQ (wpAny_handled ?_);rw[show A.in1.handled=none from hh];refine ZzQ (ZzV (wpAny_throw ?_));refine ZzQ (ZEb (T:="StopIteration") (b:=true) ⟨_,ZAa _ rfl,rfl⟩ isSubtype_stop ?_);exact ZzV (hQ _ (((ZAS ..).extBut.push _).push _))
theorem Zto(hh:A.handled=none)(I d:Addr)(hne:d≠I)(es:Array DictEntry)(ep:Nat) :
  Walks prog w A I [I,d] [I] es.size (λi v=>∃e,es[i]?=some e/\v=e.key) (λi h=>h.IsKeyIter I d i es.size ep/\Zfi h d es ep) where
 sub:=λb hb=>by simp at hb; simp[hb]
 frame:=λ_ _ _ st hk=>⟨st.1.at λo e=>hk I (by simp) o e,st.2.at' λo e=>hk d (by simp) o e⟩
 item:=λi s Q E hi st hQ=>by have hx:es[i]?=some es[i]:=ZCg hi;refine Zqe st.1 st.2 hx λh' hit' hs'=>?_;exact hQ _ h' s.toks ⟨_,hx,rfl⟩ ⟨hit',st.2.at' λo e=>hs'.extBut d o hne e⟩ λb o hb e=>hs'.extBut b o (λh=>hb (by simp[h])) e
 done:=λs Q E st hQ=>Zra hh st.1 st.2 (Zz3 _) λh' he'=>hQ h' s.toks λb o hb e=>he' b o (λh=>hb (by simp[h])) e
 self:=λ_ _ _ _ st hQ=>wpAny_pyIter_keyiter st.1 hQ
end
end HP
namespace HP
open PySem PySem.Spec PySem.W PySem.Calls PyProof.Rows L2
variable{a r:Addr}{es:Array (Int × Value)}{h:Heap}{ep:Nat}
variable[FX]
section
variable{prog:Program}{w:World}{A:Around}{E:Value->Shared->Prop}{s:Shared}
theorem ZuL{Q:Bool->Shared->Prop}(hT:s.TypeIs (.ref r) "set")(h:Q false s):wpAny (model prog w) A (ZDK (.ref r)) Q E s:=by
 unfold ZDK;refine ZzQ (wpAny_specialOf hT PySem.F.slot_set_len.lookup ?_);generalize hid:("set.__len__":String)=id0
 wp_delta
 rw[show splitId id0=some ("set","__len__") from by subst hid; decide +kernel];subst hid;refine ZzQ (ZEb (T:="set") (b:=true) hT (by rw[isSubtype_type]; kernel_rfl) ?_);refine ZB7 (λq=>absurd q (by decide)) λ_=>?_;refine ZB7 (λ_=>?_) (λq=>absurd (by decide +kernel) q);exact ZzQ (wpAny_typeOf hT (ZzV h))
theorem Zwt{d:Addr}{es:Array DictEntry}(lo:(d==ZBx)=false):KdlSrc prog w "dict" d d es.size (λi v=>∃e,es[i]?=some e/\v=e.key) (λh=>Zfi h d es ep) where
 type:=λ_ hm=>hm.typeIs
 there:=λ_ hm=>⟨hm.lt,hm.lt⟩
 keep:=λ_ _ hm hk=>hm.at' λo e=>hk d (.inl rfl) o e
 notList:=by decide
 notTuple:=by decide
 hint:=λ_ _ _ _ hm hq=>kdl_hint_dict hm.typeIs hq
 iter:=λ_ _ hh hm=>⟨_,_,(λ_ _ hq=>Zqb lo hm hq),Zto hh _ d (ZAf hm.lt) es ep,⟨⟨_,ZAa _ rfl,rfl,rfl⟩,hm.at' λo e=>ZzW _ e⟩⟩
theorem ZeW.typeIs{t:SetTable}(x:ZeW w s.heap a es ep t):s.TypeIs (.ref a) "set":=let ⟨o,ho,hc,_⟩:=x.obj; ⟨o,ho,hc.1⟩
theorem ZeW.lt{t:SetTable}(x:ZeW w h a es ep t):a<h.objs.size:=let ⟨o,ho,_⟩:=x.obj; Zz9 ho
theorem Zv3{t:SetTable}:KdlSrc prog w "set" a a es.size (λi v=>∃e,(Zef w a es ep)[i]?=some e/\v=e.2) (λh=>ZeW w h a es ep t) where
 type:=λ_ hm=>hm.typeIs
 there:=λ_ hm=>⟨hm.lt,hm.lt⟩
 keep:=λ_ _ hm hk=>hm.at' λo e=>hk a (.inl rfl) o e
 notList:=by decide
 notTuple:=by decide
 hint:=λ_ _ _ _ hm hq=>ZuL hm.typeIs hq
 iter:=λ_ _ hh hm=>⟨_,_,(λ_ _ hq=>Zui hm hq),Ztx hh _ a (ZAf hm.lt) es ep t,⟨0,⟨_,ZAa _ rfl,rfl,rfl⟩,hm.at' λo e=>ZzW _ e,λ_=>Zsc hm.tab.rise⟩⟩
theorem ZhF{T:String}{d:Addr}{n:Nat}{P:Nat->Value->Prop}{OK:Heap->Prop}{R:List Value->Shared->Prop}(K:KdlSrc prog w T r d n P OK)(hh:A.handled=none)(hok:OK s.heap)(hn:n<=sizeLine)
  (h:∀(h':Heap) (tk:Nat) (acc:Array Value),(∀b o,s.heap.get? b=some o->h'.get? b=some o)->s.heap.objs.size<h'.objs.size->ItemsOf P acc n->R acc.toList { s with heap:=h',toks:=tk }) :
  wpAny (model prog w) A (collect (.ref r)) R E s:=by
 have hlt:=K.there _ hok;unfold collect;refine ZzQ (wpAny_runValue (ZBj entry_proto_collect' ?_));rw[ZA2 ZDL _];show wpAny _ A.in1 (newList [] >>= λl=>again (.builtin "list.__iadd__" ⟨[l,.ref r],[]⟩)) _ _ s;refine ZzQ (ZAO (ZzV ⟨ZCb ZCt _,ZBj entry_list_iadd' ?_⟩));rw[ZA2 ZCt _];have hS₁:(s.heap.push { cls:=.type "list",data:=.seq ([]:List Value).toArray }).get? s.heap.objs.size=some { cls:=.type "list",data:=.seq #[] }:=ZAa _ rfl;show wpAny _ A.in1 (ZDM (.ref s.heap.objs.size) (.ref r) (.ref s.heap.objs.size)) _ _ _;refine ZBg (kdl_extend (A:=A) (s:={ s with heap:=s.heap.push { cls:=.type "list",data:=.seq ([]:List Value).toArray } })
  (R:=λ(q:Result) (s':Shared)=>∃(h':Heap) (tk:Nat) (acc':Array Value) (c':Nat),q=.ok (.ret (.ref s.heap.objs.size))/\s'={ s with heap:=h',toks:=tk } /\
   (∀b o,s.heap.get? b=some o->h'.get? b=some o)/\h'.get? s.heap.objs.size=some { cls:=.type "list",dict:=none,data:=.seq acc' c',slots:=#[] }/\ItemsOf P acc' n)
  K hh (K.keep _ _ hok λb _ o e=>ZzW _ e) s.heap.objs.size (ZCU hlt.1) (ZCU hlt.2) (.ref s.heap.objs.size) 0 hS₁
  (λh' tk acc' c' hk hS' hacc=>⟨h',tk,acc',c',rfl,rfl,λb o e=>hk b o (ZAf (Zz9 e)) (ZzW _ e),hS',hacc⟩) hn) (λfin s' x=>?_) λe s' x=>?_
 ·have go:∀(h':Heap) (tk:Nat) (acc':Array Value) (c':Nat),(∀b o,s.heap.get? b=some o->h'.get? b=some o)->h'.get? s.heap.objs.size=some { cls:=.type "list",dict:=none,data:=.seq acc' c',slots:=#[] }->ItemsOf P acc' n ->
    wpAny (model prog w) A (load s.heap.objs.size >>= λo=>match o.data with | .seq xs _=>pure xs.toList | _=>unsupported "internal:collect") R E { s with heap:=h',toks:=tk }:=λh' tk acc' c' hk hS' hacc =>
   ZzQ (wpAny_load hS' (ZzV (h h' tk acc' hk (Zz9 hS') hacc)))
  cases fin with
  | done f=>obtain⟨h',tk,acc',c',e,rfl,hk,hS',hacc⟩:=x;cases e;exact go h' tk acc' c' hk hS' hacc
  | again c₁=>refine⟨x.1,ZB2 x.2 λq s₂ y=>?_⟩;obtain⟨h',tk,acc',c',rfl,rfl,hk,hS',hacc⟩:=y;exact go h' tk acc' c' hk hS' hacc
 ·obtain⟨_,_,_,_,e',_⟩:=x
  cases e'
end
inductive Zjv(K:ZzS)(F H:Hp)(p:Addr):List PyData->Prop where
 | lst {ds:List PyData} {vs:List V} (h:SqL K H p vs) (r:Zt K F ds vs):Zjv K F H p ds
 | tup {ds:List PyData} {vs:List V} (h:SqT K H p vs) (r:Zt K F ds vs):Zjv K F H p ds
 | dk {kvs:List (Key × V)} (h:H p=some (.dK kvs)):Zjv K F H p (kvs.map λq=>HM.ZaU q.1)
 | dt {kvs:List (List Key × V)} (h:H p=some (.dT kvs)):Zjv K F H p (kvs.map λq=>.tuple (q.1.map HM.ZaU))
theorem ZvX{K:ZzS}{F:Hp}(k:Key):Rep K F (HM.ZaU k) (kV k):=by
 cases k with
 | inl i=>exact .int i
 | inr x=>exact .str x
theorem Zhb{K:ZzS}{F:Hp}:∀(ks:List Key),Zt K F (ks.map HM.ZaU) (ks.map kV)
 | []=>.nil
 | k::ks=>.cons (ZvX k) (Zhb ks)
theorem Zwl{P:Program}{w:World}{k:Key}{u:Value}(h:(ZaA P w).is k u=true):RelV (kV k) u:=by
 rw[Zr5]at h;rcases Zbp h with⟨i,t,rfl,rfl⟩ | ⟨x,t,rfl,rfl⟩
 ·exact⟨t,rfl⟩
 ·exact⟨t,rfl⟩
section
variable{X:Cx}{pins:List (Addr × Obj)}{σ:L2.St}{H F:Hp}{s:Shared}{p:Addr}{ds:List PyData}
theorem ZhZ:∀{vs:List V} {us:List Value},vs.length=us.length->(∀(i:Nat) v u,vs[i]?=some v->us[i]?=some u->RelV v u)->Vals vs us
 | [],[],_,_=>.nil
 | [],_::_,h,_=>by simp at h
 | _::_,[],h,_=>by simp at h
 | v::vs,u::us,h,k=>.cons (k 0 v u rfl rfl) (ZhZ (by simpa using h) λi a b e1 e2=>k (i+1) a b (by simpa using e1) (by simpa using e2))
theorem Zjv.gath(I:Inv X pins σ H s)(sub:Zq F H)(h:Zjv X.K F H p ds):∃vs,Zt X.K (Zci F H) ds vs/\∀(A:Around) (E:Value->Shared->Prop) (R:List Value->Shared->Prop),A.handled=none ->
  (∀us h' tk,Vals vs us->(∀b o,s.heap.get? b=some o->h'.get? b=some o)->R us { s with heap:=h',toks:=tk })->wpAny (model X.prog X.w) A (collect (.ref p)) R E s:=by
 cases h with
 | @lst _ vs h r=>obtain⟨its,rv,pl,hz⟩:=I.list h;obtain⟨o,ho,hcl,n,hd⟩:=pl.isList;refine⟨vs,r.mono (ZcQ sub),λA E R _ k=>wpAny_collect_seq p (.inl rfl) ho hcl hd (λh' kp=>?_) (by rw[ZAd,<-rv.length]; exact hz)⟩;exact k its h' s.toks rv kp
 | @tup _ vs h r=>obtain⟨its,rv,pl,hz⟩:=I.tuple h;obtain⟨o,ho,hcl,n,hd⟩:=pl;refine⟨vs,r.mono (ZcQ sub),λA E R _ k=>wpAny_collect_seq p (.inr rfl) ho hcl hd (λh' kp=>?_) (by rw[ZAd,<-rv.length]; exact hz)⟩;exact k its h' s.toks rv kp
 | @dk kvs h =>
  obtain⟨z,lo,vs,rel,dd⟩:=Zst I.hok h;obtain⟨ep,hat⟩:=dd.dictAt;have hl:kvs.length=vs.length:=ZCu rel;refine⟨kvs.map λq=>kV q.1,?_,λA E R hh k=>ZhF (kdl_dict (knd:=ZaA X.prog X.w) (kvs:=vs) (ep:=ep) lo) hh hat (by omega) λh' tk acc kp hsz hacc=>k _ h' tk ?_ kp⟩
  ·have:=Zhb (K:=X.K) (F:=Zci F H) (kvs.map (·.1))
   rw[ZAe,ZAe]at this;exact this
  ·refine ZhZ (by have q:acc.toList.length=acc.size:=ZAm; rw[ZzP,q,hacc.1,hl]) λi v u e1 e2=>?_
   obtain⟨kk,x,q1,q2⟩:=hacc.2 i u (by rw[<-ZAP]; exact e2);rw[ZAk]at e1;obtain⟨q,e3,e4⟩:=ZzR.mp e1;subst e4;have key:∀{l:List (Key × V)} {m:List (Key × Value)},KV l m->∀(i:Nat) a b,l[i]?=some a->m[i]?=some b->a.1=b.1:=by
    intro l m r
    induction r with
    | nil=>intro i a b e; simp at e
    | cons hq _ ih =>
     intro i a b e1 e2;cases i with
     | zero=>simp at e1 e2; subst e1; subst e2; exact hq.1
     | succ i=>exact ih i a b (by simpa using e1) (by simpa using e2)
   have ek:=key rel i q (kk,x) e3 q1;rw[ek];exact Zwl q2
 | @dt kvs h =>
  obtain⟨z,lo,xs,rel,o,es,ep,h1,h2,h3,h4,h5⟩:=(show Zac X.prog X.w H s.heap p (.dT kvs) from I.hok p _ h);have hl:kvs.length=xs.length:=ZCu rel;have hes:es.size=xs.length:=by rw[<-ZAm,h4,ZzP]
  have hm:Zfi s.heap p es ep:=⟨o,h1,h2,h3⟩;refine⟨xs.map λq=>V.ref q.2.1,?_,λA E R hh k=>ZhF (Zwt (es:=es) (ep:=ep) lo) hh hm (by omega) λh' tk acc kp hsz hacc=>k _ h' tk ?_ kp⟩
  ·clear h4 hes hl z h h5
   induction rel with
   | nil=>exact .nil
   | @cons p0 _ _ _ hq _ ih=>obtain⟨q1,q2,_⟩:=hq;rw[ZzZ,ZzZ];refine .cons ?_ ih;have rk:=Zhb (K:=X.K) (F:=Zci F H) p0.1;exact .tup (Zpw q2) rk.1 rk.2
  ·refine ZhZ (by have q:acc.toList.length=acc.size:=ZAm; rw[ZzP,q,hacc.1,hes]) λi v u e1 e2=>?_
   obtain⟨e,q1,q2⟩:=hacc.2 i u (by rw[<-ZAP]; exact e2);subst q2;rw[ZAk]at e1;obtain⟨q,e3,e4⟩:=ZzR.mp e1;subst e4;rw[<-ZAP,h4,ZAk,e3]at q1;cases q1;rfl
theorem ZcR{K:ZzS}{F:Hp}:∀{ds:List PyData} {vs:List V} {ns:List Int},HM.ZaP ds=some ns->Zt K F ds vs->vs=ns.map V.int
 | [],vs,ns,h,r=>by cases h;exact r.nil_inv
 | d::ds,vs,ns,h,r=>by
  obtain⟨v,us,rfl,r1,r2⟩:=r.cons_inv;cases d with
  | int b=>obtain⟨bs',h1,h2⟩:=ZzR.mp h;subst h2;rw[r1.int_inv,ZcR h1 r2];rfl
  | none=>cases h
  | bool _=>cases h
  | str _=>cases h
  | list _=>cases h
  | tuple _=>cases h
  | dict _=>cases h
theorem Zrd:∀(t:List Int),HM.ZaP (HM.ofInts t)=some t
 | []=>rfl
 | x::t=>by show(HM.ZaP (HM.ofInts t)).map (x::·)=_;rw[Zrd t];rfl
theorem Zp4:∀{ds:List PyData} {ns:List Int},HM.ZaP ds=some ns->ds=HM.ofInts ns
 | [],ns,h=>by cases h; rfl
 | d::ds,ns,h=>by
  cases d with
  | int b=>obtain⟨bs',h1,h2⟩:=ZzR.mp h;subst h2;rw[Zp4 h1];rfl
  | none=>cases h
  | bool _=>cases h
  | str _=>cases h
  | list _=>cases h
  | tuple _=>cases h
  | dict _=>cases h
theorem ZfC{K:ZzS}{F:Hp}:∀(ns:List Int),Zt K F (HM.ofInts ns) (ns.map V.int)
 | []=>.nil
 | n::ns=>.cons (.int n) (ZfC ns)
theorem Zeq:∀{ns:List Int} {us:List Value},Vals (ns.map V.int) us->IntsAre us ns
 | [],_,r=>by rw[ZB4]at r; cases r; exact .nil
 | n::ns,_,r=>by
  rw[ZzZ]at r;cases r with
  | cons h t=>obtain⟨u,rfl⟩:=h; exact .cons n u (Zeq t)
theorem ZiK:∀{us:List Value} {ns:List Int},IntsAre us ns->Vals (ns.map V.int) us
 | _,_,.nil=>.nil
 | _,_,.cons n t h=>.cons ⟨t,rfl⟩ (ZiK h)
theorem ZpZ:∀{ds:List PyData} {ts:List (List Int)},HM.Zkg ds=some ts->ds=HM.ZfA ts
 | [],ts,h=>by cases h; rfl
 | d::ds,ts,h=>by
  cases d with
  | tuple es =>
   unfold HM.Zkg at h;split at h
   ·rename_i ns hn
    obtain⟨r',h1,h2⟩:=ZzR.mp h;subst h2;rw[Zp4 hn,ZpZ h1];rfl
   ·cases h
  | none=>cases h
  | bool _=>cases h
  | int _=>cases h
  | str _=>cases h
  | list _=>cases h
  | dict _=>cases h
theorem ZoN{ns ms:List Int}(h:ms.Perm ns)(hs:ms.Pairwise (·<=·)):ms=HM.sortI ns:=by refine Zit (R:=(·<=·)) (λa b h1 h2=>by omega) (h.trans (ZCO ns _).symm) hs ?_;have:=ZC8 (le:=λa b:Int=>decide (a<=b)) (λa b c h1 h2=>by simp at *; omega) (λa b=>by simp; omega) ns;exact this.imp λh=>by simpa using h
theorem ZuM{ts us:List (List Int)}(h:us.Perm ts)(hs:us.Pairwise (λx y=>HM.lexLt y x=false)):us=HM.Zd8 ts:=by
 refine Zit (R:=λx y=>HM.lexLt y x=false) (λa b h1 h2=>ZjF a b h2 h1) (h.trans (ZCO ts _).symm) hs ?_;have:=ZC8 (le:=λa b:List Int=>!HM.lexLt b a) (λa b c h1 h2=>by
  simp only[Bool.not_eq_true']at *;cases q:HM.lexLt c a with
  | false=>rfl
  | true =>
   rcases Zmm c b a q with z | z
   ·rw[h2]at z; cases z
   ·rw[h1]at z; cases z) (λa b=>by
  cases q:HM.lexLt b a with
  | false=>simp
  | true =>
   cases q2:HM.lexLt a b with
   | false=>simp
   | true=>have:=lex_trans _ _ _ q q2; rw[lex_irrefl]at this; cases this) ts
 exact this.imp λh=>by simpa using h
theorem ZkF{vs:List Value}{out:Array Value}{b:Addr}{o:Obj}(hb:b≠a)(e:h.get? b=some o):(sortedHeap h a vs out).get? b=some o:=by rw[sortedHeap_old hb (Zz9 e)]; exact e
theorem Zpp(hc:X.calm=true):Zbh X (.builtin "sorted") (λxs H Q=>∃p F ds ds',xs=[.ref p]/\Zq F H/\Zjv X.K F H p ds/\HM.Zft ds=some ds'/\∀l ws,H l=none->Zt X.K (Zci F H) ds' ws->Q (.ref l) (upd H l (.lst ws))):=by
 intro pins s σ H xs us Q I r h;obtain⟨p,F,ds,ds',rfl,sub,hsrc,hsort,q⟩:=h;obtain⟨u,rfl,rx⟩:=vals1 r;cases rx;obtain⟨vs,rv,go⟩:=hsrc.gath I sub;unfold HM.Zft at hsort;split at hsort
 ·rename_i h64
  have hvl:=rv.1;refine ZD6 kind_sorted plain_sorted entry_sorted (args_sorted1 _) ?_;unfold Builtin.«sorted»;refine ZzQ (m:=checkCount "sorted" 1 1 _) (ZzV ?_);refine ZzQ (go _ _ _ (I.ok.hd hc) λus h' tk ru kp=>?_);have hul:=ru.length;refine ZzQ (wpAny_newList ?_ (by rw[ZBn]; omega));have hoL:(h'.push (seqObj "list" us.toArray 0)).get? h'.objs.size=some (seqObj "list" us.toArray 0):=ZAa _ rfl;have fin:∀(out:Array Value) (ws:List V),Vals ws out.toList->Zt X.K (Zci F H) ds' ws->ws.length<64->EP X pins σ Q (.ref h'.objs.size) { s with heap:=sortedHeap (h'.push (seqObj "list" us.toArray 0)) h'.objs.size us out,toks:=tk }:=λout ws rw' rd hw=>by obtain⟨e,he⟩:=sortedHeap_at (out:=out) hoL;have I1:Inv X pins σ H { s with heap:=h',toks:=tk }:=I.kept kp;refine⟨.ref h'.objs.size,_,I1.laid (a:=h'.objs.size) (o:=.lst ws) (t':=tk) (λb o e1=>?_) (Zz3 _) ⟨by rw[ZBn]; omega,out.toList,e,rw',by simpa using he⟩,rfl,q _ ws (I1.hok.fresh (Zz3 _)) rd⟩;exact ZkF (ZAf (Zz9 e1)) (ZzW _ e1)
  show wpAny _ _ _ _ _ { s with heap:=h'.push (seqObj "list" us.toArray 0),toks:=tk };split at hsort
  ·rename_i ns hns
   cases hsort;have evs:=ZcR hns rv;rw[evs]at ru;have hI:=Zeq ru;refine ZzQ (ZBb (ZA4 slot_list_sort ⟨_,hoL,rfl⟩ ZEo (list_sort_tree hoL hI (by omega) λout ns' a1 a2 a3=>⟨_,rfl,?_⟩) (args_list_sort _)));refine ZzV ⟨_,rfl,?_⟩;have e:=ZoN a2 a3;have hl:ns'.length<64:=by rw[a2.length_eq,<-hI.length,<-hul]; omega
   refine fin out (ns'.map V.int) (ZiK a1) ?_ (by rw[ZzP]; exact hl);rw[<-e];exact ZfC ns'
  ·split at hsort
   ·rename_i ts hts
    split at hsort
    ·rename_i hne
     cases hsort;have eds:=ZpZ hts;have hT:∀(i:Nat) t,ts[i]?=some t->∃b,us[i]?=some (.ref b)/\TI (h'.push (seqObj "list" us.toArray 0)) b t:=λi t e=>by
      have ed:ds[i]?=some (.tuple (HM.ofInts t)):=by rw[eds]; unfold HM.ZfA; rw[ZAk,e]; rfl
      obtain⟨v,hv,rp⟩:=rv.get ed;generalize hq:HM.ofInts t=q at rp;cases rp with
      | @tupk b x h1 =>
       exfalso;cases t with
       | nil=>cases hq
       | cons a t =>
        injection hq with e1 _
        cases e1
      | @tup b _ xs hb hl hr=>subst hq;obtain⟨u,hu,ru'⟩:=ru.get hv;cases ru';have ev:=ZcR (F:=Zci F H) (Zrd t) ⟨hl,hr⟩;subst ev;have hH:H b=some (.tup (t.map V.int)):=(Ext.refl sub).tups.sub _ _ hb;obtain⟨z,its,rt,o,h1,h2,n,h3⟩:=(show Zac X.prog X.w H s.heap b (.tup (t.map V.int)) from I.hok b _ hH);exact⟨b,hu,o,its.toArray,n,ZzW _ (kp b o h1),h2,h3,by simpa using Zeq rt⟩
     have hlt:ts.length=us.length:=by have:=congrArg ZAF eds;unfold HM.ZfA at this;rw[ZzP]at this;omega
     refine ZzQ (ZBb (ZA4 slot_list_sort ⟨_,hoL,rfl⟩ ZEo (ZuZ hoL hlt hT ?_ (by omega) λpm hp hs=>⟨_,rfl,?_⟩) (args_list_sort _)))
     ·rw[ZBd]at hne
      rcases hne with z | z
      ·left
       have:=of_decide_eq_true z;omega
      ·right
       intro t ht e;have:=ZzY.mp z t ht;rw[e]at this;cases this
     ·refine ZzV ⟨_,rfl,?_⟩
      have hpl:pm.length=us.length:=by rw[hp.length_eq,ZAN]
      have hmem:∀i∈pm,i<us.length:=λi hi=>ZAi.mp (hp.mem_iff.mp hi);have e:(pm.map λi=>ts.getD i [])=HM.Zd8 ts:=by
       refine ZuM ?_ hs;refine(hp.map _).trans ?_;have:(ZzX us.length).map (λi=>ts.getD i [])=ts:=by refine List.ext_getElem (by simp[hlt]) λi h1 h2=>?_;simp at h1;simp[ZBt,show i<ts.length by omega]
       rw[this]
      refine fin _ (pm.map λi=>vs.getD i V.non) ?_ ?_ (by rw[ZzP]; omega)
      ·refine ZhZ (by simp) λk v u e1 e2=>?_
       rw[ZAk]at e1;rw[List.toList_toArray,ZAk]at e2;obtain⟨i,hi,rfl⟩:=ZzR.mp e1;rw[hi]at e2;cases e2;have hlt':=hmem i (ZAo hi);have hv:vs[i]?=some (vs.getD i V.non):=by simp[ZBt,show i<vs.length by omega]
       obtain⟨u,hu,ru'⟩:=ru.get hv;have:us.getD i ZAQ=u:=by simp[ZBt,hu]
       show RelV _ (us.getD i ZAQ);rw[this];exact ru'
      ·rw[<-e]
       refine⟨by unfold HM.ZfA; simp,λk d v e1 e2=>?_⟩;unfold HM.ZfA at e1;rw[ZAk,ZAk]at e1;rw[ZAk]at e2;obtain⟨i,hi,rfl⟩:=ZzR.mp e2;rw[hi]at e1;have hlt':=hmem i (ZAo hi);have hd:ds[i]?=some d:=by
        rw[eds]; unfold HM.ZfA;rw[ZAk];have:ts[i]?=some (ts.getD i []):=by simp[ZBt,show i<ts.length by omega]
        rw[this];exact e1
       have hv:vs[i]?=some (vs.getD i V.non):=by simp[ZBt,show i<vs.length by omega]
       exact rv.2 i d _ hd hv
    ·cases hsort
   ·cases hsort
 ·cases hsort
end
end HP
namespace HP
open PySem PySem.Spec PySem.W PySem.Calls PyProof.Rows L2
variable{F:Hp}{p' pos':Pos}{K:ZzS}
variable[FX]
section
variable{prog:Program}{w:World}{A:Around}{E:Value->Shared->Prop}{s:Shared}
theorem ZnC{r:Addr}{a b c:Int}{t u v:Tok}{n:Nat}{R:List Value->Shared->Prop}(hh:A.handled=none)(hr:IsRange s.heap r a b c t u v)(hsmall:ZEM a b c=true)(hn:ZCq a b c=n)(hlen:n<=2 ^ 24)
  (h:∀(h':Heap) (tk:Nat) (acc:Array Value),(∀b o,s.heap.get? b=some o->h'.get? b=some o)->ItemsOf (λi v=>∃t,v=.int (a+i*c) t) acc n->R acc.toList { s with heap:=h',toks:=tk }) :
  wpAny (model prog w) A (collect (.ref r)) R E s:=by
 unfold collect;refine ZzQ (wpAny_runValue (ZBj entry_proto_collect' ?_));rw[ZA2 ZDL _];show wpAny _ A.in1 (newList [] >>= λl=>again (.builtin "list.__iadd__" ⟨[l,.ref r],[]⟩)) _ _ s;refine ZzQ (ZAO (ZzV ⟨ZCb ZCt _,ZBj entry_list_iadd' ?_⟩));rw[ZA2 ZCt _];have hS₁:(s.heap.push { cls:=.type "list",data:=.seq ([]:List Value).toArray }).get? s.heap.objs.size=some { cls:=.type "list",data:=.seq #[] }:=ZAa _ rfl;show wpAny _ A.in1 (ZDM (.ref s.heap.objs.size) (.ref r) (.ref s.heap.objs.size)) _ _ _;have hr1:IsRange (s.heap.push { cls:=.type "list",data:=.seq ([]:List Value).toArray }) r a b c t u v:=ZzW _ hr;refine ZBg (wpAny_extend_range (A:=A) (s:={ s with heap:=s.heap.push { cls:=.type "list",data:=.seq ([]:List Value).toArray } })
  (R:=λ(q:Result) (s':Shared)=>∃(h':Heap) (tk:Nat) (acc':Array Value) (c':Nat),q=.ok (.ret (.ref s.heap.objs.size))/\s'={ s with heap:=h',toks:=tk } /\
   (∀b o,s.heap.get? b=some o->h'.get? b=some o)/\h'.get? s.heap.objs.size=some { cls:=.type "list",dict:=none,data:=.seq acc' c',slots:=#[] }/\ItemsOf (λi v=>∃t,v=.int (a+i*c) t) acc' n)
  hh hr1 hsmall hn hlen s.heap.objs.size (.ref s.heap.objs.size) 0 hS₁
  (λh' tk acc' c' hk hS' hacc=>⟨h',tk,acc',c',rfl,rfl,λb o e=>hk b o (ZAf (Zz9 e)) (ZzW _ e),hS',hacc⟩)) (λfin s' x=>?_) λe s' x=>?_
 ·have go:∀(h':Heap) (tk:Nat) (acc':Array Value) (c':Nat),(∀b o,s.heap.get? b=some o->h'.get? b=some o)->h'.get? s.heap.objs.size=some { cls:=.type "list",dict:=none,data:=.seq acc' c',slots:=#[] }->ItemsOf (λi v=>∃t,v=.int (a+i*c) t) acc' n ->
    wpAny (model prog w) A (load s.heap.objs.size >>= λo=>match o.data with | .seq xs _=>pure xs.toList | _=>unsupported "internal:collect") R E { s with heap:=h',toks:=tk }:=λh' tk acc' c' hk hS' hacc =>
   ZzQ (wpAny_load hS' (ZzV (h h' tk acc' hk hacc)))
  cases fin with
  | done f=>obtain⟨h',tk,acc',c',e,rfl,hk,hS',hacc⟩:=x;cases e;exact go h' tk acc' c' hk hS' hacc
  | again c₁=>refine⟨x.1,ZB2 x.2 λq s₂ y=>?_⟩;obtain⟨h',tk,acc',c',rfl,rfl,hk,hS',hacc⟩:=y;exact go h' tk acc' c' hk hS' hacc
 ·obtain⟨_,_,_,_,e',_⟩:=x
  cases e'
end
theorem Zkq(r:Addr)(a b c:Int)(t u v:Tok)(n:Nat)(hsmall:ZEM a b c=true)(hn:ZCq a b c=n)(hlen:n<=2 ^ 24) :
  Meets (Builtin.«tuple.__new__» ⟨[.type "tuple",.ref r],[]⟩)
   (λA R s=>A.handled=none/\IsRange s.heap r a b c t u v/\∀(h':Heap) (tk:Nat) (acc:Array Value),(∀b o',s.heap.get? b=some o'->h'.get? b=some o')->ItemsOf (λi v=>∃t,v=.int (a+i*c) t) acc n ->
    R (.ok (.ret (.ref h'.objs.size))) { s with heap:=h'.push { cls:=.type "tuple",data:=.seq acc },toks:=tk }) :=
 .of_wp λprog w A R s h=>by
  obtain⟨hp,g,d,tk,os⟩:=s; obtain⟨hh,ht,h⟩:=h;have hsub:=PySem.sub_tuple_self;have hinit:=PySem.init_tuple_lookup;have hmh:=PySem.madeHere_tuple;have hT:Shared.TypeIs ⟨hp,g,d,tk,os⟩ (.ref r) "range":=⟨_,ht,rfl⟩;have hh1:A.in1.handled=none:=hh
  wp_walk using wpAny_typeOf hT,ZnC hh1 ht hsmall hn hlen
  intro h' tk' acc hk hacc;show wpAny _ _ (ZEc acc.toList.toArray >>= λv=>ret v) _ _ _;unfold ZEc;have e:acc.toList.toArray=acc:=by simp
  rw[e];refine ZzQ (ZAO ?_ (by show acc.size<=sizeLine; rw[hacc.1,ZBn]; omega));exact ZzV ⟨_,rfl,h h' tk' acc hk hacc⟩
section
variable{X:Cx}{a b c e:Expr}{fa fb fc:HM.EF}{pos p:Pos}{f:HM.BF}
theorem Zpt:Zbh X (.type "range") (λxs H Q=>∃j,xs=[.int j]/\∀l,H l=none->Q (.ref l) (upd H l (.rng 0 j))):=by intro pins s σ H xs us Q I r h;obtain⟨j,rfl,q⟩:=h;obtain⟨u,rfl,rx⟩:=vals1 r;obtain⟨t,rfl⟩:=rx;refine call_range_1 ⟨.ref s.heap.objs.size,_,I.laid (a:=s.heap.objs.size) (o:=.rng 0 j) (λb o e=>ZzW _ e) (Zz3 _) ?_,rfl,q _ (I.hok.fresh (Zz3 _))⟩;exact⟨_,_,_,ZAa _ rfl⟩
theorem ZqR(hc:X.calm=true):Zbh X (.type "tuple") (λxs H Q=>∃p lo hi,xs=[.ref p]/\H p=some (.rng lo hi)/\-1000000<lo/\lo<1000000/\-1000000<hi/\hi<1000000 /\
  ∀l,H l=none->Q (.ref l) (upd H l (.tup ((ZzX (hi-lo).toNat).map λ(k:Nat)=>V.int (lo+k))))):=by
 intro pins s σ H xs us Q I r h;obtain⟨p,lo,hi,rfl,hp,h1,h2,h3,h4,q⟩:=h;obtain⟨u,rfl,rx⟩:=vals1 r;cases rx;obtain⟨t,u,v,ho⟩:=(show Zac X.prog X.w H s.heap p (.rng lo hi) from I.hok p _ hp);have hn:ZCq lo hi 1=((hi-lo).toNat:Nat):=by rw[rangeSize_one]; split<;>omega
 refine callType_new PySem.F.called_tuple (by decide) (PySem.F.typeCall_tuple_1 _) (PySem.F.newCall_tuple_1 _) (λobj=>PySem.F.args_object_init_2 obj _) PySem.F.entry_tuple_new
  (Zkq p lo hi 1 t u v (hi-lo).toNat (small_one (by omega) (by omega) (by omega) (by omega)) hn (by omega)) ⟨I.ok.hd hc,ho,λh' tk' acc kp hacc=>⟨⟨_,ZAa _ rfl,rfl⟩,?_⟩⟩
 have I1:Inv X pins σ H { s with heap:=h',toks:=tk' }:=I.kept kp;have rv:Vals ((ZzX (hi-lo).toNat).map λ(k:Nat)=>V.int (lo+k)) acc.toList:=by
  refine ZhZ (by have z:acc.toList.length=acc.size:=ZAm; rw[ZzP,ZAN,z,hacc.1]) λi v u e1 e2=>?_;rw[ZAk]at e1;obtain⟨k,hk,rfl⟩:=ZzR.mp e1;obtain⟨t,rfl⟩:=hacc.2 i u (by rw[<-ZAP]; exact e2);have:k=i:=by have:=Zz5.mp hk;obtain⟨_,e⟩:=this;simpa using e.symm
  subst this;exact⟨t,by simp⟩
 have I2:=I1.laid (a:=h'.objs.size) (o:=.tup ((ZzX (hi-lo).toNat).map λ(k:Nat)=>V.int (lo+k))) (h':=h'.push { cls:=.type "tuple",data:=.seq acc }) (t':=tk') (λb o e=>ZzW _ e) (Zz3 _)
  ⟨by rw[ZzP,ZAN,ZBn]; omega,acc.toList,rv,by simpa using IsTup.new _ _⟩
 exact⟨.ref h'.objs.size,_,I2,rfl,q _ (I1.hok.fresh (Zz3 _))⟩
theorem ZqT(lo:Int)(n:Nat):Zt K F (HM.Zc5 lo n) ((ZzX n).map λ(k:Nat)=>V.int (lo+k)):=by unfold HM.Zc5;refine⟨by simp,λi d v e1 e2=>?_⟩;rw[ZAk]at e1 e2;obtain⟨k,hk,rfl⟩:=ZzR.mp e1;rw[hk]at e2;cases e2;exact .int _
theorem Zks(hmt:X.mg "tuple" = none)(hm:X.mg "range" = none)(hc:X.calm=true)(ha:XE X a fa)(hgt:Gl X "tuple":=by rfl)(hg:Gl X "range":=by rfl)(hs:Zz6 [a] X.env=[(false,eval a X.env)]:=by rfl)
  (hs2:Zz6 [ZER (.Name "range" p') [a] [] pos'] X.env=[(false,eval (ZER (.Name "range" p') [a] [] pos') X.env)]:=by rfl) :
  XE X (.Call (.Name "tuple" p) [.Call (.Name "range" p') [a] [] pos'] [] pos) (HM.Zir (HM.Za6 fa)):=by
 intro r d hd;unfold HM.Zir at hd;split at hd
 ·rename_i ds hds
  split at hd
  ·cases hd
   unfold HM.Za6 at hds;split at hds
   ·rename_i j hj
    split at hds
    ·rename_i hok
     cases hds;obtain⟨k1,k2⟩:=Zrc hok;refine PE.imp (ZdD (ZqR hc) hgt hmt ZkY (ZaB (ZdD Zpt hg hm boot_range (ZaB (ha r _ hj) Zb2 hs) (he:=hs)) Zb2 hs2) (he:=hs2)) λσ H Q ⟨F0,H0,F,at_,k⟩=>?_;refine⟨F0,H0,F,at_,λv F1 H1 x1 r1=>⟨j,by rw[r1.int_inv],λl hl=>?_⟩⟩;refine⟨l,0,j,rfl,ZF,by omega,by omega,by omega,by omega,λl2 hl2=>?_⟩;have x2:=x1.lay' (o:=.rng 0 j) hl;have x3:=x2.lay (o:=.tup ((ZzX (j-0).toNat).map λ(k:Nat)=>V.int (0+k))) hl2;have rp:=ZqT (K:=X.K) (F:=upd F1 l2 (.tup ((ZzX (j-0).toNat).map λ(k:Nat)=>V.int (0+k)))) 0 j.toNat;have ej:(j-0).toNat=j.toNat:=by omega
     refine k _ _ _ x3 (.tup ZF ?_ ?_)
     ·rw[ej]; exact rp.1
     ·rw[ej]at rp ⊢; exact rp.2
    ·cases hds
   ·cases hds
  ·cases hd
 ·cases hd
theorem Zs5{H:Hp}{q:HM.B}{v:V}{fp:List Addr}{ds:List PyData}(sub:Zq F H)(r:Zag K F H q v fp)(h:HM.Zvx q=some ds):∃a,v=.ref a/\Zjv K F H a ds:=by
 cases r with
 | pl r =>
  cases r with
  | tup h1 h2 h3=>cases h; exact⟨_,rfl,.tup (.of (sub _ _ h1)) ⟨h2,h3⟩⟩
  | @tupk a x h1=>cases h; exact⟨_,rfl,.tup (.inr h1) (.one (.str x))⟩
  | lst h1 h2 h3=>cases h; exact⟨_,rfl,.lst (sub.seq h1) ⟨h2,h3⟩⟩
  | dct _ _ _ _=>cases h
  | fn _=>cases h
  | non=>cases h
  | bl _=>cases h
  | int _=>cases h
  | str _=>cases h
 | ol h1 r=>cases h; exact⟨_,rfl,.lst (.of h1) r⟩
 | hd _ _ _ _=>cases h
 | hf _=>cases h
 | @ok a kvs vvs h1 h2 h3 =>
  cases h;refine⟨_,rfl,?_⟩;have e:(kvs.map λp=>HM.ZaU p.1)=vvs.map λp=>HM.ZaU p.1:=by
   have:=congrArg (ZDD HM.ZaU) h2
   rwa [ZAe,ZAe]at this
  rw[e];exact .dk h1
 | @ot a kvs vvs h1 h2 h3 =>
  cases h;refine⟨_,rfl,?_⟩;have e:(kvs.map λp=>ZAJ (p.1.map HM.ZaU))=vvs.map λp=>ZAJ (p.1.map HM.ZaU):=by
   have:=congrArg (ZDD λk:List Key=>ZAJ (k.map HM.ZaU)) h2
   rwa [ZAe,ZAe]at this
  rw[e];exact .dt h1
 | @otl a kvs vvs ls h1 h2 h3 h4 =>
  cases h;refine⟨_,rfl,?_⟩;have e:(kvs.map λp=>ZAJ (p.1.map HM.ZaU))=vvs.map λp=>ZAJ (p.1.map HM.ZaU):=by
   have:=congrArg (ZDD λk:List Key=>ZAJ (k.map HM.ZaU)) h2
   rwa [ZAe,ZAe]at this
  rw[e];exact .dt h1
theorem Zg1(hm:X.mg "sorted" = none)(hc:X.calm=true)(ha:XB X a f)(hg:Gl X "sorted":=by rfl)(hs:Zz6 [a] X.env=[(false,eval a X.env)]:=by rfl):XF X (.Call (.Name "sorted" p) [a] [] pos) (HM.Zgd f):=by
 intro r d h;unfold HM.Zgd at h;split at h
 ·rename_i x hx
  split at h
  ·rename_i ds hds
   obtain⟨ds',h1,h2⟩:=ZzR.mp h;subst h2;refine PE.imp (ZdJ (Zpp hc) hg hm ZmQ (ZfE ha hx hs) (he:=hs)) λσ H Q ⟨F0,H0,F,at_,k⟩=>?_;refine⟨F0,H0,F,at_,λv fp F1 H1 x1 r1=>?_⟩;obtain⟨l,e1,src⟩:=Zs5 x1.sub r1 hds;subst e1;exact⟨l,F1,ds,ds',rfl,x1.sub,src,h1,λl' ws hl' rs=>Zed (P:=λv _ H'=>Q v H') x1.tups rs hl' k⟩
  ·cases h
 ·cases h
theorem Ztd(hc:X.calm=true):Zbh X (.type "set") (λxs H Q=>∃p ns,xs=[.ref p]/\SqL X.K H p (ns.map V.int)/\(∀n∈ns,0<=n/\n<8)/\∀l,H l=none->Q (.ref l) (upd H l (.ext λh=>ZdV X.prog X.w h l (HM.dedup [] ns)))):=by intro pins s σ H xs us Q I r h;obtain⟨p,ns,rfl,hq,hb,q⟩:=h;obtain⟨u,rfl,rx⟩:=vals1 r;cases rx;obtain⟨its,rv,pl,hz⟩:=I.list hq;refine Ztf (I.ok.hd hc) pl.isList (by simpa using Zeq rv) hb λh' tk hS kp=>?_;have hS':=hS;obtain⟨o,es,ep,t,ho,_⟩:=hS';refine⟨.ref s.heap.objs.size,_,I.laid (a:=s.heap.objs.size) (o:=.ext λh=>ZdV X.prog X.w h s.heap.objs.size (HM.dedup [] ns)) (λb o e=>kp b o (Zz9 e) e) (Zz3 _) ?_,rfl,q _ (I.hok.fresh (Zz3 _))⟩;exact⟨hS,⟨o,ho⟩,λh1 h2 x kk=>x.at' kk⟩
theorem ZpN(hc:X.calm=true):Zbh X (.builtin "sorted") (λxs H Q=>∃p L,xs=[.ref p]/\H p=some (.ext λh=>ZdV X.prog X.w h p L)/\∀l,H l=none->Q (.ref l) (upd H l (.lst ((HM.sortI L).map V.int)))):=by
 intro pins s σ H xs us Q I r h;obtain⟨p,L,rfl,hp,q⟩:=h;obtain⟨u,rfl,rx⟩:=vals1 r;cases rx;obtain⟨hX,_,_⟩:=(show Zac X.prog X.w H s.heap p (.ext λh=>ZdV X.prog X.w h p L) from I.hok p _ hp);obtain⟨o,es,ep,t,ho,hex,hd,hen,hpm,hpl,ht⟩:=hX;have hsz:=size_of hpl;have hfew:=ht.few;have raw:ZeW X.w s.heap p es ep t:=⟨⟨o,ho,hex,hd⟩,by rw[hsz]; exact ht.fits,hsz,ht⟩;refine ZD6 kind_sorted plain_sorted entry_sorted (args_sorted1 _) ?_;unfold Builtin.«sorted»;refine ZzQ (m:=checkCount "sorted" 1 1 _) (ZzV ?_);refine ZzQ (ZhF (Zv3 (es:=es) (ep:=ep) (t:=t)) (I.ok.hd hc) raw (by rw[ZBn]; omega) λh' tk acc kp _ hacc=>?_);have hal:acc.toList.length=es.size:=by rw[ZAm]; exact hacc.1
 have hI:IntsAre acc.toList ((Zef X.w p es ep).toList.map ZeO):=by
  have key:∀(us:List Value) (xs:List (Int × Value)),us.length=xs.length->(∀(i:Nat) u,us[i]?=some u->∃e,xs[i]?=some e/\u=e.2)->(∀e∈xs,∃n t,e=((intKind X.prog X.w).hash n,ZBM n t))->IntsAre us (xs.map ZeO):=by
   intro us
   induction us with
   | nil=>intro xs hl _ _; cases xs with | nil=>exact .nil | cons _ _=>simp at hl
   | cons u us ih =>
    intro xs hl hk he;cases xs with
    | nil=>simp at hl
    | cons x xs=>obtain⟨e,e1,e2⟩:=hk 0 u rfl;simp at e1;subst e1;obtain⟨n,t,e3⟩:=he x (ZzT ..);rw[e2,e3];exact .cons n t (ih xs (by simpa using hl) (λi u e=>hk (i+1) u (by simpa using e)) λe h=>he e (ZzU _ h))
  refine key acc.toList (Zef X.w p es ep).toList (by rw[hal,ZAm,ZjT]) (λi u e=>?_) λe h=>hen e ((Zjp X.w p es ep).mem_iff.mp h);obtain⟨e',e1,e2⟩:=hacc.2 i u (by rw[<-ZAP]; exact e);exact⟨e',by rw[ZAP]; exact e1,e2⟩
 refine ZzQ (wpAny_newList ?_ (by rw[hal,ZBn]; omega));have hoL:(h'.push (seqObj "list" acc.toList.toArray 0)).get? h'.objs.size=some (seqObj "list" acc.toList.toArray 0):=ZAa _ rfl;show wpAny _ _ _ _ _ { s with heap:=h'.push (seqObj "list" acc.toList.toArray 0),toks:=tk };refine ZzQ (ZBb (ZA4 slot_list_sort ⟨_,hoL,rfl⟩ ZEo (list_sort_tree hoL hI (by omega) λout ns' a1 a2 a3=>⟨_,rfl,?_⟩) (args_list_sort _)));refine ZzV ⟨_,rfl,?_⟩;have e:ns'=HM.sortI L:=ZoN (a2.trans (((Zjp X.w p es ep).map ZeO).trans hpm)) a3;have hl:ns'.length<64:=by rw[a2.length_eq,<-hI.length,hal]; omega
 obtain⟨ee,he⟩:=sortedHeap_at (out:=out) hoL;have I1:Inv X pins σ H { s with heap:=h',toks:=tk }:=I.kept kp;refine⟨.ref h'.objs.size,_,I1.laid (a:=h'.objs.size) (o:=.lst (ns'.map V.int)) (t':=tk) (λb o e1=>?_) (Zz3 _) ⟨by rw[ZzP,ZBn]; omega,out.toList,ee,ZiK a1,by simpa using he⟩,rfl,?_⟩
 ·exact ZkF (ZAf (Zz9 e1)) (ZzW _ e1)
 ·rw[e]; exact q _ (I1.hok.fresh (Zz3 _))
theorem Zi2(hm:X.mg "sorted" = none)(hm2:X.mg "set" = none)(hc:X.calm=true)(ha:XB X a f)(hg:Gl X "sorted":=by rfl)(hg2:Gl X "set":=by rfl)(hs:Zz6 [a] X.env=[(false,eval a X.env)]:=by rfl)
  (hs2:Zz6 [ZER (.Name "set" p') [a] [] pos'] X.env=[(false,eval (ZER (.Name "set" p') [a] [] pos') X.env)]:=by rfl) :
  XF X (.Call (.Name "sorted" p) [.Call (.Name "set" p') [a] [] pos'] [] pos) (HM.Zf6 f):=by
 intro r d h;unfold HM.Zf6 at h;split at h
 ·rename_i x hx
  split at h
  ·rename_i ds hds
   split at h
   ·rename_i ns hns
    split at h
    ·rename_i hlow
     cases h;refine PE.imp (ZdJ (ZpN hc) hg hm ZmQ (ZaB (ZdD (Ztd hc) hg2 hm2 Zw8 (ZfE ha hx hs) (he:=hs)) Zb2 hs2) (he:=hs2)) λσ H Q ⟨F0,H0,F,at_,k⟩=>?_;refine⟨F0,H0,F,at_,λv fp F1 H1 x1 r1=>?_⟩;obtain⟨l,vs,e1,hq,rs⟩:=Zek x1.sub r1 hds;subst e1;rw[ZcR hns rs]at hq;refine⟨l,ns,rfl,hq,λn hn=>?_,λl2 hl2=>⟨l2,_,rfl,ZF,λl3 hl3=>?_⟩⟩
     ·have:=ZzY.mp hlow n hn
      rw[ZAc,decide_eq_true_eq,decide_eq_true_eq]at this;exact this
     ·have x2:=x1.lay' (o:=.ext λh=>ZdV X.prog X.w h l2 (HM.dedup [] ns)) hl2
      exact Zed (P:=λv _ H'=>Q v H') x2 (ZfC _) hl3 k
    ·cases h
   ·cases h
  ·cases h
 ·cases h
end
end HP
namespace HP
open PySem PySem.Spec PyProof.Rows L2
variable{neg:Bool}{q:HM.B}{r:HM.Env}{i:Int}{ns:List Int}{ds:List PyData}
variable[FX]
section
variable{X:Cx}{a b:Expr}{fa:HM.EF}{f:HM.BF}{pos:Pos}
theorem Zk0(i:Int):∀ns:List Int,inV (.int i) (ns.map V.int)=ns.contains i
 | []=>rfl
 | n::ns=>by have ih:=Zk0 i ns;unfold inV at ih ⊢;rw[ZzZ,ZBJ,ih,List.contains_cons];show(n==i||_)=(i==n||_);rw[show(n==i)=(i==n) from ZDw.mpr ⟨λh=>beq_iff_eq.mpr (beq_iff_eq.mp h).symm,λh=>beq_iff_eq.mpr (beq_iff_eq.mp h).symm⟩]
theorem ZjL:∀ns:List Int,(ns.map V.int).all Zbg=true
 | []=>rfl
 | n::ns=>by rw[ZzZ,ZAV,ZjL ns]; rfl
theorem ZuV{d:PyData}(h:HM.Zpy fa f r=some d):∃i q ds ns,fa r=some (.int i)/\f r=some q/\HM.ZcP q=some ds/\HM.ZaP ds=some ns/\d=.bool (ns.contains i):=by
 unfold HM.Zpy at h;split at h
 ·split at h
  ·split at h
   ·obtain⟨c,h1,h2⟩:=ZzR.mp h
    obtain⟨ns,h3,h4⟩:=ZzR.mp h1;exact⟨_,_,_,ns,by assumption,by assumption,by assumption,h3,by rw[<-h2,<-h4]⟩
   ·cases h
  ·cases h
 ·cases h
theorem ZqG{d:PyData}(h:HM.Zh0 fa f r=some d):∃i q ds ns,fa r=some (.int i)/\f r=some q/\HM.ZcP q=some ds/\HM.ZaP ds=some ns/\d=.bool (!ns.contains i):=by
 unfold HM.Zh0 at h;split at h
 ·split at h
  ·split at h
   ·obtain⟨c,h1,h2⟩:=ZzR.mp h
    obtain⟨ns,h3,h4⟩:=ZzR.mp h1;exact⟨_,_,_,ns,by assumption,by assumption,by assumption,h3,by rw[<-h2,<-h4]⟩
   ·cases h
  ·cases h
 ·cases h
theorem ZuP(ha:XE X a fa)(hb:XB X b f)(h1:fa r=some (.int i))(h2:f r=some q)(h3:HM.ZcP q=some ds)(h4:HM.ZaP ds=some ns){op:CmpOp}(ho:OpR X (ZA7 op) (rIn X.K neg))(hm:ZBa op b=false) :
  PE X (.Compare a [op] [b] pos) (tAt X.K r λ_ F' _ v=>v=.bl (if neg then !ns.contains i else ns.contains i)):=by
 refine PE.imp (Zrr ho (ha r _ h1) (hb r q h2) hm) λσ H Q ⟨F0,H0,F,at_,k⟩=>?_;refine⟨F0,H0,F,at_,λv F1 H1 x1 r1=>⟨F0,H0,F1,at_.grow x1,λw F2 H2 x2 ⟨fp,r2⟩=>?_⟩⟩;obtain⟨p,vs,e1,hq,rs⟩:=ZgM x2.sub r2 h3;cases r1;rw[ZcR h4 rs]at hq;refine⟨p,_,e1,hq,rfl,ZjL ns,k _ F2 H2 (x1.trans x2) ?_⟩;rw[Zk0]
theorem Zu9(ha:XE X a fa)(hb:XB X b f)(h1:fa r=some (.int i))(h2:f r=some q)(h3:HM.ZcP q=some ds)(h4:HM.ZaP ds=some ns){op:CmpOp}(ho:OpR X (ZA7 op) (rIn X.K neg))(hm:ZBa op b=false) :
  PT X (.Compare a [op] [b] pos) λσ H Q=>Now X.K r σ H λF0 H0 F=>∀F' H',Ext F H F' H'->Q (if neg then !ns.contains i else ns.contains i) H':=by
 refine PT.imp (Zmf ho (ha r _ h1) (hb r q h2) hm) λσ H Q ⟨F0,H0,F,at_,k⟩=>?_;refine⟨F0,H0,F,at_,λv F1 H1 x1 r1=>⟨F0,H0,F1,at_.grow x1,λw F2 H2 x2 ⟨fp,r2⟩=>?_⟩⟩;obtain⟨p,vs,e1,hq,rs⟩:=ZgM x2.sub r2 h3;cases r1;rw[ZcR h4 rs]at hq;refine⟨p,_,e1,hq,rfl,ZjL ns,_,rfl,?_⟩;rw[Zk0];exact k F2 H2 (x1.trans x2)
theorem ZwS(ha:XE X a fa)(hb:XB X b f)(hm:ZBa .In b=false:=by rfl):XE X (.Compare a [.In] [b] pos) (HM.Zpy fa f):=by intro r d h;obtain⟨i,q,ds,ns,h1,h2,h3,h4,rfl⟩:=ZuV h;refine PE.imp (ZuP ha hb h1 h2 h3 h4 Ztj hm) λσ H Q ⟨F0,H0,F,at_,k⟩=>⟨F0,H0,F,at_,λv F' H' x e=>k v F' H' x ?_⟩;subst e;exact .bl _
theorem ZsA(ha:XE X a fa)(hb:XB X b f)(hm:ZBa .NotIn b=false:=by rfl):XT X (.Compare a [.NotIn] [b] pos) (HM.tV (HM.Zh0 fa f)):=by intro r d h;obtain⟨i,q,ds,ns,h1,h2,h3,h4,e⟩:=ZqG (ZgK h);cases e;exact Zu9 ha hb h1 h2 h3 h4 ZpD hm
end
end HP
namespace HP
open PySem PySem.Spec PyProof.Rows L2
variable{kt:Nat}{px py:Pos}{x y:Str}
variable[FX]
section
variable{X:Cx}{c e:Expr}{fa:HM.EF}{t:HM.TF}{g:HM.SF}{pos:Pos}{body:List Stmt}
theorem Zh4(n:Nat)(hxe:X.xe=λ_ _=>False)(hc:XT X c t)(hb:XSs X body g):XS X (.While c body [] pos) (HM.ZhT n t g):=by
 intro r o ho;have ho:HM.ZaV t g n r=some o:=ho;have pb:PSs X body (λE σ H=>∃r o,g r=some o/\tSt X.K r o E σ H):=λpins s σ H E I ⟨r,o,h1,h2⟩=>hb r o h1 pins s σ H E I h2;have pc:PT X c (λσ H Q=>∃r b,t r=some b/\Now X.K r σ H λF0 H0 F=>∀F' H',Ext F H F' H'->Q b H'):=λpins s σ H Q I ⟨r,b,h1,h2⟩=>hc r b h1 pins s σ H Q I h2;refine PS.imp (Zur (Zj0 hxe) pc pb) λE σ H ⟨F0,H0,F,at_,k⟩=>?_;refine⟨λm σ H=>∃F r,At X.K F0 H0 F H r σ/\HM.ZaV t g m r=some o,⟨n,F,r,at_,ho⟩,?_⟩
 rintro m σ H ⟨F2,r2,at2,go⟩
 cases m with
 | zero=>cases go
 | succ m =>
  unfold HM.ZaV at go;split at go
  ·rename_i ht
   refine⟨r2,true,ht,F0,H0,F2,at2,λF' H' x=>?_⟩;dsimp only;rw[if_pos rfl];have at3:=at2.grow x;have a4:=at3.rebase;refine⟨λσ' H'=>∃F r,At X.K F0 H0 F H' r σ'/\HM.ZaV t g m r=some o,λσ' H' q=>⟨m,ZCl m,q⟩,?_⟩;split at go
   ·rename_i r' hr
    exact⟨_,_,hr,F',H0,F',a4,λσ' F' H' a'=>⟨F',r',a'.unbase at3.ext at3.nt0,go⟩⟩
   ·rename_i r' hr
    exact⟨_,_,hr,F',H0,F',a4,λσ' F' H' a'=>⟨F',r',a'.unbase at3.ext at3.nt0,go⟩⟩
   ·rename_i r' hr
    cases go;exact⟨_,_,hr,F',H0,F',a4,λσ' F' H' a'=>k σ' F' H' (a'.unbase at3.ext at3.nt0)⟩
   ·rename_i d hr
    cases go;exact⟨_,_,hr,F',H0,F',a4,λv F' H' x q=>k v F' H' (at3.ext.unbase x) q⟩
   ·cases go
  ·rename_i ht
   cases go;refine⟨r2,false,ht,F0,H0,F2,at2,λF' H' x=>?_⟩;dsimp only;rw[if_neg (by simp)];exact k σ F' H' (at2.grow x)
  ·cases go
theorem Zv1{i j:Nat}{pt:Pos}(hc:X.calm=true)(hN:X.N.Nodup)(hi:X.N[i]?=some x)(hj:X.N[j]?=some y)(hx:Loc X.env.scope x)(hy:Loc X.env.scope y)(hf:X.fn x=true\/X.env.scope.names.lookup x=some .local)(hg:X.fn y=true\/X.env.scope.names.lookup y=some .local)
  (h1:(ZB0 [.Name x px,.Name y py] X.env).length=2:=by rfl) (h2:(ZB0 [.Name x px,.Name y py] X.env).findIdx? (·.1)=none:=by rfl) :
  PG X (.Tuple [.Name x px,.Name y py] kt pt) (Zyh X.K 2 (Zsi (ZnT i) (Zsi (ZnT j) Zx1))) :=
 ZsR hc (ZiJ (Zge hN hi hx hf) (ZiJ (Zge hN hj hy hg) Zrb)) h1 h2
theorem ZqY(i j:Nat){pt:Pos}{iter:Expr}{fi:HM.IF}(hN:X.N.Nodup)(hxe:X.xe=λ_ _=>False)(hc:X.calm=true)(hi:XI X (.Tuple [.Name x px,.Name y py] kt pt) iter fi)(hb:XSs X body g)(hix:X.N[i]?=some x:=by rfl)(hjy:X.N[j]?=some y:=by rfl)
  (hx:Loc X.env.scope x:=by first | exact ZAB rfl | exact ZAj rfl) (hy:Loc X.env.scope y:=by first | exact ZAB rfl | exact ZAj rfl) (hf:X.fn x=true\/X.env.scope.names.lookup x=some .local:=by first | exact .inl rfl | exact .inr rfl) (hf2:X.fn y=true\/X.env.scope.names.lookup y=some .local:=by first | exact .inl rfl | exact .inr rfl)
  (h1:(ZB0 [.Name x px,.Name y py] X.env).length=2:=by rfl) (h2:(ZB0 [.Name x px,.Name y py] X.env).findIdx? (·.1)=none:=by rfl)
  (hs:∀x,ZBh iter X.env x=pure x:=by intro _; rfl):XS X (.For (.Tuple [.Name x px,.Name y py] kt pt) iter body [] pos) (HM.ZiO i j fi g):=by
 intro r o ho;unfold HM.ZiO at ho;split at ho
 ·rename_i ds hds
  split at ho
  ·rename_i hbig
   have pb:PSs X body (λE σ H=>∃r o,g r=some o/\tSt X.K r o E σ H):=λpins s σ H E I ⟨r,o,h1,h2⟩=>hb r o h1 pins s σ H E I h2;refine PS.imp (ZtJ (Zj0 hxe) hc (hi r ds hds) (Zv1 hc hN hix hjy hx hy hf hf2 h1 h2) pb hs) λE σ H ⟨F0,H0,F,at_,k⟩=>?_;refine⟨F0,H0,F,at_,λJ F1 H1 x1 it=>?_⟩;refine⟨λn m σ H=>∃F r,At X.K F0 H0 F H r σ/\Zq F1 F/\n+m=ds.length/\HM.Zd0 i j g (ds.drop n) r=some o,⟨ds.length,F1,r,at_.grow x1,Zq.refl _,by omega,ho⟩,?_⟩
   rintro n m σ H ⟨F2,r2,at2,s2,hn,go⟩
   obtain⟨it1,it2⟩:=it F2 H s2 at2.sub;cases m with
   | zero =>
    have e:n=ds.length:=by omega
    subst e;rw[ZEa]at go;cases go;exact .inl ⟨it2,k σ F2 H at2⟩
   | succ m =>
    have hlt:n<ds.length:=by omega
    rw[ZCR hlt]at go;obtain⟨j1,j2⟩:=it1 n ds[n] (Zz2 hlt);refine .inr ⟨j1,λσ' H'=>∃F r,At X.K F0 H0 F H' r σ'/\Zq F1 F/\HM.Zd0 i j g (ds.drop (n+1)) r=some o,λσ' H' ⟨F,r,a1,a2,a3⟩=>⟨m,by omega,F,r,a1,a2,by omega,a3⟩,λy H' hy=>?_⟩;obtain⟨e1,ry⟩:=j2 y H' hy;subst e1;obtain⟨F3,at3,s3,ry⟩:∃F3,At X.K F0 H0 F3 H' r2 σ/\Zq F1 F3/\Rep X.K F3 ds[n] y:=⟨_,at2.grow at2.refl.tups,s2.trans (ZcQ at2.sub),ry⟩;have hsh:∃d1 d2,ds[n]=.tuple [d1,d2]:=by
     unfold HM.Zd0 at go;split at go
     ·cases ‹_=[]›
     ·rename_i d1 d2 q hq
      injection hq with hq _
      exact⟨d1,d2,hq⟩
     ·cases go
    obtain⟨d1,d2,hsh⟩:=hsh;rw[hsh]at ry go;obtain⟨pa,v1,v2,e7,hpa,rx1,rx2⟩:=Zpa ry;subst e7;have a3:=(at3.set (i:=i) rx1).set (i:=j) rx2;have a4:=a3.rebase;refine⟨pa,[v1,v2],rfl,.of (at3.sub _ _ hpa),rfl,v1,[v2],rfl,v2,[],rfl,rfl,?_⟩;dsimp only[HM.Zd0]at go;split at go
    ·rename_i r' hr
     exact⟨_,_,hr,F3,H0,F3,a4,λσ' F' H' a'=>⟨F',r',a'.unbase at3.ext at3.nt0,s3.trans a'.ext.ff,go⟩⟩
    ·rename_i r' hr
     exact⟨_,_,hr,F3,H0,F3,a4,λσ' F' H' a'=>⟨F',r',a'.unbase at3.ext at3.nt0,s3.trans a'.ext.ff,go⟩⟩
    ·rename_i r' hr
     cases go;exact⟨_,_,hr,F3,H0,F3,a4,λσ' F' H' a'=>k σ' F' H' (a'.unbase at3.ext at3.nt0)⟩
    ·rename_i d hr
     cases go;exact⟨_,_,hr,F3,H0,F3,a4,λv F' H' x q=>k v F' H' (at3.ext.unbase x) q⟩
    ·cases go
  ·cases ho
 ·cases ho
end
end HP
namespace HP
open PySem PySem.Spec PyProof.Rows L2
variable{r:HM.Env}{ds:List PyData}{x:PyData}{u:Value}
variable[FX]
section
variable{X:Cx}{a b:Expr}{fa:HM.EF}{f:HM.BF}{pos:Pos}
theorem ZtG{e:Value->Bool}{f:PyData->Bool}:∀{ds:List PyData} {us:List Value},ds.length=us.length->(∀(i:Nat) d u,ds[i]?=some d->us[i]?=some u->e u=f d)->us.any e=ds.any f
 | [],[],_,_=>rfl
 | [],_::_,hl,_=>by simp at hl
 | _::_,[],hl,_=>by simp at hl
 | d::ds,u::us,hl,k=>by rw[ZBJ,ZBJ,k 0 d u rfl rfl,ZtG (ds:=ds) (us:=us) (by simpa using hl) λi d u e1 e2=>k (i+1) d u (by simpa using e1) (by simpa using e2)]
def Zw7(K:ZzS)(neg:Bool):R2:=λvx vy H Q=>∃F p xs x ds,Zq F H/\vy=.ref p/\(SqL K H p xs\/SqT K H p xs)/\Rep K F x vx/\Zt K F ds xs/\HM.Zao x=true/\ds.all HM.Zao=true /\
 Q (.bl (if neg then !ds.any λd=>ZA1 d x else ds.any λd=>ZA1 d x)) H
open Classical in
noncomputable def ZhK (h:Heap) (x:PyData) (u:Value):Bool:=decide (∃d as,Reads h u d as/\d.canLay0=true/\ZA1 d x=true)
theorem ZtR{h:Heap}{d:PyData}{as:List Addr}(r:Reads h u d as)(hl:d.canLay0=true):ZhK h x u=ZA1 d x:=by
 classical
 unfold ZhK;cases q:ZA1 d x with
 | true=>exact decide_eq_true ⟨d,as,r,hl,q⟩
 | false=>refine decide_eq_false λ⟨d',as',r',hl',q'⟩=>?_;rw[SeqAt.Reads.unique d d' u as as' hl r r']at q;rw[q]at q';cases q'
theorem Zp9{k:Nat}(hr:Zav k X.A){pins:List (Addr × Obj)}{s:Shared}{σ:L2.St}{H F:Hp}{vx:V}{xs:List V}{its:List Value}(I:Inv X pins σ H s)(sub:Zq F H)(rx:Rep X.K F x vx)(ru:RelV vx u)(rs:Zt X.K F ds xs)(rv:Vals xs its)(px:HM.Zao x=true)(pd:ds.all HM.Zao=true) :
  (∀y∈its,SeqAt.EqAt X.A.in1 s y u (ZhK s.heap x y))/\its.any (ZhK s.heap x)=ds.any λd=>ZA1 d x:=by
 obtain⟨x1,x2⟩:=ZdP px;obtain⟨as,hx⟩:=rx.reads I sub x1 u ru;have hun:=hr.un;have each:∀(i:Nat) d y,ds[i]?=some d->its[i]?=some y->(∃bs,Reads s.heap y d bs)/\d.canLay0=true/\d.depth<=60:=λi d y e1 e2=>by
  have hi:i<xs.length:=by rw[<-rs.1]; exact(Zz5.mp e1).1
  obtain⟨y',q1,q2⟩:=rv.get (Zz2 hi);rw[e2]at q1;cases q1;have hp:=ZdP (ZzY.mp pd d (ZAo e1));exact⟨(rs.2 i d _ e1 (Zz2 hi)).reads I sub hp.1 y q2,hp⟩
 have hl:ds.length=its.length:=rs.1.trans rv.length;refine⟨λy hy=>?_,ZtG hl λi d y e1 e2=>?_⟩
 ·obtain⟨i,hi,e⟩:=ZCo hy
  have hi':i<ds.length:=by omega
  obtain⟨⟨bs,q⟩,h1,h2⟩:=each i ds[i] y (Zz2 hi') (by rw[Zz2 hi,e]);rw[ZtR q h1];refine SeqAt.eqAt_reads _ _ _ _ _ _ _ _ q hx h1 x1 ?_;have:min (ds[i]).depth x.depth<=60:=ZAR (ZEl _ _) h2;show X.A.units+1+_<_;omega
 ·obtain⟨⟨bs,q⟩,h1,_⟩:=each i d y e1 e2
  exact ZtR q h1
theorem ZsL{k:Nat}(hr:Zav k X.A):OpR X (ZA7 .NotIn) (Zw7 X.K true):=by
 intro pins s σ H vx vy v u Q I r1 r2 ⟨F,p,xs,x,ds,sub,e,hq,rx,rs,px,pd,q⟩;subst e;cases r2;rcases hq with hq | hq
 ·obtain⟨its,r,pl,hz⟩:=I.list hq
  obtain⟨h1,h2⟩:=Zp9 hr I sub rx r1 rs r px pd;refine SeqAt.notIn_listAt (ZhK s.heap x) pl.isList (λw hw=>h1 w (by simpa using hw)) ⟨.bl _,H,I,rfl,?_⟩;rw[show its.toArray.any (ZhK s.heap x)=its.any (ZhK s.heap x) by simp,h2];exact q
 ·obtain⟨its,r,pl,hz⟩:=I.tuple hq
  obtain⟨h1,h2⟩:=Zp9 hr I sub rx r1 rs r px pd;refine SeqAt.notIn_tupleAt (ZhK s.heap x) pl (λw hw=>h1 w (by simpa using hw)) ⟨.bl _,H,I,rfl,?_⟩;rw[show its.toArray.any (ZhK s.heap x)=its.any (ZhK s.heap x) by simp,h2];exact q
theorem ZuG{c:Bool}(h:HM.ZpW ds x=some c):HM.Zao x=true/\ds.all HM.Zao=true/\c=ds.any λd=>ZA1 d x:=by
 unfold HM.ZpW at h;split at h
 ·rename_i hp
  rw[ZAc]at hp;cases h;exact⟨hp.1,hp.2,rfl⟩
 ·cases h
theorem ZqK{d:PyData}(h:HM.ZhV fa f r=some d):∃x q ds,fa r=some x/\f r=some q/\HM.ZcP q=some ds/\HM.Zao x=true/\ds.all HM.Zao=true/\d=.bool (!ds.any λd=>ZA1 d x):=by
 unfold HM.ZhV at h;split at h
 ·split at h
  ·split at h
   ·obtain⟨c,h1,h2⟩:=ZzR.mp h
    obtain⟨h3,h4,h5⟩:=ZuG h1;exact⟨_,_,_,by assumption,by assumption,by assumption,h3,h4,by rw[<-h2,<-h5]⟩
   ·cases h
  ·cases h
 ·cases h
theorem ZuX{neg:Bool}{q:HM.B}(ha:XE X a fa)(hb:XB X b f)(h1:fa r=some x)(h2:f r=some q)(h3:HM.ZcP q=some ds)(p1:HM.Zao x=true)(p2:ds.all HM.Zao=true){op:CmpOp}(ho:OpR X (ZA7 op) (Zw7 X.K neg))(hm:ZBa op b=false) :
  PT X (.Compare a [op] [b] pos) λσ H Q=>Now X.K r σ H λF0 H0 F=>∀F' H',Ext F H F' H'->Q (if neg then !ds.any λd=>ZA1 d x else ds.any λd=>ZA1 d x) H':=by
 refine PT.imp (Zmf ho (ha r _ h1) (hb r q h2) hm) λσ H Q ⟨F0,H0,F,at_,k⟩=>?_;refine⟨F0,H0,F,at_,λv F1 H1 x1 r1=>⟨F0,H0,F1,at_.grow x1,λw F2 H2 x2 ⟨fp,r2⟩=>?_⟩⟩;obtain⟨p,vs,e1,hq,rs⟩:=ZgM x2.sub r2 h3;exact⟨F2,p,vs,x,ds,x2.sub,e1,hq,r1.mono x2.ff,rs,p1,p2,_,rfl,k F2 H2 (x1.trans x2)⟩
theorem ZsB{k:Nat}(hr:Zav k X.A)(ha:XE X a fa)(hb:XB X b f)(hm:ZBa .NotIn b=false:=by rfl):XT X (.Compare a [.NotIn] [b] pos) (HM.tV (HM.ZhV fa f)):=by intro r d h;obtain⟨x,q,ds,h1,h2,h3,h4,h5,e⟩:=ZqK (ZgK h);cases e;exact ZuX ha hb h1 h2 h3 h4 h5 (ZsL hr) hm
end
end HP
namespace HP
open PySem PySem.Spec PyProof.Rows L2
variable{q:HM.B}{r:HM.Env}{F H:Hp}{fp:List Addr}{K:ZzS}
variable[FX]
section
variable{X:Cx}{a b c e:Expr}{fa fb fc:HM.EF}{f:HM.BF}{pos p:Pos}{es:List Expr}
theorem rdT{F':Hp}{a:Addr}{vvs:List (List Key × V)}(r:Rd F a (.dT vvs))(s:ZaM F F'):Rd F' a (.dT vvs):=r.imp (λh=>s _ _ h) λ⟨o,h⟩=>⟨o,s _ _ h⟩
theorem ZnW{a b:Addr}{kvs:List (List Key × V)}{k:List Key}(e:Rd H a (.dT kvs))(eb:H b=some (.tup (k.map kV))):Zch H a (.ref b) (ZaZ kvs k):=.inr ⟨kvs,k,b,e,rfl,eb,rfl⟩
theorem ZiP{v:V}{kvs:List (List Key × PyData)}(sub:Zq F H)(r:Zag K F H q v fp)(h:HM.ZkZ q=some kvs):∃l vvs,v=.ref l/\Rd H l (.dT vvs)/\ZaS K F kvs vvs:=by
 cases r with
 | pl r =>
  cases r with
  | @dct l es kvs' vvs h1 h2 h3 h4=>subst h2;have h:HM.ZfX (HM.Zn kvs')=some kvs:=h;rw[HM.dec_enc]at h;cases h;refine⟨l,vvs,rfl,Zke h1 sub,h3,?_,h4⟩;have:=congrArg ZAF h3;rw[ZzP,ZzP]at this;rw[ZzP,ZzP,this]
  | fn _=>cases h
  | tupk _=>cases h
  | tup _ _ _=>cases h
  | lst _ _ _=>cases h
  | non=>cases h
  | bl _=>cases h
  | int _=>cases h
  | str _=>cases h
 | ol _ _=>cases h
 | ok _ _ _=>cases h
 | @ot l kvs vvs h1 h2 h3=>cases h; exact⟨l,vvs,rfl,.inl h1,h2,h3⟩
 | @hd l o es kvs' vvs h1 h2 h3 h4=>subst h2;have h:HM.ZfX (HM.Zn kvs')=some kvs:=h;rw[HM.dec_enc]at h;cases h;exact⟨l,vvs,rfl,.inr ⟨o,sub _ _ h1⟩,h3,h4⟩
 | hf _=>cases h
 | otl _ _ _ _=>cases h
theorem ZuU{d:PyData}(h:HM.Zo2 fa f r=some d):∃x q kvs y,fa r=some x/\f r=some q/\HM.ZkZ q=some kvs/\HM.Za1 x=some y/\d=.bool (HM.Zg kvs y).isSome:=by
 unfold HM.Zo2 at h;split at h
 ·split at h
  ·split at h
   ·obtain⟨y,h1,h2⟩:=ZzR.mp h
    exact⟨_,_,_,y,by assumption,by assumption,by assumption,h1,h2.symm⟩
   ·cases h
  ·cases h
 ·cases h
theorem ZqP{d:PyData}(h:HM.ZbW fa f r=some d):∃x q kvs y,fa r=some x/\f r=some q/\HM.ZkZ q=some kvs/\HM.Za1 x=some y/\d=.bool (!(HM.Zg kvs y).isSome):=by
 unfold HM.ZbW at h;split at h
 ·split at h
  ·split at h
   ·obtain⟨y,h1,h2⟩:=ZzR.mp h
    exact⟨_,_,_,y,by assumption,by assumption,by assumption,h1,h2.symm⟩
   ·cases h
  ·cases h
 ·cases h
theorem ZwT(hu:X.A.units+1<cLine)(ha:XE X a fa)(hb:XB X b f)(hm:ZBa .In b=false:=by rfl):XT X (.Compare a [.In] [b] pos) (HM.tV (HM.Zo2 fa f)):=by intro r d h;obtain⟨x,q,kvs,y,h1,h2,h3,h4,e⟩:=ZuU (ZgK h);cases e;refine PT.imp (Zp3 (Zxa hu (ha r x h1) (hb r q h2)) hm) λσ H Q ⟨F0,H0,F,at_,k⟩=>?_;refine⟨F0,H0,F,at_,λv F1 H1 x1 r1=>⟨F0,H0,F1,at_.grow x1,λw F2 H2 x2 ⟨fp,r2⟩=>?_⟩⟩;obtain⟨l,vvs,e1,e2,T⟩:=ZiP x2.sub r2 h3;obtain⟨bb,rfl,hbb⟩:=ZbY h4 (r1.mono x2.ff);exact⟨l,_,e1,ZnW e2 (x2.sub _ _ hbb),_,rfl,by rw[T.some_iff]; exact k F2 H2 (x1.trans x2)⟩
theorem Zg2(hu:X.A.units+1<cLine)(ha:XE X a fa)(hb:XB X b f)(hm:ZBa .NotIn b=false:=by rfl):XT X (.Compare a [.NotIn] [b] pos) (HM.tV (HM.ZbW fa f)):=by intro r d h;obtain⟨x,q,kvs,y,h1,h2,h3,h4,e⟩:=ZqP (ZgK h);cases e;refine PT.imp (Zp3 (Zm3 hu (ha r x h1) (hb r q h2)) hm) λσ H Q ⟨F0,H0,F,at_,k⟩=>?_;refine⟨F0,H0,F,at_,λv F1 H1 x1 r1=>⟨F0,H0,F1,at_.grow x1,λw F2 H2 x2 ⟨fp,r2⟩=>?_⟩⟩;obtain⟨l,vvs,e1,e2,T⟩:=ZiP x2.sub r2 h3;obtain⟨bb,rfl,hbb⟩:=ZbY h4 (r1.mono x2.ff);exact⟨l,_,e1,ZnW e2 (x2.sub _ _ hbb),_,rfl,by rw[T.some_iff]; exact k F2 H2 (x1.trans x2)⟩
theorem Zgc(hu:X.A.units+1<cLine)(ha:XB X a f)(hk:XE X b fb)(hs:ZpV b:=by intro _ _; rfl):XE X (.Subscript a b pos) (HM.ZaX f fb):=by
 intro r d h;unfold HM.ZaX at h;split at h
 ·rename_i q hq
  split at h
  ·rename_i kvs hd
   split at h
   ·rename_i x hx
    split at h
    ·rename_i y hy
     refine PE.imp (Zma hu (ha r q hq) (hk r x hx) hs) λσ H Q ⟨F0,H0,F,at_,kk⟩=>?_;refine⟨F0,H0,F,at_,λv F1 H1 x1 ⟨fp,r1⟩=>⟨F0,H0,F1,at_.grow x1,λw F2 H2 x2 r2=>?_⟩⟩;obtain⟨l,vvs,e1,e2,T⟩:=ZiP x1.sub r1 hd;have e2':=rdT e2 x2.hh;have T':ZaS X.K F2 kvs vvs:=⟨T.1,T.2.mono x2.ff⟩;obtain⟨bb,rfl,hbb⟩:=ZbY hy r2;obtain⟨u,q1,q2⟩:=T'.look.1 d h;exact⟨l,u,e1,by rw[<-q1]; exact ZnW e2' (x2.sub _ _ hbb),kk u F2 H2 (x1.trans x2) q2⟩
    ·cases h
   ·cases h
  ·cases h
 ·cases h
structure XAL(X:Cx)(es:List Expr)(f:HM.AF):Prop where
 len:∀r ds,f r=some ds->ds.length=es.length
 pa:∀r ds,f r=some ds->PA X es λσ H Q=>Now X.K r σ H λF0 H0 F=>∀vs F' H',Ext F H F' H'->Zt X.K H' ds vs->Q vs H'
theorem Zag.lent{v:V}{d:PyData}(sub:Zq F H)(r:Zag K F H q v fp)(h:HM.frz q=some d):Rep K H d v:=by
 cases r with
 | pl r=>cases h; exact r.mono sub
 | ol h1 r=>cases h; exact .lst (.of h1) r.1 (r.mono sub).2
 | ok _ _ _=>cases h
 | hd h1 he hk r=>cases h; exact(Rep.dct (.inr ⟨_,h1⟩) he hk r.2).mono sub
 | hf h1=>cases h; exact(Rep.fn h1).mono sub
 | ot h1 hk r=>cases h; exact .dct (.inl h1) rfl hk (r.mono sub).2
 | otl _ _ _ _=>cases h
end
end HP
namespace HP
open PySem PySem.Spec PyProof.Rows L2
variable{g:HM.AF}{F:Hp}
variable[FX]
section
variable{X:Cx}{a b c e:Expr}{fa fb fc:HM.EF}{f:HM.BF}{pos p:Pos}{es:List Expr}
theorem ZwU(h:XA X es g):XAL X es g :=
 ⟨h.len,λr ds hd=>PA.imp (h.pa r ds hd) λσ H Q ⟨F0,H0,F,at_,k⟩=>⟨F0,H0,F,at_,λvs F' H' x q=>k vs F' H' x (q.mono x.sub)⟩⟩
theorem Zn1(ha:XE X e fa)(hr:XAL X es g)(hs:Zz6 (e::es) X.env=(false,eval e X.env)::Zz6 es X.env:=by rfl):XAL X (e::es) (HM.Zc fa g):=by
 refine⟨λr ds h=>?_,λr ds h=>?_⟩
 ·unfold HM.Zc at h
  split at h
  ·obtain⟨xs,h1,h2⟩:=ZzR.mp h
   subst h2;rw[Zz8,Zz8,hr.len r xs h1]
  ·cases h
 unfold HM.Zc at h;split at h
 ·rename_i x hx
  obtain⟨xs,h1,h2⟩:=ZzR.mp h;subst h2;refine PA.imp (ZaB (ha r x hx) (hr.pa r xs h1) hs) λσ H Q ⟨F0,H0,F,at_,k⟩=>?_;exact⟨F0,H0,F,at_,λv F1 H1 x1 r1=>⟨F0,H0,F1,at_.grow x1,λvs F2 H2 x2 r2=>k (v::vs) F2 H2 (x1.trans x2) (.cons ((r1.mono x2.ff).mono x2.sub) r2)⟩⟩
 ·cases h
theorem Zt6(ha:XB X e f)(hr:XAL X es g)(hs:Zz6 (e::es) X.env=(false,eval e X.env)::Zz6 es X.env:=by rfl):XAL X (e::es) (HM.Zc (HM.Zr7 f) g):=by
 refine⟨λr ds h=>?_,λr ds h=>?_⟩
 ·unfold HM.Zc at h
  split at h
  ·obtain⟨xs,h1,h2⟩:=ZzR.mp h
   subst h2;rw[Zz8,Zz8,hr.len r xs h1]
  ·cases h
 unfold HM.Zc at h;split at h
 ·rename_i x hx
  obtain⟨xs,h1,h2⟩:=ZzR.mp h;subst h2;obtain⟨q,hq,hf⟩:=ZC7.mp hx;refine PA.imp (ZaB (ha r q hq) (hr.pa r xs h1) hs) λσ H Q ⟨F0,H0,F,at_,k⟩=>?_;exact⟨F0,H0,F,at_,λv F1 H1 x1 ⟨fp,r1⟩=>⟨F0,H0,F1,at_.grow x1,λvs F2 H2 x2 r2=>k (v::vs) F2 H2 (x1.trans x2) (.cons ((r1.lent x1.sub hf).monoT x2.hh) r2)⟩⟩
 ·cases h
theorem Rep.flat{K:ZzS}{F':Hp}{d:PyData}{v:V}(r:Rep K F d v)(h:HM.ZlI d=true):Rep K F' d v:=by
 cases r with
 | non=>exact .non
 | bl b=>exact .bl b
 | int i=>exact .int i
 | str x=>exact .str x
 | tupk _=>cases h
 | tup _ _ _=>cases h
 | lst _ _ _=>cases h
 | dct _ _ _ _=>cases h
 | fn _=>cases h
theorem Ext.forget{H F'' H'':Hp}(s:Zq F H)(n:NoT F)(x:Ext (ZcV H) H F'' H''):Ext F H F H'' :=
 ⟨Zq.refl F,x.hh,(n.sub s).trans (x.ff.trans x.sub),λ_ _ z=>.inl z,x.tab,id⟩
theorem Zta(hc:X.calm=true):Zbh X (.builtin "max") (λxs H Q=>∃(p:Addr) (ns:List Int),xs=[.ref p]/\SqL X.K H p (ns.map V.int)/\0<ns.length/\∀M,M∈ns->(∀a,a∈ns->a<=M)->Q (.int M) H):=by
 intro pins s σ H xs us Q I r h;obtain⟨p,ns,rfl,hq,hne,q⟩:=h;obtain⟨u,rfl,rx⟩:=vals1 r;cases rx;obtain⟨its,rv,pl,hz⟩:=I.list hq;have hi:=Zeq rv;obtain⟨xs,e⟩:=hi.allInts.items;have hns:ns=xs.toList.map (·.1):=by rw[<-hi.numsOf,<-nums_intItems,<-e]
 have hsz:0<xs.size:=by have h3:=hne; rw[hns,ZzP,ZAm]at h3; exact h3
 have hl:=pl.isList;rw[e]at hl;refine max_intList (I.ok.hd hc) hl hsz λv h' tk hv hk=>?_;obtain⟨t,rfl⟩:=intItems_at hv;obtain⟨h1,h2⟩:=argBest_gt (numAt xs) (xs.size-1);refine⟨.int _,H,I.kept (t':=tk) hk,⟨t,rfl⟩,q _ ?_ λa ha=>?_⟩
 ·rw[hns,numAt_eq]; exact getD_mem (by rw[ZzP,ZAm]; omega)
 ·rw[hns]at ha
  obtain⟨j,hj,rfl⟩:=mem_getD ha;rw[ZzP,ZAm]at hj;rw[<-numAt_eq]; exact h2 j (by omega)
theorem ZqZ(hm:X.mg "max" = none)(hc:X.calm=true)(ha:XB X a f)(hg:Gl X "max":=by rfl)(hs:Zz6 [a] X.env=[(false,eval a X.env)]:=by rfl):XE X (.Call (.Name "max" p) [a] [] pos) (HM.Zfx f):=by
 intro r d h;unfold HM.Zfx at h;split at h
 ·rename_i x hx
  split at h
  ·rename_i ds hds
   split at h
   ·rename_i ns hns
    obtain⟨m,h1,h2⟩:=ZzR.mp h;subst h2;refine PE.imp (ZdJ (Zta hc) hg hm Ztr (ZfE ha hx hs) (he:=hs)) λσ H Q ⟨F0,H0,F,at_,k⟩=>?_;refine⟨F0,H0,F,at_,λv fp F1 H1 x1 r1=>?_⟩;obtain⟨l,vs,e1,hq,rs⟩:=Zek x1.sub r1 hds;rw[ZcR hns rs]at hq;obtain⟨m1,m2⟩:=ZDo.mp h1;refine⟨l,ns,by rw[e1],hq,List.length_pos_of_mem m1,λM k1 k2=>?_⟩;have:M=m:=Int.le_antisymm (m2 M k1) (k2 m m1);subst this;exact k _ F1 H1 x1 (.int _)
   ·cases h
  ·cases h
 ·cases h
end
end HP
namespace HP
open PySem PySem.Spec PyProof.Rows L2
variable[FX]
end HP
namespace HP
open PySem PySem.Spec PyProof.Rows L2
variable{p1 p2 p3:Pos}{x:Str}
variable[FX]
section
variable{X:Cx}{a b c e:Expr}{fa fb fc:HM.EF}{f:HM.BF}{pos p:Pos}{es:List Expr}
theorem ZsC(i:Nat)(ha:XB X a f)(hN:X.N[i]?=some x:=by rfl)(hv:Vis X.env.scope x:=by first | exact ZAB rfl | exact ZAj (ZAB rfl) | exact ZAj (ZAj rfl))(hd:(x==("__debug__":Str))=false:=by decide)(hcd:(x==("__classdict__":Str))=false:=by decide)
  (hbase:ZBU (.Name x p1) "extend" X.env (eval (.Name x p1) X.env)=eval (.Name x p1) X.env:=by rfl)
  (hfew:((backTo p3 (Zz6 [a] X.env)).all (λx=>!x.1)&&(ZDC p3 (ZCN [] X.env)).all (λx=>x.1.isSome)&&decide (([a]:List Expr).length+([]:List Keyword).length+(if([]:List Keyword).isEmpty then 0 else 1)<30))=true:=by rfl)
  (hline:(p2.endLine==p3.line)=true:=by rfl) (hs:Zz6 [a] X.env=[(false,eval a X.env)]:=by rfl):XS X (.Expr (.Call (.Attribute (.Name x p1) "extend" p2) [a] [] p3) pos) (HM.Zkc i f):=by
 intro r o h;unfold HM.Zkc at h;split at h
 ·rename_i ds hds
  split at h
  ·rename_i es hes
   split at h
   ·rename_i hz
    cases h;refine PS.imp (Zh1 (ZnQ ZBX PySem.F.slot_list_extend PySem.F.type_list_extend ZtD (Zcg hN hv hd hcd) (ZaB (ha r _ hes) Zb2 hs) hbase hfew hline hs rfl)) λE σ H ⟨F0,H0,F,at_,k⟩=>?_;obtain⟨l,vs,e1,e2,e3,_⟩:=at_.chgList (es:=ds) hds;refine⟨.ref l,e1,.inl ⟨rfl,_,SqL.of e2⟩,F0,H0,F,at_,λv F1 H1 x1 ⟨fp,r1⟩=>?_⟩;have at1:=at_.grow x1;obtain⟨l',vs',f1,f2,f3,f4⟩:=at1.chgList (es:=ds++es) hds;rw[e1]at f1;cases f1;cases r1 with
    | @ol b _ us hb rs =>
     refine⟨_,b,vs',us,rfl,rfl,f2,hb,?_,k _ F1 _ (f4 _ (f3.append rs))⟩;have e4:=f3.1;have e6:=rs.1;have e5:(1000000:Nat)<=sizeLine:=by decide
     unfold HM.big at hz;omega
   ·cases h
  ·cases h
 ·cases h
theorem ZwV(i j:Nat){y:Str}{p4:Pos}(hN:X.N.Nodup)(hNi:X.N[i]?=some x:=by rfl)(hNj:X.N[j]?=some y:=by rfl)(hx:Loc X.env.scope x:=by first | exact ZAB rfl | exact ZAj rfl)(hv:Vis X.env.scope y:=by first | exact ZAB rfl | exact ZAj (ZAB rfl) | exact ZAj (ZAj rfl))(hd:(y==("__debug__":Str))=false:=by decide)(hcd:(y==("__classdict__":Str))=false:=by decide)
  (hbase:ZBU (.Name y p1) "pop" X.env (eval (.Name y p1) X.env)=eval (.Name y p1) X.env:=by rfl) (hline:(p2.endLine==p3.line)=true:=by rfl)
  (hs:ZBT (.Call (.Attribute (.Name y p1) "pop" p2) [] [] p3) (some (.Name x p4)) pos.line X.env=pure false:=by rfl) (hf:X.fn x=true\/X.env.scope.names.lookup x=some .local:=by first | exact .inl rfl | exact .inr rfl) :
  XS X (.Assign [.Name x p4] (.Call (.Attribute (.Name y p1) "pop" p2) [] [] p3) pos) (HM.Zun i j):=by
 intro r o h;unfold HM.Zun at h;split at h
 ·rename_i ds hds
  split at h
  ·rename_i d hd'
   cases h;refine PS.imp (Zo6 hN hNi hx (Zye ZBX PySem.F.slot_list_pop PySem.F.type_list_pop Zxf (Zcg hNj hv hd hcd) hbase hline) hs hf) λE σ H ⟨F0,H0,F,at_,k⟩=>?_;obtain⟨l,vs,e1,e2,e3,e4⟩:=at_.chgList (es:=ds.dropLast) hds;obtain⟨v,q1,q2⟩:=e3.get hd';refine⟨.ref l,e1,.inl ⟨rfl,_,SqL.of e2⟩,l,vs,v,rfl,rfl,e2,by rw[<-e3.1]; exact q1,k _ F _ ((e4 _ ?_).set q2)⟩;rw[ZEF,ZEF,<-e3.1];exact e3.take _
  ·cases h
 ·cases h
def spF(K:ZzS)(n:Nat)(M:List PyData->Option PyData):Sp:=λvs H Q _=>∃F ds ys,vs.length=n/\Zq F H/\Tb H/\NoT F/\Zt K F ds vs/\M ds=some (.list ys)/\∀l us F' H',Ext F H F' H'->H' l=some (.lst us)->Zt K F' ys us->F' l=none->H l=none->Q (.ref l) H'
structure Zet(P:Program)(w:World)(K:ZzS)(mg:Str->Option Value)(base:Heap)(k:Nat)(x:Str)(M:List PyData->Option PyData):Prop where
 ex:∃f fd ps,(∀ds d,M ds=some d->ds.length=ps.length)/\ZdG P w K mg base CX0 k f fd ps (spF K ps.length M)/\mg x=some (.ref f)/\ZBo K (.ref f)=true/\Binds K fd ps []
theorem Zet.mono{P:Program}{w:World}{K:ZzS}{mg:Str->Option Value}{base:Heap}{j k:Nat}{x:Str}{M:List PyData->Option PyData}(C:Zet P w K mg base j x M)(h:j<=k):Zet P w K mg base k x M:=by obtain⟨f,fd,ps,l,F,r⟩:=C.ex;exact⟨f,fd,ps,l,F.mono h,r⟩
theorem Zt7{k:Nat}{g:HM.AF}{M:List PyData->Option PyData}(C:Zet X.prog X.w X.K X.mg X.base k x M)(hr:Zav k X.A)(ha:XA X (e::es) g)(hg:Gl X x:=by rfl)(hdb:(x==("__debug__":Str))=false:=by decide)
  (he:Zz6 (e::es) X.env=(false,eval e X.env)::Zz6 es X.env:=by rfl) (hpl:(backTo pos (Zz6 es X.env)).any (·.1)=false:=by rfl):XF X (.Call (.Name x p) (e::es) [] pos) (HM.ZjM M g):=by
 intro r d hd;unfold HM.ZjM at hd;split at hd
 ·rename_i ds hds
  split at hd
  ·rename_i ys hM
   cases hd;obtain⟨fa,fd,ps,hl,F,hm,hk,hb⟩:=C.ex;refine PE.imp (Zme (E:=E0) F hr hg hm hk hb .nil Zr0 (ha.pa r ds hds) hdb he hpl) λσ H Q ⟨F0,H0,F1,at_,k⟩=>?_;refine⟨F0,H0,F1,at_,λvs F' H' x q=>?_⟩;show spF X.K ps.length M (vs++[]) H' Q E0;rw[ZAE];refine⟨F',ds,ys,by rw[<-q.1]; exact hl ds _ hM,x.sub,at_.tbx x,at_.ntx x,q,hM,λl us F2 H2 x2 h1 h2 h3 h4=>k _ F2 H2 (x.trans x2) ⟨[l],.ol h1 h2,by simp,λa ha=>?_⟩⟩;obtain rfl:a=l:=by simpa using ha
   exact⟨h3,x.hh.free h4⟩
  ·cases hd
 ·cases hd
theorem ZrW{P:Program}{w:World}{K:ZzS}{mg:Str->Option Value}{base:Heap}{k:Nat}{qual:Str}{st:Stmt}{f:Addr}{fd:FuncData}{N ps:List Str}{e:Expr}{g:HM.BF}(Fn:Fun K x qual st f fd)(S:Zs N ps (Ze st))(hm:mg x=some (.ref f))(hb:Binds K fd ps [])
  (hst:Za7 st=[.Return (some e) p1]) (hol:∀r b,g r=some b->∃ys,b=.ol ys)
  (body:∀(cdv:Value) (A:Around) (outer:List Env) (s:Shared) (H:Hp) (E:XK),Zav k (A.deeper (envOfC qual (Ze st) s.heap.objs.size f cdv))->XF (ZgF CX0 P w K mg base N qual (Ze st) f cdv A outer s H E).nox e g) :
  Zet P w K mg base (k+1) x (HM.fnOf ps.length N.length (HM.ZE (HM.eOf g))):=by
 have hpl:ps.length<=N.length:=by have:=congrArg ZAF S.pre; rw[ZBz]at this; omega
 refine⟨f,fd,ps,λds d h=>?_,Fn.ok S (λvs H Q E h=>?_) (λcdv A outer s H vs Q E hr h=>?_),hm,Fn.kp,hb⟩
 ·unfold HM.fnOf at h
  split at h
  ·assumption
  ·cases h
 ·obtain⟨_,_,_,h,_⟩:=h
  exact h
 ·obtain⟨F,ds,ys,hl,sub,tb,nt,q,hM,kk⟩:=h
  unfold HM.fnOf at hM;split at hM
  ·rename_i hds
   have a0:=ZgS (N:=N) sub tb nt q (by omega);have hg:g (HM.ZeQ N.length ds)=some (.ol ys):=by
    split at hM
    ·rename_i r hr'
     cases hq:HM.eOf g (HM.ZeQ N.length ds)with
     | none=>unfold HM.ZE at hr'; rw[hq]at hr'; cases hr'
     | some d=>unfold HM.ZE at hr'; rw[hq]at hr'; cases hr'
    ·rename_i d' hr'
     cases hM;obtain⟨d,h1,h2⟩:=ZzR.mp hr';cases h2;obtain⟨b,h3,h4⟩:=ZC7.mp h1;obtain⟨zs,rfl⟩:=hol _ _ h3;cases h4;exact h3
    ·cases hM
   rw[hst];refine⟨_,Zrk (Zo9 (body cdv A outer s H E hr _ _ hg)),F,H,F,a0,λv F' H' x ⟨fp,r1,nd,hn⟩=>?_⟩;cases r1 with
   | @ol l _ us h1 h2=>exact kk l us F' H' x h1 h2 (hn l (by simp)).1 (hn l (by simp)).2
  ·cases hM
theorem Zuo(i:HM.IF)(c:HM.TF)(e:HM.EF)(r:HM.Env)(b:HM.B)(h:HM.ZK i c e r=some b):∃ys,b=.ol ys:=by
 unfold HM.ZK at h;split at h
 ·split at h
  ·obtain⟨ys,_,h2⟩:=ZzR.mp h
   exact⟨ys,h2.symm⟩
  ·cases h
 ·cases h
end
end HP
namespace HP
open PySem PySem.Spec PyProof.Rows L2
variable{tg:Expr}{b':HM.B}{K:ZzS}
variable[FX]
section
variable{K:ZzS}{F H F0 H0 G:Hp}{a b:Addr}{ob u:HO}{vvs:List (List Key × V)}{d:PyData}{v:V}{ds:List PyData}{vs:List V}{r:HM.Env}{σ:L2.St}{i:Nat}{es:List (PyData × PyData)}
theorem Zbl(h:b≠a):sw a ob G b=G b:=by unfold sw; rw[if_neg h]
theorem Zf4:sw a ob G a=(G a).map λ_=>ob:=by unfold sw; rw[if_pos rfl]
theorem ZrA(s:Zq F H):Zq (sw a ob F) (sw a ob H):=λb o z=>by
 by_cases hb:b=a
 ·subst hb
  rw[Zf4]at z ⊢;obtain⟨x,h1,h2⟩:=ZzR.mp z;rw[s _ _ h1,<-h2]; rfl
 ·rw[Zbl hb]at z ⊢; exact s b o z
theorem ZvA(hG:∀u,G a=some u->u=.dT vvs):sw a (.dT vvs) (sw a ob G)=G:=by
 funext b
 by_cases hb:b=a
 ·subst hb
  rw[Zf4,Zf4];cases h:G b with
  | none=>rfl
  | some u=>rw[hG u h]; rfl
 ·rw[Zbl hb,Zbl hb]
theorem Dk.nt(h:Dk vvs u):(∀xs,u≠.tup xs)/\(∀xs,u≠.lst xs)/\(∀o xs,u≠.frz o (.lst xs))/\(∀ps,u≠.tbl ps)/\(∀x,u≠.own x):=by rcases h with h | ⟨o,h⟩<;>subst h<;>exact⟨λ_ z=>(by cases z),λ_ z=>(by cases z),λ_ _ z=>(by cases z),λ_ z=>(by cases z),λ_ z=>(by cases z)⟩
theorem Rep.sw(hF:∀u,F a=some u->Dk vvs u)(hob:Dk vvs ob)(r:Rep K F d v):Rep K (HP.sw a ob F) d v:=by
 induction r with
 | non=>exact .non
 | bl b=>exact .bl b
 | int i=>exact .int i
 | str x=>exact .str x
 | fn h=>exact .fn (FX.sw hF hob h)
 | tupk h=>exact .tupk h
 | @tup b ds vs h hl _ ih=>exact .tup (by rw[Zbl (λz=>(hF _ (z▸h)).nt.1 _ rfl)]; exact h) hl ih
 | @lst b ds vs h hl _ ih =>
  refine .lst ?_ hl ih;rcases h with h | h
  ·refine .inl ?_
   have hb:b≠a:=λz=>by
    rcases h with h | ⟨o,h⟩
    ·exact(hF _ (z▸h)).nt.2.1 _ rfl
    ·exact(hF _ (z▸h)).nt.2.2.1 _ _ rfl
   unfold Rd;rw[Zbl hb];exact h
  ·exact .inr h
 | @dct b es kvs vvs' h he hk _ ih =>
  refine .dct ?_ he hk ih
  by_cases hb:b=a
  ·subst hb
   have:vvs'=vvs/\∃u,F b=some u:=by
    rcases h with h | ⟨o,h⟩
    ·rcases hF _ h with z | ⟨o',z⟩
     ·cases z; exact⟨rfl,_,h⟩
     ·cases z
    ·rcases hF _ h with z | ⟨o',z⟩
     ·cases z
     ·cases z; exact⟨rfl,_,h⟩
   obtain⟨rfl,u,hu⟩:=this;unfold Rd;rw[Zf4,hu];rcases hob with z | ⟨o,z⟩
   ·subst z; exact .inl rfl
   ·subst z; exact .inr ⟨o,rfl⟩
  ·unfold Rd
   rw[Zbl hb];exact h
theorem Zt.sw(hF:∀u,F a=some u->Dk vvs u)(hob:Dk vvs ob)(r:Zt K F ds vs):Zt K (HP.sw a ob F) ds vs:=⟨r.1,λi d v h1 h2=>(r.2 i d v h1 h2).sw hF hob⟩
theorem Ext.sw(x:Ext F0 H0 F H)(hH:∀u,H a=some u->Dk vvs u)(hob:Dk vvs ob):Ext (HP.sw a ob F0) (HP.sw a ob H0) (HP.sw a ob F) (HP.sw a ob H) :=
 ⟨ZrA x.ff,x.hh.sw,ZrA x.sub,λb o z=>by
  by_cases hb:b=a
  ·subst hb
   rw[Zf4]at z;obtain⟨u,h1,h2⟩:=ZzR.mp z;rcases x.new b u h1 with q | q | ⟨xs,e,q⟩
   ·exact .inl (by rw[Zf4,q,<-h2]; rfl)
   ·exact .inr (.inl (by rw[Zf4,q]; rfl))
   ·exact absurd e ((hH _ (x.sub _ _ h1)).nt.1 xs)
  ·rw[Zbl hb]at z
   rcases x.new b o z with q | q
   ·exact .inl (by rw[Zbl hb]; exact q)
   ·refine .inr ?_
    unfold Fre;rw[Zbl hb];exact q,λt=>(x.tab (t.unsw hob)).sw hH,λt b o z=>by
  unfold HP.sw at z;split at z
  ·obtain⟨u,_,e⟩:=ZzR.mp z
   subst e; exact hob.ntt
  ·rename_i hb
   refine x.nts (λc u y=>?_) b o z
   by_cases hc:c=a
   ·subst hc; exact(hH _ (x.sub _ _ (x.ff _ _ y))).ntt
   ·exact t c u (by rw[Zbl hc]; exact y)⟩
theorem At.sw(e:At K F0 H0 F H r σ)(hFa:F a=some u)(hu:Dk vvs u)(hob:Dk vvs ob)(nh:∀(i:Nat) (es:List (PyData × PyData)),r[i]?≠some (some (HM.B.hd es))):At K (HP.sw a ob F0) (HP.sw a ob H0) (HP.sw a ob F) (HP.sw a ob H) r σ:=by
 obtain⟨fp,e⟩:=e;have hF:∀u,F a=some u->Dk vvs u:=λu' h=>by rw[hFa]at h; cases h; exact hu
 have hH:∀u,H a=some u->Dk vvs u:=λu' h=>by rw[e.sub _ _ hFa]at h; cases h; exact hu
 have own:∀i,∀c∈fp i,c≠a:=λi c hc z=>by rw[<-z,(e.own i c hc).1]at hFa; cases hFa
 refine⟨fp,e.ext.sw hH hob,e.len,λi b h=>?_,e.emp,λi b h=>?_,e.nd,e.dis,e.tb.sw (vvs:=vvs) (λu' z=>by have q:=e.ext.hh.back z (e.sub _ _ hFa) hu.nt.2.2.2.1;rw[q]; exact hu),λb o z=>?_⟩
 rotate_left 2
 ·unfold HP.sw at z
  split at z
  ·obtain⟨u,_,e⟩:=ZzR.mp z
   subst e; exact hob.ntt
  ·exact e.nt b o z
 ·obtain⟨v,h1,h2⟩:=e.at_ i b h
  refine⟨v,h1,?_⟩;have own:=own i;generalize fp i=f at h2 own;cases h2 with
  | pl q=>exact .pl (q.sw hF hob)
  | ol k q=>exact .ol (by rw[Zbl (own _ (by simp))]; exact k) (q.sw hF hob)
  | ok k hk q=>exact .ok (by rw[Zbl (own _ (by simp))]; exact k) hk (q.sw hF hob)
  | ot k hk q=>exact .ot (by rw[Zbl (own _ (by simp))]; exact k) hk (q.sw hF hob)
  | otl k hk hv q=>refine .otl (by rw[Zbl (own _ (by simp))]; exact k) hk hv λi ds l h1 h2=>?_;obtain⟨vs,q1,q2⟩:=q i ds l h1 h2;exact⟨vs,by rw[Zbl (own l (ZzU _ (ZAo h2)))]; exact q1,q2.sw hF hob⟩
  | hd _ _ _ _=>exact absurd h (nh _ _)
  | hf _=>exact absurd h (nh _ _)
 ·rw[Zbl (own i b h),Zbl (own i b h)]
  exact e.own i b h
theorem set_same{x:Option V}(h:σ[i]?=some x):σ.set i x=σ:=by obtain⟨h1,h2⟩:=Zz5.mp h;rw[<-h2];exact ZCA h1
theorem At.say(e:At K F0 H0 F H r σ)(h1:σ[i]?=some (some v))(q:Zag K F H b' v []):At K F0 H0 F H (r.set i (some b')) σ:=by
 have:=e.store (i:=i) q ZBB (λa h=>by simp at h) λ_ _ _ _ _ _ h=>by simp at h
 rwa [set_same h1]at this
theorem At.loosen(e:At K F0 H0 F H r σ)(h:r[i]?=some (some (.hd es))):At K F0 H0 F H (r.set i (some (.pl (.dict es)))) σ:=by
 obtain⟨v,fp,h1,h2⟩:=e.any h;cases h2 with
 | hd k1 k2 k3 k4=>exact e.say h1 (.pl (.dct (.inr ⟨_,k1⟩) k2 k3 k4.2))
 | hf k1=>exact e.say h1 (.pl (.fn k1))
theorem ZvJ(h:r.all (λq=>!HM.ZbB q)=true)(i:Nat)(es:List (PyData × PyData)):r[i]?≠some (some (.hd es)):=λz=>by have:=ZzY.mp h _ (ZAo z);cases this
theorem Ztc(h:(r.set i none).all (λq=>!HM.ZbB q)=true)(hb:∀es,b'≠.hd es)(j:Nat)(es:List (PyData × PyData)):(r.set i (some b'))[j]?≠some (some (.hd es)):=λz=>by
 by_cases hj:i=j
 ·subst hj
  by_cases hi:i<r.length
  ·rw[ZAM hi]at z
   injection z with z
   injection z with z
   exact hb _ z
  ·rw[ZEA (by rw[ZBc]; omega)]at z
   cases z
 ·rw[ZAr hj]at z
  exact ZvJ h j es (by rw[ZAr hj]; exact z)
end
section
variable{X:Cx}{pins:List (Addr × Obj)}{σ:L2.St}{H:Hp}{s:Shared}{a:Addr}{u ob:HO}{vvs:List (List Key × V)}
theorem ZnU{h:Heap}{o:HO}{b:Addr}(ha:H a=some u)(hu:Dk vvs u)(x:Zac X.prog X.w H h b o):Zac X.prog X.w (sw a ob H) h b o :=
 x.stay (λ_ _ _ q=>q) (λc q=>by rw[Zbl (λz=>by rw[z,ha]at q; cases q; exact hu.nt.2.2.2.2 _ rfl)]; exact q) λc xs q=>by rw[Zbl (λz=>by rw[z,ha]at q; cases q; exact hu.nt.1 _ rfl)]; exact q
theorem Zqc(I:Inv X pins σ H s)(ha:H a=some u)(hu:Dk vvs u)(ok:Zac X.prog X.w (sw a ob H) s.heap a ob)(hn:∀o w,X.H₀ a≠some (.frz o w)):Inv X pins σ (HP.sw a ob H) s:=by
 have none':∀b,H b=none->HP.sw a ob H b=none:=λb h=>by rw[Zbl (λz=>by rw[z,ha]at h; cases h)]; exact h
 refine⟨I.ok,I.os,I.bare,⟨I.base.keep,I.base.slot,λb o h1 h2 h3=>none' b (I.base.free b o h1 h2 h3),I.base.there,λb xs h=>?_,λb o w h=>?_,λb ps h=>?_⟩,I.loc,I.cell,none' _ I.free,λx c h=>none' _ (I.freeC x c h),λp hp=>?_,λb o h=>?_,I.len⟩
 ·have q:=I.base.tups b xs h
  rw[Zbl (λz=>by rw[z,ha]at q; cases q; exact hu.nt.1 _ rfl)];exact q
 ·have q:=I.base.frzs b o w h
  rw[Zbl (λz=>hn o w (by rw[<-z]; exact h))];exact q
 ·obtain⟨m,q⟩:=I.base.tbls b ps h
  exact⟨m,by rw[Zbl (λz=>by rw[z,ha]at q; cases q; exact hu.nt.2.2.2.1 _ rfl)]; exact q⟩
 ·have q:=I.pin p hp
  exact⟨q.1,none' _ q.2.1,q.2.2⟩
 ·by_cases hb:b=a
  ·subst hb
   rw[Zf4,ha]at h;cases h;exact ok
  ·rw[Zbl hb]at h
   exact ZnU ha hu (I.hok b o h)
theorem Zj4(i:Nat){st:Stmt}{g:HM.SF}(h:XS X st g):XS X st (HM.Zfu i g):=by
 intro r o ho;unfold HM.Zfu at ho;split at ho
 case h_2=>exact h r o ho
 rename_i es hr;split at ho
 case isFalse=>cases ho
 rename_i hall;have nh:=ZvJ hall;intro pins s σ H E I ⟨F0,H0,F,at_,k⟩;obtain⟨v,h1,h2⟩:=at_.plain hr;cases h2 with
 | @dct a _ kvs vvs hd he hk hrr =>
  have rs:∀{F':Hp},Zq F F'->Zt X.K F' (kvs.map (·.2)) (vvs.map (·.2)):=λs=>by refine Zt.mono ⟨?_,hrr⟩ s;have:=congrArg ZAF hk;rw[ZzP,ZzP]at this ⊢;exact this
  rcases hd with hd | ⟨q,hd⟩
  ·have hHa:=at_.sub _ _ hd
   obtain⟨z,y,xs,rl,q,es1,ep,e1,c1⟩:=(show Zac X.prog X.w H s.heap a (.dT vvs) from I.hok a _ hHa);have hn:∀o w,X.H₀ a≠some (.frz o w):=λo w z=>by have:=I.base.frzs _ _ _ z;rw[hHa]at this; cases this
   have I1:=Zqc (ob:=.frz q (.dT vvs)) I hHa (.inl rfl) ⟨e1,ZnU hHa (.inl rfl) ⟨z,y,xs,rl,q,es1,ep,e1,c1⟩⟩ hn;have at1:=at_.sw (ob:=.frz q (.dT vvs)) hd (.inl rfl) (.inr ⟨q,rfl⟩) nh;have Ra:HP.sw a (.frz q (.dT vvs)) F a=some (.frz q (.dT vvs)):=by rw[Zf4,hd]; rfl
   have hFd:∀u,F a=some u->Dk vvs u:=λu z=>by rw[hd]at z; cases z; exact .inl rfl
   have at2:=(at1.say (i:=i) h1 (.hd Ra he hk (Zt.sw hFd (.inr ⟨q,rfl⟩) (rs (Zq.refl F))))).rebase;have e0:HP.sw a (.dT vvs) (HP.sw a (.frz q (.dT vvs)) F0)=F0:=ZvA λu z=>by have:=at_.ext.ff _ _ z;rw[hd]at this; cases this; rfl
   have e1:HP.sw a (.dT vvs) (HP.sw a (.frz q (.dT vvs)) H0)=H0:=ZvA λu z=>by exact at_.ext.hh.back z hHa λ_ w=>by cases w
   split at ho
   ·rename_i r' hg
    split at ho
    case h_2=>cases ho
    rename_i es' hr';split at ho
    case isFalse=>cases ho
    rename_i hall';cases ho;refine thn (h _ _ hg pins s σ _ { nx:=λσ' H'=>∃F',At X.K (HP.sw a (.frz q (.dT vvs)) F) (HP.sw a (.frz q (.dT vvs)) H0) F' H' r' σ',rt:=λ_ _=>False,bk:=λ_ _=>False,ct:=λ_ _=>False } I1 ⟨_,_,_,at2,λσ' F' H' a'=>⟨F',a'⟩⟩) λfl s' z=>?_;cases fl with
    | next=>obtain⟨σ',H',I',F',a'⟩:=z;have Fa:=a'.ext.ff _ _ Ra;have Ha:=a'.sub _ _ Fa;have a3:=((At.unbase at1.ext (at1.nt0) a').loosen hr').sw (ob:=.dT vvs) Fa (.inr ⟨q,rfl⟩) (.inl rfl) (Ztc hall' λ_ z=>by cases z);rw[e0,e1]at a3;exact⟨σ',_,Zqc I' Ha (.inr ⟨q,rfl⟩) (ZnU Ha (.inr ⟨q,rfl⟩) (Zlv I'.hok (.inr ⟨q,Ha⟩))) hn,k σ' _ _ a3⟩
    | brk=>obtain⟨_,_,_,z⟩:=z; exact z.elim
    | cont=>obtain⟨_,_,_,z⟩:=z; exact z.elim
    | ret u=>obtain⟨_,_,_,_,_,z⟩:=z; exact z.elim
   ·rename_i d hg
    cases ho;refine thn (h _ _ hg pins s σ _ { nx:=λ_ _=>False,bk:=λ_ _=>False,ct:=λ_ _=>False,rt:=λv' H'=>∃F',Ext (HP.sw a (.frz q (.dT vvs)) F) (HP.sw a (.frz q (.dT vvs)) H0) F' H'/\Rep X.K F' d v' } I1 ⟨_,_,_,at2,λv' F' H' x q=>⟨F',x,q⟩⟩) λfl s' z=>?_;cases fl with
    | ret u=>obtain⟨v',σ',H',I',rv,F',x',r'⟩:=z;have Fa:=x'.ff _ _ Ra;have Ha:=x'.sub _ _ Fa;have x3:=(Ext.unbase at1.ext x').sw (a:=a) (vvs:=vvs) (ob:=.dT vvs) (λu z=>by rw[Ha]at z; cases z; exact .inr ⟨q,rfl⟩) (.inl rfl);rw[e0,e1]at x3;exact⟨v',σ',_,Zqc I' Ha (.inr ⟨q,rfl⟩) (ZnU Ha (.inr ⟨q,rfl⟩) (Zlv I'.hok (.inr ⟨q,Ha⟩))) hn,rv,k v' _ _ x3 (r'.sw (λu z=>by rw[Fa]at z; cases z; exact .inr ⟨q,rfl⟩) (.inl rfl))⟩
    | next=>obtain⟨_,_,_,z⟩:=z; exact z.elim
    | brk=>obtain⟨_,_,_,z⟩:=z; exact z.elim
    | cont=>obtain⟨_,_,_,z⟩:=z; exact z.elim
   ·cases ho
  ·have at2:=at_.say (i:=i) h1 (.hd hd he hk (rs (Zq.refl F)))
   split at ho
   ·rename_i r' hg
    split at ho
    case h_2=>cases ho
    rename_i es' hr';split at ho
    case isFalse=>cases ho
    cases ho;exact h _ _ hg pins s σ H E I ⟨F0,H0,F,at2,λσ' F' H' a'=>k σ' F' H' (a'.loosen hr')⟩
   ·rename_i d hg
    cases ho;exact h _ _ hg pins s σ H E I ⟨F0,H0,F,at2,k⟩
   ·cases ho
 | fn hv =>
  have at2:=at_.say (i:=i) h1 (.hf hv);split at ho
  ·rename_i r' hg
   split at ho
   case h_2=>cases ho
   rename_i es' hr';split at ho
   case isFalse=>cases ho
   cases ho;exact h _ _ hg pins s σ H E I ⟨F0,H0,F,at2,λσ' F' H' a'=>k σ' F' H' (a'.loosen hr')⟩
  ·rename_i d hg
   cases ho;exact h _ _ hg pins s σ H E I ⟨F0,H0,F,at2,k⟩
  ·cases ho
def Itd(a:Addr)(o:Obj):It :=
 ⟨λi H=>∃vvs q,H a=some (.frz o (.dT vvs))/\vvs[i]?=some q,λi H x H'=>H'=H/\∀vvs,H a=some (.frz o (.dT vvs))->∃q b,vvs[i]?=some q/\x=.ref b/\H b=some (.tup (q.1.map kV)),λi H=>∃vvs,H a=some (.frz o (.dT vvs))/\vvs.length<=i⟩
theorem Zsg{α β:Type}{R:α->β->Prop}{l:List α}{m:List β}(r:Paired R l m):∀{i:Nat} {x:α},l[i]?=some x->∃y,m[i]?=some y/\R x y:=by
 induction r with
 | nil=>intro i x e; simp at e
 | @cons p q _ _ hq _ ih =>
  intro i x e;cases i with
  | zero=>rw[ZCs]at e; cases e; exact⟨q,rfl,hq⟩
  | succ i=>rw[ZAA]at e ⊢; exact ih e
theorem ZtH{P:Program}{w:World}(a it:Addr)(o:Obj)(es:Array DictEntry)(ep:Nat)(hd:o.data=.dict es ep):Turn P w K tg (Itd a o) [it] it (λi h=>h.IsKeyIter it a i es.size ep) where
 mem:=by simp
 obj:=λi h st b hb=>by
  have e:b=it:=by simpa using hb
  subst e;obtain⟨o,e,c,d⟩:=st;exact⟨o,e,λv z=>by rw[d]at z; cases z⟩
 keep:=λi h h' st k=>st.at λo e=>k it (by simp) o e
 item:=by
  intro X hP hw hK hc i pins s σ H E I hf st hg;subst hP hw hK;obtain⟨vvs,q,hH,hq⟩:=hg;obtain⟨h1,z,lo,xs,rel,o2,es2,ep2,h2,h3,h4,h5,h6⟩:=(show Zac X.prog X.w H s.heap a (.frz o (.dT vvs)) from I.hok a _ hH);rw[h1]at h2;cases h2;rw[hd]at h4;cases h4;obtain⟨f0,f1,f2,f3,f4,f5⟩:=hf it (by simp);obtain⟨p,hp,hr1,hr2,_⟩:=Zsg rel hq;have he:es[i]?=some (entryOfKey (ZCT (ZaA X.prog X.w)) p):=by rw[<-ZAP,h5,ZAk,hp]; rfl
  refine Zqe st ⟨o,h1,h3,hd⟩ he λh' st' sb=>?_;have I1:Inv X pins σ H { s with heap:=h' }:=I.turned (t':=s.toks) (λb o hb e=>(sb.2 b hb).trans e) f0 f1 f3 f4 f5;obtain⟨oi,e,c,d⟩:=id st';refine⟨_,rfl,ZnO (s:={ s with heap:=h' }) e c d (by decide) ⟨.ref p.2.1,H,I1,rfl,⟨rfl,λvv hv=>?_⟩,st',λb hb=>(hf b hb).1⟩⟩;rw[hH]at hv;cases hv;exact⟨q,p.2.1,hq,rfl,hr2⟩
 done:=by
  intro X hP hw hK hc i pins s σ H E I hf st hg;subst hP hw hK;obtain⟨vvs,hH,hq⟩:=hg;obtain⟨h1,z,lo,xs,rel,o2,es2,ep2,h2,h3,h4,h5,h6⟩:=(show Zac X.prog X.w H s.heap a (.frz o (.dT vvs)) from I.hok a _ hH);rw[h1]at h2;cases h2;rw[hd]at h4;cases h4;obtain⟨f0,f1,f2,f3,f4,f5⟩:=hf it (by simp);have hl:vvs.length=xs.length:=ZCu rel;have hes:es.size=xs.length:=by rw[<-ZAm,h5,ZzP]
  exact Zra (I.ok.hd hc) st ⟨o,h1,h3,hd⟩ (by omega) λh' eb=>⟨rfl,I.turned (t':=s.toks) (λb o hb e=>eb b o hb e) f0 f1 f3 f4 f5⟩
 self:=λ_ _ _ _ _ st h=>wpAny_pyIter_keyiter st h
theorem ZwA{l:Expr}{tl:TE}(hl:PE X l tl):PI X tg l (λσ H R=>tl σ H λx H1=>∃a o vvs,x=.ref a/\H1 a=some (.frz o (.dT vvs))/\R (Itd a o) H1):=by
 intro pins s σ H R I h;refine thn (hl pins s σ H _ I h) λv s1 ⟨x,H1,I1,r1,a,o,vvs,e,hH,q⟩=>?_;subst e;cases r1;obtain⟨h1,z,lo,xs,rel,o2,es,ep,h2,h3,h4,h5,h6⟩:=(show Zac X.prog X.w H1 s1.heap a (.frz o (.dT vvs)) from I1.hok a _ hH);rw[h1]at h2;cases h2;refine Zqb lo ⟨o,h1,h3,h4⟩ ⟨s1.heap.objs.size,[s1.heap.objs.size],_,_,H1,rfl,I1.kept (t':=s1.toks) λb o e=>ZzW _ e,ZtH a _ o es ep h4,⟨_,ZAa _ rfl,rfl,rfl⟩,λb hb=>?_,q⟩;obtain rfl:b=s1.heap.objs.size:=by simpa using hb
 exact I1.fpOk (Zz3 _) (I1.hok.fresh (Zz3 _))
theorem Zvv{F:Hp}{a:Addr}{o:Obj}{kvs:List (List Key × PyData)}{vvs:List (List Key × V)}(h:F a=some (.frz o (.dT vvs)))(hk:kvs.map (·.1)=vvs.map (·.1)):ItD K (Itd a o) (kvs.map λp=>.tuple (p.1.map HM.ZaU)) F:=by
 intro F' H s1 s2;have hH:=s2 _ _ (s1 _ _ h);have hl:kvs.length=vvs.length:=by
  have:=congrArg ZAF hk
  rwa [ZzP,ZzP]at this
 refine⟨λi d hd=>?_,vvs,hH,by rw[ZzP,hl]; exact Zz3 _⟩;rw[ZAk]at hd;obtain⟨q,hq,hd⟩:=ZzR.mp hd;subst hd;have hi:i<vvs.length:=by rw[<-hl]; exact(Zz5.mp hq).1
 have hw:vvs[i]?=some vvs[i]:=Zz2 hi;have hw1:vvs[i].1=q.1:=by
  have:(kvs.map (·.1))[i]?=(vvs.map (·.1))[i]?:=by rw[hk]
  rw[ZAk,ZAk,hq,hw]at this;exact(ZAz this).symm
 refine⟨⟨vvs,_,hH,hw⟩,λx H' hy=>?_⟩;obtain⟨e,y⟩:=hy;refine⟨e,?_⟩;obtain⟨q',b,e1,e2,e3⟩:=y vvs hH;rw[hw]at e1;cases e1;subst e2;rw[hw1]at e3;have rk:=Zhb (K:=K) (F:=Zci F' H) q.1;exact .tup (Zpw e3) rk.1 rk.2
theorem Zj5(i:Nat){x:Str}{pos:Pos}(hN:X.N[i]?=some x:=by rfl)(hv:Vis X.env.scope x:=by first | exact ZAB rfl | exact ZAj (ZAB rfl) | exact ZAj (ZAj rfl))(hd:(x==("__debug__":Str))=false:=by decide)
  (hcd:(x==("__classdict__":Str))=false:=by decide):XI X tg (.Name x pos) (HM.Zbm i):=by
 intro r ds h;have row:∀{d:PyData},r[i]?=some (some (.pl d))->HM.ZcP (.pl d)=some ds->HM.ZS (HM.bOf (HM.Za i)) r=some ds:=λ{d} h1 h2=>by
  have e:HM.Za i r=some d:=by unfold HM.Za; rw[h1]
  unfold HM.ZS HM.bOf;rw[e];exact h2
 unfold HM.Zbm at h;split at h
 ·rename_i q; exact ZX (Zb i hN hv hd hcd) r ds (row q h)
 ·rename_i q; exact ZX (Zb i hN hv hd hcd) r ds (row q h)
 ·rename_i es q
  obtain⟨kvs,h1,h2⟩:=ZzR.mp h;subst h2;refine PI.imp (ZwA (Zcg hN hv hd hcd)) λσ H R ⟨F0,H0,F,at_,k⟩=>?_;obtain⟨v,fp,g1,g2⟩:=at_.any q;cases g2 with
  | @hd a o _ kvs' vvs k1 k2 k3 k4=>subst k2;rw[HM.dec_enc]at h1;cases h1;exact⟨.ref a,g1,a,o,vvs,rfl,at_.sub _ _ k1,k _ F H at_.refl (Zvv k1 k3)⟩
  | hf _=>cases h1
 ·cases h
end
end HP
namespace HP
open PySem PySem.Spec PyProof.Rows L2
variable[FX]
section
variable{X:Cx}{a b c e:Expr}{fa fb fc:HM.EF}{f:HM.BF}{pos p:Pos}
theorem Zv5{K:ZzS}{F:Hp}{ds:List PyData}{v:V}(r:Rep K F (.tuple ds) v):∃l vs,v=.ref l/\SqT K F l vs/\Zt K F ds vs:=by
 cases r with
 | tup h1 h2 h3=>exact⟨_,_,rfl,.of h1,h2,h3⟩
 | @tupk a x h1=>exact⟨_,_,rfl,.inr h1,.one (.str x)⟩
theorem Zn2{apos:Pos}(hu:X.A.units+1<cLine)(ha:XB X a f)(hk:XE X b fb)(m:M1 X a "get" apos b pos):XE X (.Call (.Attribute a "get" apos) [b] [] pos) (HM.ZlL f fb):=by
 intro r d h;unfold HM.ZlL at h;split at h
 ·rename_i q hq
  split at h
  ·rename_i kvs hd
   split at h
   ·rename_i x hx
    split at h
    ·rename_i y hy
     cases h;refine PE.imp (Zum hu (ha r q hq) (hk r x hx) m) λσ H Q ⟨F0,H0,F,at_,kk⟩=>?_;refine⟨F0,H0,F,at_,λv F1 H1 x1 ⟨fp,r1⟩=>?_⟩;obtain⟨l,vvs,e1,e2,T⟩:=ZiP x1.sub r1 hd;refine⟨l,e1,.inr ⟨vvs,e2⟩,F0,H0,F1,at_.grow x1,λw F2 H2 x2 r2=>?_⟩;have e3:=rdT e2 x2.hh;have T':ZaS X.K F2 kvs vvs:=⟨T.1,T.2.mono x2.ff⟩;obtain⟨bb,rfl,hbb⟩:=ZbY hy r2;refine⟨_,ZnW e3 (x2.sub _ _ hbb),kk _ F2 H2 (x1.trans x2) ?_⟩;obtain⟨t1,t2⟩:=T'.look (k:=y);cases hl:HM.Zg kvs y with
     | none=>rw[t2 hl]; exact .non
     | some dd=>obtain⟨u,q1,q2⟩:=t1 dd hl; rw[q1]; exact q2
    ·cases h
   ·cases h
  ·cases h
 ·cases h
end
end HP
namespace HP
open PySem PySem.Spec PyProof.Rows L2
variable[FX]
end HP
namespace HP
open PySem
variable{S:Addr}
abbrev mdA(I S:Addr)(dv:Value):Args:=⟨[.ref I,.none,.ref S],[(ZAX "default",dv)]⟩
theorem Zj6:(toString "min" ++ toString ".loop":String) = "min.loop":=by decide
theorem Zwu(a dv:Value):argsOk "min" ⟨[a],[(ZAX "default",dv)]⟩:=by unfold argsOk; kernel_rfl
section
variable{prog:Program}{w:World}{A:Around}{R:Result->Shared->Prop}{I:Addr}{fp wr:List Addr}{n:Nat}{P:Nat->Value->Prop}{St:Nat->Heap->Prop}
theorem Zws(W:Walks prog w A.in1 I fp wr n P St)(bt:Nat->Nat->Bool)(hc:CmpOf prog w A.in1 .Lt P bt)(hf:S ∉ fp)(dv:Value):∀(k j:Nat) (s:Shared) (b:Value) (ep:Nat),n=j+1+k->St (j+1) s.heap->P (argBest bt j) b ->
  s.heap.get? S=some { cls:=.type "list",dict:=none,data:=.seq #[b,b] ep,slots:=#[] } ->
  (∀v h' tk,P (argBest bt (n-1)) v->(∀x o,x ∉ wr->x≠S->s.heap.get? x=some o->h'.get? x=some o)->R (.ok (.ret v)) { s with heap:=h',toks:=tk }) ->
  codeAny (model prog w) A (.builtin "min.loop" (mdA I S dv)) R s:=by
 have hw:S ∉ wr:=λh=>hf (W.sub _ h);intro k
 induction k with
 | zero =>
  intro j s b ep hn st pb gS out;have hn:n=j+1:=by omega
  subst hn;refine ZBj ZDg ?_;rw[ZA2 ZBr _];show wpAny _ A.in1 (seqItems? (.ref S) >>= _) _ _ s;refine ZzQ (ZC5 gS rfl ?_);show wpAny _ A.in1 (tryCatch (pyNext (.ref I)) _ >>= _) _ _ s;refine ZzQ (ZC6 (W.done s _ _ st λh1 tk keep=>?_));have gS1:=keep S _ hw gS;show wpAny _ A.in1 (updateSeq S (λ_=>#[]) >>= _) _ _ _;exact ZzQ (ZEp gS1 rfl (ZzQ (ZEv (ZzV (out b _ tk pb λx o hx hS e=>(ZBp _ _ (ZA0 hS)).trans (keep x o hx e))))))
 | succ k ih =>
  intro j s b ep hn st pb gS out;refine ZBj ZDg ?_;rw[ZA2 ZBr _];show wpAny _ A.in1 (seqItems? (.ref S) >>= _) _ _ s;refine ZzQ (ZC5 gS rfl ?_);show wpAny _ A.in1 (tryCatch (pyNext (.ref I)) _ >>= _) _ _ s;refine ZzQ (ZC6 (W.item (j+1) s _ _ (by omega) st λv h1 tk pv st1 keep=>?_));have gS1:=keep S _ hw gS;show wpAny _ A.in1 (tryCatch (holding [v,v] (richCompare .Lt v b >>= _)) _ >>= _) _ _ _;refine ZzQ (ZC6 (ZBb (ZzQ (hc (j+1) (argBest bt j) v b _ _ _ pv pb (ZzQ (ZBb (ZBE (ZzQ (ZEv (ZzV ?_))))))))));have best:argBest bt (j+1)=if bt (j+1) (argBest bt j)then j+1 else argBest bt j:=rfl
  cases hb:bt (j+1) (argBest bt j)with
  | true =>
   rw[hb,if_pos rfl]at best;simp only[if_true];refine ZzQ (ZEp gS1 rfl (ZzQ (ZEv ?_)));rw[Zj6];refine ZzV ⟨ZCb ZBr _,ih (j+1) _ v _ (by omega) (W.frame _ _ _ st1 λx hx o e=>?_) (by rw[best]; exact pv) (ZAZ _ gS1 rfl) λv' h2 tk2 p' keep2=>?_⟩
   ·exact(ZBp _ _ (λz:S=x=>hf (by rw[z]; exact hx))).trans e
   ·exact out v' h2 tk2 p' λx o hx hS e=>keep2 x o hx hS ((ZBp _ _ (ZA0 hS)).trans (keep x o hx e))
  | false=>rw[hb,if_neg (by simp)]at best;simp only[ZBO,if_false];refine ZzQ (ZEv ?_);rw[Zj6];exact ZzV ⟨ZCb ZBr _,ih (j+1) _ b ep (by omega) st1 (by rw[best]; exact pb) gS1 λv' h2 tk2 p' keep2=>out v' h2 tk2 p' λx o hx hS e=>keep2 x o hx hS (keep x o hx e)⟩
theorem Zvk(W:Walks prog w A.in1 I fp wr n P St)(bt:Nat->Nat->Bool)(hc:CmpOf prog w A.in1 .Lt P bt)(hf:S ∉ fp)(dv:Value){s:Shared}{ep:Nat}(st:St 0 s.heap)
  (gS:s.heap.get? S=some { cls:=.type "list",dict:=none,data:=.seq #[] ep,slots:=#[] })
  (o0:n=0->∀h' tk,(∀x o,x ∉ wr->x≠S->s.heap.get? x=some o->h'.get? x=some o)->R (.ok (.ret dv)) { s with heap:=h',toks:=tk })
  (o1:0<n->∀v h' tk,P (argBest bt (n-1)) v->(∀x o,x ∉ wr->x≠S->s.heap.get? x=some o->h'.get? x=some o)->R (.ok (.ret v)) { s with heap:=h',toks:=tk }) :
  codeAny (model prog w) A (.builtin "min.loop" (mdA I S dv)) R s:=by
 have hw:S ∉ wr:=λh=>hf (W.sub _ h);refine ZBj ZDg ?_;rw[ZA2 ZBr _];show wpAny _ A.in1 (seqItems? (.ref S) >>= _) _ _ s;refine ZzQ (ZC5 gS rfl ?_);show wpAny _ A.in1 (tryCatch (pyNext (.ref I)) _ >>= _) _ _ s
 by_cases h0:n=0
 ·subst h0
  refine ZzQ (ZC6 (W.done s _ _ st λh1 tk keep=>?_));show wpAny _ A.in1 (rule _ >>= _) _ _ _;exact ZzQ (ZD3 (ZzV (o0 rfl h1 tk λx o hx _ e=>keep x o hx e)))
 ·refine ZzQ (ZC6 (W.item 0 s _ _ (by omega) st λv h1 tk pv st1 keep=>?_))
  have gS1:=keep S _ hw gS;show wpAny _ A.in1 (updateSeq S (λ_=>#[v,v]) >>= _) _ _ _;refine ZzQ (ZEp gS1 rfl ?_);rw[Zj6];refine ZzV ⟨ZCb ZBr _,Zws W bt hc hf dv (n-1) 0 _ v _ (by omega) (W.frame _ _ _ st1 λx hx o e=>?_) pv (ZAZ _ gS1 rfl) λv' h2 tk2 p' keep2=>?_⟩
  ·exact(ZBp _ _ (λz:S=x=>hf (by rw[z]; exact hx))).trans e
  ·exact o1 (by omega) v' h2 tk2 p' λx o hx hS e=>keep2 x o hx hS ((ZBp _ _ (ZA0 hS)).trans (keep x o hx e))
end
end HP
namespace HP
open PySem PySem.Spec PyProof.Rows L2
variable{cs:List PyData}{K:ZzS}{st:Stmt}{x:Str}
variable[FX]
theorem Rep.fn_inv{F:Hp}{t:Nat}{v:V}(h:Rep K F (HM.fnD t cs) v):∃a,v=.ref a/\FX.fv t cs F a:=by
 cases h with
 | @dct a es kvs vvs h he hk hr =>
  cases kvs with
  | nil=>cases he
  | cons p r =>
   injection he with h1 _
   injection h1 with h2 _
   cases h2
 | fn h=>exact⟨_,rfl,h⟩
theorem Zut{d:PyData}{t:Nat}(h:HM.Zmi d=some (t,cs)):d=HM.fnD t cs:=by
 unfold HM.Zmi at h;split at h
 ·cases h; rfl
 ·cases h
structure GFn(mg:Str->Option Value)(x:Str)(t:Nat):Prop where
 ex:∃f,mg x=some (.ref f)/\∀F,FX.fv t [] F f
section
variable{X:Cx}{pos p:Pos}{e a b:Expr}{es:List Expr}{f:HM.AF}
theorem ZsD{t:Nat}(h:GFn X.mg x t)(hg:Gl X x:=by rfl)(hd:(x==("__debug__":Str))=false:=by decide):XE X (.Name x pos) (HM.eC (HM.fnD t [])):=by obtain⟨f,hm,hv⟩:=h.ex;exact ZeY (Zru hg hm (v:=.ref f) rfl hd) λF=>.fn (hv F)
structure Zen(P:Program)(w:World)(K:ZzS)(mg:Str->Option Value)(base:Heap)(k:Nat)(ap:HM.AP):Prop where
 fn:∀{t:Nat} {cs:List PyData} {F:Hp} {a:Addr},FX.fv t cs F a->∀{A:Around} {outer:List Env} {s:Shared} {H:Hp},Ze6 P w K mg base A outer s H->Zq F H->ZES a s.heap
 run:∀{t:Nat} {cs:List PyData} {F:Hp} {a:Addr},FX.fv t cs F a->∀{A:Around} {outer:List Env} {s:Shared} {H:Hp},Ze6 P w K mg base A outer s H->Zq F H ->
  ∀{us:List Value} {vs:List V} {ds:List PyData} {d:PyData} {Q:VK},Zav k A->Tb H->NoT F->Vals vs us->Zt K F ds vs->ap t cs ds=some d->(∀v F' H',Ext F H F' H'->Rep K F' d v->Q v H') ->
   codeAny (model P w) A (.call (.ref a) ⟨us,[]⟩) (CR CX0 outer P w H s Q E0) s
theorem Zen.mono{P:Program}{w:World}{K:ZzS}{mg:Str->Option Value}{base:Heap}{j k:Nat}{ap:HM.AP}(C:Zen P w K mg base j ap)(h:j<=k):Zen P w K mg base k ap :=
 ⟨C.fn,by intro t cs F a q A outer s H e z us vs ds d Q hr; exact C.run q e z (hr.mono h)⟩
theorem Zn3{k:Nat}{ap:HM.AP}(C:Zen X.prog X.w X.K X.mg X.base k ap)(hr:Zav k X.A)(i:Nat)(ha:XA X (e::es) f)(hN:X.N[i]?=some x:=by rfl)
  (hv:Vis X.env.scope x:=by first | exact ZAB rfl | exact ZAj (ZAB rfl) | exact ZAj (ZAj rfl)) (hd:(x==("__debug__":Str))=false:=by decide) (hcd:(x==("__classdict__":Str))=false:=by decide)
  (he:Zz6 (e::es) X.env=(false,eval e X.env)::Zz6 es X.env:=by rfl) (hpl:(backTo pos (Zz6 es X.env)).any (·.1)=false:=by rfl):XE X (.Call (.Name x p) (e::es) [] pos) (HM.ZgN ap i f):=by
 intro r d h;unfold HM.ZgN at h;split at h
 case h_2=>cases h
 rename_i d0 hs;split at h
 case h_2=>cases h
 rename_i t cs hu;split at h
 case h_2=>cases h
 rename_i ds hds;obtain rfl:=Zut hu;intro pins s σ H Q I ⟨F0,H0,F1,at_,kk⟩;obtain⟨v,h1,h2⟩:=at_.plain hs;obtain⟨q,rfl,fv⟩:=h2.fn_inv;refine ZB3 (thn (Zcg hN hv hd hcd pins s σ H (λv' H'=>v'=.ref q/\H'=H) I ⟨_,h1,rfl,rfl⟩) λu s1 ⟨v',H1,I1,r1,e1,e2⟩=>?_);subst e1 e2;obtain rfl:u=ZAL q:=r1;refine PySem.W.callWith_F (C.fn fv I1.env0 at_.sub) (thn (ha.pa r ds hds pos pins s1 σ H1 (λvs H2=>∃F2,Ext F1 H1 F2 H2/\Zt X.K F2 ds vs) I1 ⟨F0,H0,F1,at_,λvs F2 H2 x2 q2=>⟨F2,x2,q2⟩⟩) λus s2 ⟨vs,H2,I2,r2,F2,x2,q2⟩=>?_) he hpl;have fv2:=FX.mono fv x2.ff;refine⟨C.fn fv2 I2.env0 x2.sub,wpAny_call (ZB2 (C.run fv2 I2.env0 x2.sub hr (at_.tbx x2) (at_.ntx x2) r2 q2 h λv F' H' x3 q3=>kk v F' H' (x2.trans x3) q3) λrs s' hq=>?_)⟩;cases rs with
 | error e=>exact ZAY hq
 | ok fl =>
  cases fl with
  | ret u=>exact I2.after hq
  | next=>exact ZAY hq
  | brk=>exact ZAY hq
  | cont=>exact ZAY hq
def spN(K:ZzS)(n:Nat)(M:List PyData->Option (List (List Key × PyData))):Sp:=λvs H Q _=>∃F ds kvs,vs.length=n/\Zq F H/\Tb H/\NoT F/\Zt K F ds vs/\M ds=some kvs /\
 ∀l vvs F' H',Ext F H F' H'->H' l=some (.dT vvs)->kvs.map (·.1)=vvs.map (·.1)->Zt K F' (kvs.map (·.2)) (vvs.map (·.2))->F' l=none->H l=none->Q (.ref l) H'
structure Zes(P:Program)(w:World)(K:ZzS)(mg:Str->Option Value)(base:Heap)(k:Nat)(x:Str)(M:List PyData->Option (List (List Key × PyData))):Prop where
 ex:∃f fd ps,(∀ds d,M ds=some d->ds.length=ps.length)/\ZdG P w K mg base CX0 k f fd ps (spN K ps.length M)/\mg x=some (.ref f)/\ZBo K (.ref f)=true/\Binds K fd ps []
theorem Zes.mono{P:Program}{w:World}{K:ZzS}{mg:Str->Option Value}{base:Heap}{j k:Nat}{x:Str}{M:List PyData->Option (List (List Key × PyData))}(C:Zes P w K mg base j x M)(h:j<=k):Zes P w K mg base k x M:=by obtain⟨f,fd,ps,l,F,r⟩:=C.ex;exact⟨f,fd,ps,l,F.mono h,r⟩
theorem Zt.flat{K:ZzS}{F F':Hp}{ds:List PyData}{vs:List V}(r:Zt K F ds vs)(h:∀d∈ds,HM.ZlI d=true):Zt K F' ds vs :=
 ⟨r.1,λi d v h1 h2=>(r.2 i d v h1 h2).flat (h d (ZAo h1))⟩
theorem Zt8{k:Nat}{g:HM.AF}{M:List PyData->Option (List (List Key × PyData))}(C:Zes X.prog X.w X.K X.mg X.base k x M)(hr:Zav k X.A)(ha:XAL X (e::es) g)(hg:Gl X x:=by rfl)(hdb:(x==("__debug__":Str))=false:=by decide)
  (he:Zz6 (e::es) X.env=(false,eval e X.env)::Zz6 es X.env:=by rfl) (hpl:(backTo pos (Zz6 es X.env)).any (·.1)=false:=by rfl):XF X (.Call (.Name x p) (e::es) [] pos) (HM.ZjG M g):=by
 intro r d hd;unfold HM.ZjG at hd;split at hd
 case h_2=>cases hd
 rename_i ds hds;split at hd
 case h_2=>cases hd
 rename_i kvs hM;split at hd
 case isFalse=>cases hd
 rename_i hfl;cases hd;obtain⟨fa,fd,ps,hl,F,hm,hk,hb⟩:=C.ex;refine PE.imp (Zme (E:=E0) F hr hg hm hk hb .nil Zr0 (ha.pa r ds hds) hdb he hpl) λσ H Q ⟨F0,H0,F1,at_,kk⟩=>?_;refine⟨F0,H0,F1,at_,λvs F' H' x q=>?_⟩;show spN X.K ps.length M (vs++[]) H' Q E0;rw[ZAE];refine⟨ZcV H',ds,kvs,by rw[<-q.1]; exact hl ds _ hM,ZmM,at_.tbx x,.drop,q.drop',hM,λl vvs F2 H2 x2 h1 h2 h3 h4 h5=>?_⟩;refine kk _ F' H2 (x.trans (Ext.forget x.sub (at_.ntx x) x2)) ⟨[l],.ot h1 h2 (h3.flat λd hd=>?_),by simp,λc hc=>?_⟩
 ·obtain⟨q,h6,rfl⟩:=Zz1.mp hd
  exact ZzY.mp hfl q h6
 ·obtain rfl:c=l:=by simpa using hc
  exact⟨x.sub.free h5,x.hh.free h5⟩
def tSn(K:ZzS)(r:HM.Env)(kvs:List (List Key × PyData)):TS:=λE σ H=>Now K r σ H λF0 H0 F=>∀l vvs F' H',Ext F0 H0 F' H'->H' l=some (.dT vvs)->kvs.map (·.1)=vvs.map (·.1)->Zt K F' (kvs.map (·.2)) (vvs.map (·.2))->F' l=none->H0 l=none->E.rt (.ref l) H'
def XSn(X:Cx)(sts:List Stmt)(m:HM.NF):Prop:=∀r kvs,m r=some kvs->PSs X sts (tSn X.K r kvs)
theorem ZpK{rest:List Stmt}{g:HM.SF}{m:HM.NF}(h1:XS X st g)(h2:XSn X rest m):XSn X (st::rest) (HM.Zk3 g m):=by
 intro r kvs h;unfold HM.Zk3 at h;split at h
 ·rename_i r' q
  refine PSs.imp (Ziy (h1 r _ q) (h2 r' kvs h)) λE σ H ⟨F0,H0,F,at_,k⟩=>?_;exact⟨F0,H0,F,at_,λσ' F' H' at'=>⟨F0,H0,F',at',k⟩⟩
 ·cases h
theorem Zwi(j:Nat){p1:Pos}(hN:X.N[j]?=some x:=by rfl)(hv:Vis X.env.scope x:=by first | exact ZAB rfl | exact ZAj (ZAB rfl) | exact ZAj (ZAj rfl))(hd:(x==("__debug__":Str))=false:=by decide)
  (hcd:(x==("__classdict__":Str))=false:=by decide):XSn X [.Return (some (.Name x p)) p1] (HM.ZpA j):=by
 intro r kvs h;unfold HM.ZpA at h;split at h
 ·rename_i kvs' hs
  cases h;refine PSs.imp (Ziy (Zo9 (Zcg hN hv hd hcd)) Zhf) λE σ H ⟨F0,H0,F,⟨fp,at_⟩,k⟩=>?_;obtain⟨v,h1,h2⟩:=at_.at_ j _ hs;generalize hfp:fp j=fj at h2;cases h2 with
  | @ot l _ vvs hl hk q=>have ho:=at_.own j l (by rw[hfp]; simp);exact⟨_,h1,k l vvs F H at_.ext hl hk q ho.1 ho.2⟩
 ·cases h
theorem Zsh{P:Program}{w:World}{mg:Str->Option Value}{base:Heap}{k:Nat}{qual:Str}{f:Addr}{fd:FuncData}{N ps:List Str}{m:HM.NF}(Fn:Fun K x qual st f fd)(S:Zs N ps (Ze st))(hm:mg x=some (.ref f))(hb:Binds K fd ps [])
  (body:∀(cdv:Value) (A:Around) (outer:List Env) (s:Shared) (H:Hp) (E:XK),Zav k (A.deeper (envOfC qual (Ze st) s.heap.objs.size f cdv))->XSn (ZgF CX0 P w K mg base N qual (Ze st) f cdv A outer s H E).nox (Za7 st) m) :
  Zes P w K mg base (k+1) x (HM.newOf ps.length N.length m):=by
 have hpl:ps.length<=N.length:=by have:=congrArg ZAF S.pre; rw[ZBz]at this; omega
 refine⟨f,fd,ps,λds d h=>?_,Fn.ok S (λvs H Q E h=>?_) (λcdv A outer s H vs Q E hr h=>?_),hm,Fn.kp,hb⟩
 ·unfold HM.newOf at h
  split at h
  ·assumption
  ·cases h
 ·obtain⟨_,_,_,h,_⟩:=h
  exact h
 ·obtain⟨F,ds,kvs,hl,sub,tb,nt,q,hM,kk⟩:=h
  unfold HM.newOf at hM;split at hM
  ·rename_i hds
   exact⟨_,body cdv A outer s H E hr _ _ hM,F,H,F,ZgS (N:=N) sub tb nt q (by omega),λl vvs F' H' x h1 h2 h3 h4 h5=>kk l vvs F' H' x h1 h2 h3 h4 h5⟩
  ·cases hM
theorem Ztp(hc:X.calm=true){pins:List (Addr × Obj)}{s:Shared}{σ:L2.St}{H:Hp}{l:Addr}{ns:List Int}{Q:VK}(I:Inv X pins σ H s)(hq:SqL X.K H l (ns.map V.int))(q:Q (match ns.min? with | some i=>.int i | none=>.non) H) :
  wpAny (model X.prog X.w) X.A (call (.builtin "min") [.ref l] [(ZAX "default",.none)]) (EP X pins σ Q) X.xe s:=by
 obtain⟨its,rv,pl,hz⟩:=I.list hq;have hi:=Zeq rv;obtain⟨xs,e⟩:=hi.allInts.items;have hns:ns=xs.toList.map (·.1):=by rw[<-hi.numsOf,<-nums_intItems,<-e]
 have hl:=pl.isList;rw[e]at hl;refine PyProof.Rows.kmk_tree PySem.F.kind_min PySem.F.plain_min PySem.F.entry_min (Zwu _ _) ?_;refine ZzQ (ZDH (show Builtin.Builtins.bindParams "min" ["key","default"] 0 ⟨[],[(ZAX "default",.none)]⟩=pure [none,some .none] from rfl) ?_);refine ZzQ (ZzV ?_);refine ZzQ (iter_intList hl λs2 e2 st hfp hlI=>?_);subst e2;refine ZzQ (ZAO ?_);rw[Zj6];generalize hIT:s.heap.push { cls:=.type "list_iterator",data:=.fields #[.ref l,.int 0 0] }=h1 at st hfp;have z1:h1.objs.size=s.heap.objs.size+1:=by rw[<-hIT]; exact ZBZ ..
 have k1:∀b o,s.heap.get? b=some o->h1.get? b=some o:=λb o e=>by rw[<-hIT]; exact ZzW _ e
 have W:=Walks.list (prog:=X.prog) (w:=X.w) (A:=X.A.in1) (I.ok.hd hc) s.heap.objs.size l hlI (intItems xs);have hSf:h1.objs.size ∉ [s.heap.objs.size,l]:=λz=>ZBI _ (hfp _ z);have old:∀{h':Heap} {oS:Obj},(∀x o,x ∉ [s.heap.objs.size]->x≠h1.objs.size->(h1.push oS).get? x=some o->h'.get? x=some o)->∀b o,s.heap.get? b=some o->h'.get? b=some o:=λhk b o e=>by have hb:=Zz9 e;exact hk b o (λz=>by rw[Zz0.mp z]at hb; exact ZBI _ hb) (ZAf (by rw[z1]; exact ZCy hb)) (ZzW _ (k1 b o e))
 refine ZzV ⟨ZCb ZBr _,Zvk W (λi j=>decide (numAt xs i<numAt xs j)) (CmpOf.ints_lt (numAt xs) λ_ _=>intItems_at) hSf .none (W.frame _ _ _ st λb _ o e=>ZzW _ e) (ZAa _ rfl) (λh0 h' tk hk=>?_) λh0 v h' tk hP hk=>?_⟩
 ·have e0:ns=[]:=by
   rw[hns];have:xs.size=0:=by simpa [intItems]using h0
   rw[Array.eq_empty_of_size_eq_zero this]; rfl
  subst e0;exact⟨.non,H,I.kept (t':=tk) (old hk),rfl,q⟩
 ·have h0':0<xs.size:=by simpa [intItems]using h0
  have hP':(intItems xs)[argBest (λi j=>decide (numAt xs i<numAt xs j)) (xs.size-1)]?=some v:=by simpa [intItems]using hP
  obtain⟨t,rfl⟩:=intItems_at hP';obtain⟨g1,g2⟩:=argBest_lt (numAt xs) (xs.size-1);have hm:ns.min?=some (numAt xs (argBest (λi j=>decide (numAt xs i<numAt xs j)) (xs.size-1))):=by
   refine ZB9.mpr ⟨?_,λa ha=>?_⟩
   ·rw[hns,numAt_eq]; exact getD_mem (by rw[ZzP,ZAm]; omega)
   ·rw[hns]at ha
    obtain⟨j,hj,rfl⟩:=mem_getD ha;rw[ZzP,ZAm]at hj;rw[<-numAt_eq]; exact g2 j (by omega)
  rw[hm]at q;exact⟨.int _,H,I.kept (t':=tk) (old hk),⟨t,rfl⟩,q⟩
theorem Zq0{f:HM.BF}{kp p2:Pos}{j:Nat}(hm:X.mg "min" = none)(hc:X.calm=true)(ha:XB X a f)(hg:Gl X "min":=by rfl)(hs:Zz6 [a] X.env=[(false,eval a X.env)]:=by rfl)
  (he:backTo pos (Zz6 [a] X.env)=(false,eval a X.env)::backTo pos (Zz6 [] X.env):=by rfl) (hpl:(backTo pos (Zz6 [a] X.env)).any (·.1)=false:=by rfl) :
  XE X (.Call (.Name "min" p) [a] [⟨some "default",.Constant .none j p2,kp⟩] pos) (HM.Zf5 f):=by
 intro r d h;unfold HM.Zf5 at h;split at h
 case h_2=>cases h
 rename_i x hx;split at h
 case h_2=>cases h
 rename_i ds hds;split at h
 case h_2=>cases h
 rename_i ns hns;cases h;intro pins s σ H Q I ⟨F0,H0,F,at_,k⟩;refine ZB3 (ZhX I hg hm ZtZ ?_);refine callWith_kw (thn (ZfE ha hx hs pos pins s σ H (λvs H1=>∃v fp F1,vs=[v]/\Ext F H F1 H1/\Zag X.K F1 H1 x v fp) I ⟨F0,H0,F,at_,λv fp F' H' x1 r1=>⟨v,fp,F',rfl,x1,r1⟩⟩) λus s1 ⟨vs,H1,I1,rv,v,fp,F1,e1,x1,r1⟩=>?_) he hpl;subst e1;obtain⟨u,rfl,ru⟩:=vals1 rv;obtain⟨l,ws,rfl,hq,rs⟩:=Zek x1.sub r1 hds;obtain rfl:u=ZAL l:=ru;rw[ZcR hns rs]at hq;refine kws_cons (thn (Zs2 pins s1 σ H1 (λv' H'=>v'=.non/\H'=H1) I1 ⟨rfl,rfl⟩) λu2 s2 ⟨v',H2,I2,r2,e2,e3⟩=>?_);subst e2 e3;obtain rfl:u2=ZAQ:=r2;refine kws_nil ?_;refine Ztp hc I2 hq ?_;refine k _ F1 H2 x1 ?_;cases ns.min? with
 | none=>exact .non
 | some i=>exact .int i
end
end HP
namespace HP
open PySem PySem.Spec PyProof.Rows L2
variable{F:Hp}{K:ZzS}
abbrev FX0:FX where
 tl:=[]
 fv:=λ_ _ _ _=>False
 sw:=λ_ _ h=>h
 drop:=λh=>h
 mono:=λh _=>h
structure Clo(K:ZzS)(F:Hp)(p:Addr)(params:Arguments)(body:Expr)(scope:Scope)(names:List Str)(cs:List PyData):Prop where
 ex:∃(qual:Str) (pm ctv:Value) (c:Addr) (oc:Obj) (clos:List (Str × Addr)),
  F p=some (Zbu p (ZDx "<lambda>" qual params body scope clos pm c ctv))/\F c=some (Zbu c oc)/\Zmz oc qual /\
  (∀x y a,clos.lookup x=some a->clos.lookup y=some a->x=y)/\(∀y∈scope.names,y.2=.free->(clos.lookup y.1).isSome=true) /\
  (∀x a,clos.lookup x=some a->∃o v,F a=some (Zbu a o)/\o.data=.cell v) /\
  names.length=cs.length/\∀(i:Nat) (x:Str) (d:PyData),names[i]?=some x->cs[i]?=some d->∃a o u v,clos.lookup x=some a/\F a=some (Zbu a o)/\o.data=.cell (some u)/\RelV v u/\@Rep FX0 K F d v
section
variable{K:ZzS}{F F':Hp}{p:Addr}{params:Arguments}{body:Expr}{scope:Scope}{names:List Str}{cs:List PyData}
theorem Clo.mono(h:Clo K F p params body scope names cs)(s:Zq F F'):Clo K F' p params body scope names cs:=by
 obtain⟨qual,pm,ctv,c,oc,clos,h1,h2,h3,h4,h5,h6,h7,h8⟩:=h.ex;refine⟨qual,pm,ctv,c,oc,clos,s _ _ h1,s _ _ h2,h3,h4,h5,λx a e=>?_,h7,λi x d e1 e2=>?_⟩
 ·obtain⟨o,u,q1,q2⟩:=h6 x a e
  exact⟨o,u,s _ _ q1,q2⟩
 ·obtain⟨a,o,u,v,q1,q2,q3,q4,q5⟩:=h8 i x d e1 e2
  exact⟨a,o,u,v,q1,s _ _ q2,q3,q4,@Rep.mono FX0 _ _ _ _ _ q5 s⟩
theorem Clo.drop(h:Clo K F p params body scope names cs):Clo K (ZcV F) p params body scope names cs:=by
 obtain⟨qual,pm,ctv,c,oc,clos,h1,h2,h3,h4,h5,h6,h7,h8⟩:=h.ex;refine⟨qual,pm,ctv,c,oc,clos,Zcu h1 rfl,Zcu h2 rfl,h3,h4,h5,λx a e=>?_,h7,λi x d e1 e2=>?_⟩
 ·obtain⟨o,u,q1,q2⟩:=h6 x a e
  exact⟨o,u,Zcu q1 rfl,q2⟩
 ·obtain⟨a,o,u,v,q1,q2,q3,q4,q5⟩:=h8 i x d e1 e2
  exact⟨a,o,u,v,q1,Zcu q2 rfl,q3,q4,@Rep.drop FX0 _ _ _ _ q5⟩
theorem Clo.sw{a:Addr}{ob:HO}{vvs:List (List Key × V)}(hF:∀u,F a=some u->Dk vvs u)(hob:Dk vvs ob)(h:Clo K F p params body scope names cs):Clo K (HP.sw a ob F) p params body scope names cs:=by
 have key:∀{b:Addr} {o:Obj},F b=some (Zbu b o)->HP.sw a ob F b=some (Zbu b o):=λ{b o} e=>by
  have hb:b≠a:=λz=>by subst z;have:=@Dk.te FX0 _ _ (hF _ e);cases this
  unfold HP.sw; rw[if_neg hb]; exact e
 obtain⟨qual,pm,ctv,c,oc,clos,h1,h2,h3,h4,h5,h6,h7,h8⟩:=h.ex;refine⟨qual,pm,ctv,c,oc,clos,key h1,key h2,h3,h4,h5,λx a e=>?_,h7,λi x d e1 e2=>?_⟩
 ·obtain⟨o,u,q1,q2⟩:=h6 x a e
  exact⟨o,u,key q1,q2⟩
 ·obtain⟨a,o,u,v,q1,q2,q3,q4,q5⟩:=h8 i x d e1 e2
  exact⟨a,o,u,v,q1,key q2,q3,q4,@Rep.sw FX0 _ _ _ _ _ _ _ hF hob q5⟩
end
theorem Rep.up[FX]{d:PyData}{v:V}(r:@Rep FX0 K F d v):Rep K F d v:=by
 induction r with
 | non=>exact .non
 | bl b=>exact .bl b
 | int i=>exact .int i
 | str x=>exact .str x
 | tup h hl _ ih=>exact .tup h hl ih
 | tupk h=>exact .tupk h
 | lst h hl _ ih=>exact .lst h hl ih
 | dct h he hk _ ih=>exact .dct h he hk ih
 | fn h=>exact h.elim
theorem Rep.cutF[FX]{F':Hp}(hF:∀b o,F b=some o->te o=false->F' b=some o){d:PyData}{v:V}(r:Rep K F d v):∀n,HM.noF n d=true->@Rep FX0 K F' d v:=by
 induction r with
 | non=>intro _ _; exact @Rep.non FX0 _ _
 | bl b=>intro _ _; exact @Rep.bl FX0 _ _ b
 | int i=>intro _ _; exact @Rep.int FX0 _ _ i
 | str x=>intro _ _; exact @Rep.str FX0 _ _ x
 | tupk h=>intro _ _; exact @Rep.tupk FX0 _ _ _ _ h
 | tup h hl _ ih =>
  intro n hn;cases n with
  | zero=>cases hn
  | succ n=>exact @Rep.tup FX0 _ _ _ _ _ (hF _ _ h rfl) hl λi d v h1 h2=>ih i d v h1 h2 n (ZzY.mp hn d (ZAo h1))
 | lst h hl _ ih =>
  intro n hn;cases n with
  | zero=>cases hn
  | succ n =>
   refine @Rep.lst FX0 _ _ _ _ _ ?_ hl λi d v h1 h2=>ih i d v h1 h2 n (ZzY.mp hn d (ZAo h1));rcases h with(h | ⟨o,h⟩) | h
   ·exact .inl (.inl (hF _ _ h rfl))
   ·exact .inl (.inr ⟨o,hF _ _ h rfl⟩)
   ·exact .inr h
 | @dct a es kvs vvs h he hk _ ih =>
  intro n hn;cases n with
  | zero=>cases hn
  | succ n =>
   refine @Rep.dct FX0 _ _ _ _ kvs vvs ?_ he hk λi d v h1 h2=>ih i d v h1 h2 n ?_
   ·rcases h with h | ⟨o,h⟩
    ·exact .inl (hF _ _ h rfl)
    ·exact .inr ⟨o,hF _ _ h rfl⟩
   ·subst he
    rw[ZAk]at h1;obtain⟨q,h3,h4⟩:=ZzR.mp h1;subst h4;have hm:(ZAJ (q.1.map HM.ZaU),q.2)∈HM.Zn kvs:=Zz1.mpr ⟨q,ZAo h3,rfl⟩;have:=ZzY.mp hn _ hm;rw[ZAc]at this;exact this.2
 | fn h =>
  intro n hn;cases n with
  | zero=>cases hn
  | succ n=>have:=ZzY.mp hn _ (ZzT ..);cases this
end HP
namespace HP
open PySem PySem.Spec PyProof.Rows L2
variable{a b:Addr}{G H:Hp}{C:List Addr}{o:Obj}
theorem Rep0.cut{K:ZzS}{F F':Hp}(hF:∀b o,F b=some o->te o=false->F' b=some o){d:PyData}{v:V}(r:@Rep FX0 K F d v):@Rep FX0 K F' d v:=by
 induction r with
 | non=>exact @Rep.non FX0 _ _
 | bl b=>exact @Rep.bl FX0 _ _ b
 | int i=>exact @Rep.int FX0 _ _ i
 | str x=>exact @Rep.str FX0 _ _ x
 | tupk h=>exact @Rep.tupk FX0 _ _ _ _ h
 | tup h hl _ ih=>exact @Rep.tup FX0 _ _ _ _ _ (hF _ _ h rfl) hl ih
 | lst h hl _ ih =>
  refine @Rep.lst FX0 _ _ _ _ _ ?_ hl ih;rcases h with(h | ⟨o,h⟩) | h
  ·exact .inl (.inl (hF _ _ h rfl))
  ·exact .inl (.inr ⟨o,hF _ _ h rfl⟩)
  ·exact .inr h
 | @dct a es kvs vvs h he hk _ ih =>
  refine @Rep.dct FX0 _ _ _ _ kvs vvs ?_ he hk ih;rcases h with h | ⟨o,h⟩
  ·exact .inl (hF _ _ h rfl)
  ·exact .inr ⟨o,hF _ _ h rfl⟩
 | fn h=>exact h.elim
def Zbi(C:List Addr)(H:Hp):Hp:=λb=>if b∈C then none else H b
theorem ZhS(h:b∈C):Zbi C H b=none:=by unfold Zbi; rw[if_pos h]
theorem Zau(h:b ∉ C):Zbi C H b=H b:=by unfold Zbi; rw[if_neg h]
theorem Ziq{o:HO}(h:Zbi C H b=some o):b ∉ C/\H b=some o:=by
 unfold Zbi at h;split at h
 ·cases h
 ·exact⟨by assumption,h⟩
def ZhJ(C:List Addr)(G H:Hp):Hp:=λb=>if b∈C then G b else H b
theorem Zff(h:b∈C):ZhJ C G H b=G b:=by unfold ZhJ; rw[if_pos h]
theorem Zbw(h:b ∉ C):ZhJ C G H b=H b:=by unfold ZhJ; rw[if_neg h]
section
variable{P:Program}{w:World}{C:List Addr}{G H H':Hp}{h h':Heap}
theorem Zct(x:Zac P w H h a (Zbu a o)):h.get? a=some o:=x.1
theorem Zka(e:h.get? a=some o):Zac P w H h a (Zbu a o):=⟨e,⟨o,e⟩,λh1 h2 q k=>k o q⟩
theorem HOk.cut(x:HOk P w H h)(hC:∀c∈C,∀o,H c=some o->te o=true):HOk P w (Zbi C H) h:=λa o e=>by
 obtain⟨_,e⟩:=Ziq e;have out:∀{b:Addr} {u:HO},H b=some u->te u=false->Zbi C H b=some u:=λ{b u} q t=>by rw[Zau λz=>by rw[hC b z u q]at t; cases t]; exact q
 exact(x a o e).stay (λ_ _ _ q=>q) (λb q=>out q rfl) λb xs q=>out q rfl
theorem HOk.put(x:HOk P w H h)(hn:∀c∈C,H c=none)(hC:∀c∈C,∀u,G c=some u->∃o,u=Zbu c o/\h.get? c=some o):HOk P w (ZhJ C G H) h:=λa o e=>by
 have out:∀{b:Addr} {u:HO},H b=some u->ZhJ C G H b=some u:=λ{b u} q=>by rw[Zbw λz=>by rw[hn b z]at q; cases q]; exact q
 by_cases ha:a∈C
 ·rw[Zff ha]at e
  obtain⟨ob,rfl,hb⟩:=hC a ha o e;exact Zka hb
 ·rw[Zbw ha]at e
  exact(x a o e).stay (λ_ _ _ q=>q) (λb q=>out q) λb xs q=>out q
end
structure Zim(scope:Scope)(x:Str)(names:List Str):Prop where
 kind:scope.kind=.function
 co:scope.isCoroutine=false
 gen:scope.isGenerator=false
 nocell:∀y∈scope.names,y.2≠.cell
 par:scope.names.lookup x=some .local
 free:∀n∈names,scope.names.lookup n=some .free
 nd:(x::names).Nodup
def ZlX(P:Program)(w:World)(K:ZzS)(mg:Str->Option Value)(base:Heap)(N:List Str)(qual:Str)(scope:Scope)(f:Addr)(cd:Value)(clos:List (Str × Addr))(A:Around)(outer:List Env)(s:Shared)(H:Hp):Cx where
 prog:=P
 w:=w
 K:=K
 mg:=mg
 base:=base
 A:=A.deeper (ZCD qual scope s.heap.objs.size f cd clos)
 N:=N
 s₀:=s
 H₀:=H
 env:=ZCD qual scope s.heap.objs.size f cd clos
 outer:=outer
 stack:=ZCD qual scope s.heap.objs.size f cd clos::outer
 ex:=[]
 calm:=true
 fn:=λ_=>false
 pn:=[]
 xe:=λ_ _=>False
section
variable{P:Program}{w:World}{K:ZzS}{mg:Str->Option Value}{base:Heap}{A:Around}{outer:List Env}{s:Shared}{H:Hp}{k:Nat}
theorem Ztk{qual x:Str}{scope:Scope}{names:List Str}{f:Addr}{cd:Value}{clos:List (Str × Addr)}(S:Zim scope x names)(hd:A.handled=none)(e0:Ze6 P w K mg base A outer s H)
  (inj:∀y z a,clos.lookup y=some a->clos.lookup z=some a->y=z) (has:∀y∈scope.names,y.2=.free->(clos.lookup y.1).isSome=true)
  (hcell:∀y a,clos.lookup y=some a->H a=none/\∃o v,s.heap.get? a=some o/\o.data=.cell v)
  {v:V} {u:Value} (rv:RelV v u) {vs:List V} (hlen:names.length=vs.length) (hcap:∀(i:Nat) (y:Str) (v':V),names[i]?=some y->vs[i]?=some v'->∃a o u',clos.lookup y=some a/\s.heap.get? a=some o/\o.data=.cell (some u')/\RelV v' u')
  {h':Heap} {tk:Nat} (hns:h'.Ns s.heap.objs.size λy=>[(x,u)].reverse.lookup y) (hsb:ZBG s.heap.objs.size (s.heap.push { cls:=.type "frame",data:=.dict #[] }) h') :
  Inv (ZlX P w K mg base (x::names) qual scope f cd clos A outer s H) [] (some v::vs.map some) H { s with heap:=h',toks:=tk }:=by
 have hk:∀b o,s.heap.get? b=some o->h'.get? b=some o:=λb o e=>hsb.extBut b o (ZAf (Zz9 e)) (ZzW _ e);have noA:∀b:Addr,b ∉ (ZlX P w K mg base (x::names) qual scope f cd clos A outer s H).ex:=λb z=>absurd (show b∈([]:List Addr) from z) (by simp);refine⟨⟨e0.mod,S.kind,rfl,rfl,Zz3 _,inj,λy hy=>?_,λy c z=>absurd (show false=true from z) (by simp),λ_=>hd,ZEG e0.frames,.inr ⟨rfl,rfl⟩,λb z=>absurd z (noA b),e0.bs,e0.bsz,λb _ _=>noA b,λb z=>absurd z (noA b),e0.funs,e0.frf⟩,
  rfl,e0.bare,Un.kept hk,⟨_,hns,λi y v' h1 h2 h3=>?_⟩,λy c e=>?_,e0.hok.fresh (Zz3 _),λy c e=>(hcell y c e).1,λp hp=>absurd (show p∈([]:List (Addr × Obj)) from hp) (by simp),e0.hok.kept hk,?_⟩
 ·have hy:scope.names.lookup y=some .cell\/scope.names.lookup y=some .free:=hy
  rcases hy with hy | hy
  ·exact absurd rfl (S.nocell _ (ZBu hy))
  ·exact ZAt.mp (has _ (ZBu hy) rfl)
 ·cases i with
  | zero=>have e1:x=y:=ZAz h1;have e2:v=v':=ZAz (ZAz h2);subst e1 e2;exact⟨u,rv,.inl ⟨S.par,by simp⟩⟩
  | succ i=>have h1:names[i]?=some y:=h1;have h2:(vs.map some)[i]?=some (some v'):=h2;rw[ZAk]at h2;obtain⟨v2,h4,h5⟩:=ZzR.mp h2;cases h5;obtain⟨a,o,u',q1,q2,q3,q4⟩:=hcap i y v' h1 h4;exact⟨u',q4,.inr ⟨.inr (S.free y (ZAo h1)),a,q1,o,hk _ _ q2,q3⟩⟩
 ·obtain⟨_,o,v',q1,q2⟩:=hcell y c e
  exact⟨v',o,hk _ _ q1,q2⟩
 ·show(some v::vs.map some).length=(x::names).length
  rw[Zz8,Zz8,ZzP,hlen]
end
end HP
namespace HP
open PySem PySem.Spec PyProof.Rows L2
variable[FX]
def cellsOf(clos:List (Str × Addr)):List Addr:=clos.filterMap λq=>clos.lookup q.1
theorem Zm9{clos:List (Str × Addr)}{a:Addr}:a∈cellsOf clos↔∃y,clos.lookup y=some a:=by unfold cellsOf;rw[ZAD];exact⟨λ⟨q,_,h⟩=>⟨q.1,h⟩,λ⟨y,h⟩=>⟨(y,a),ZBu h,h⟩⟩
theorem Tb.cut{P:Program}{w:World}{C:List Addr}{H:Hp}{h:Heap}(t:Tb H)(x:HOk P w H h)(hC:∀c∈C,∃o v,H c=some (Zbu c o)/\o.data=.cell v):Tb (Zbi C H):=λT q hT=>by
 obtain⟨ps,h1,h2,h3⟩:=t T q hT;refine⟨ps,?_,h2,λpos c hc=>?_⟩
 ·rw[Zau λz=>by
   obtain⟨o,v,e,_⟩:=hC T z;rw[h1]at e; cases e]
  exact h1
 ·obtain⟨a,o,e1,e2,e3⟩:=h3 pos c hc
  refine⟨a,o,e1,?_,e3⟩;rw[Zau λz=>by obtain⟨o',v,f1,f2⟩:=hC a z;have g1:=Zct (x a _ e2);have g2:=Zct (x a _ f1);rw[g1]at g2;cases g2;obtain⟨vs,tt,d1,_⟩:=e3;rw[d1]at f2; cases f2];exact e2
section
variable{P:Program}{w:World}{K:ZzS}{mg:Str->Option Value}{base:Heap}{k:Nat}
theorem Zq7{params:Arguments}{body:Expr}{scope:Scope}{x:Str}{names:List Str}{g:HM.EF}(S:Zim scope x names)
  (hbind:∀(qual:Str) (clos:List (Str × Addr)) (pm cd ctv u:Value),bindArgs (PySem.W.kla_fn "<lambda>" qual params body scope clos pm cd ctv) ⟨[u],[]⟩=pure [(x,u)])
  (hbody:∀(qual:Str) (f:Addr) (cd:Value) (clos:List (Str × Addr)) (A:Around) (outer:List Env) (s:Shared) (H:Hp),Zav k (A.deeper (ZCD qual scope s.heap.objs.size f cd clos))->XE (ZlX P w K mg base (x::names) qual scope f cd clos A outer s H) body g)
  {A:Around} {outer:List Env} {s:Shared} {F H:Hp} {p:Addr} {cs:List PyData} (C:Clo K F p params body scope names cs) (e0:Ze6 P w K mg base A outer s H) (sub:Zq F H) (hr:Zav (k+1) A) (tb:Tb H) (nt:NoT F)
  {us:List Value} {vs:List V} {ds:List PyData} {d:PyData} {Q:VK} (rv:Vals vs us) (rs:Zt K F ds vs) (hap:HM.Zhe 1 names.length g cs ds=some d) (kk:∀v F' H',Ext F H F' H'->Rep K F' d v->Q v H') :
  codeAny (model P w) A (.call (.ref p) ⟨us,[]⟩) (CR CX0 outer P w H s Q E0) s:=by
 unfold HM.Zhe at hap;split at hap
 case isFalse=>cases hap
 rename_i hc;obtain⟨hl1,hl2,hnf⟩:=hc;obtain⟨d0,rfl⟩:=List.length_eq_one_iff.mp hl1;obtain⟨v0,vs',rfl,r0,rs'⟩:=rs.cons_inv;obtain rfl:=rs'.nil_inv;obtain⟨u0,rfl,ru0⟩:=vals1 rv;have hnf0:HM.noF 20 d0=true:=by rw[ZAV,ZAc]at hnf; exact hnf.1
 obtain⟨qual,pm,ctv,c,oc,clos,h1,h2,h3,h4,h5,h6,h7,h8⟩:=C.ex;generalize hCs:cellsOf clos=Cs;have hCm:∀a,a∈Cs↔∃y,clos.lookup y=some a:=λa=>by rw[<-hCs]; exact Zm9
 have hCo:∀a∈Cs,∃o v,F a=some (Zbu a o)/\o.data=.cell v/\s.heap.get? a=some o:=λa ha=>by obtain⟨y,e⟩:=(hCm a).mp ha;obtain⟨o,v,q1,q2⟩:=h6 y a e;exact⟨o,v,q1,q2,Zct (e0.hok a _ (sub _ _ q1))⟩
 have hCt:∀a∈Cs,∀o,H a=some o->te o=true:=λa ha o e=>by obtain⟨ob,v,q1,_,_⟩:=hCo a ha;rw[sub _ _ q1]at e; cases e; rfl
 have hCn:∀a∈Cs,H a≠none:=λa ha z=>by obtain⟨ob,v,q1,_,_⟩:=hCo a ha;rw[sub _ _ q1]at z; cases z
 have none1:∀b,H b=none->Zbi Cs H b=none:=λb e=>by
  by_cases hb:b∈Cs
  ·exact ZhS hb
  ·rw[Zau hb]; exact e
 have e1:Ze6 P w K mg base A outer s (Zbi Cs H):=⟨e0.frames,e0.mod,λb o e=>⟨(e0.bs b o e).1,none1 b (e0.bs b o e).2⟩,e0.bsz,e0.funs,λb hb=>none1 b (e0.frf b hb),HOk.cut e0.hok hCt,e0.bare⟩;have KX:K.In s.heap:=e0.mod.kin.keeps λb o e=>(e0.bs b o e).1;have lim:s.heap.NoLimit:=e0.mod.nolimit.keeps λb o e=>(e0.bs b o e).1;have hcd:s.heap.CodeRec (.ref c) qual:=by obtain⟨vs,t,d1,d2⟩:=h3;exact⟨c,oc,vs,t,rfl,Zct (e0.hok c _ (sub _ _ h2)),d1,d2⟩
 refine PySem.W.kla_callFunE hr.depth (Zct (e0.hok p _ (sub _ _ h1))) rfl S.co S.gen rfl hcd ?_;rw[hbind];refine ZzV (ZDv S.nocell (λy hy=>by rw[Zz0.mp hy]; exact S.par) (λh' hns hsb=>⟨lim.fresh _ hsb,?_⟩) S.kind);show codeAny _ _ (.expr body (ZCD qual scope s.heap.objs.size p (.ref c) clos)) _ _;have hvs:∃wv:List V,names.length=wv.length/\(∀(i:Nat) (y:Str) (v':V),names[i]?=some y->wv[i]?=some v'->∃a o u',clos.lookup y=some a/\s.heap.get? a=some o/\o.data=.cell (some u')/\RelV v' u')/\Zt K (Zbi Cs F) cs wv:=by
  have step:∀n,n<=cs.length->∃wv:List V,wv.length=n/\∀(i:Nat) (y:Str) (d:PyData) (v':V),names[i]?=some y->cs[i]?=some d->wv[i]?=some v'->(∃a o u',clos.lookup y=some a/\s.heap.get? a=some o/\o.data=.cell (some u')/\RelV v' u')/\Rep K (Zbi Cs F) d v':=by
   intro n
   induction n with
   | zero=>exact λ_=>⟨[],rfl,λi y d v' _ _ h=>by simp at h⟩
   | succ n ih =>
    intro hn;obtain⟨wv,l1,l2⟩:=ih (by omega);have hy:n<names.length:=by omega
    have hd:n<cs.length:=by omega
    obtain⟨a,o,u',v',q1,q2,q3,q4,q5⟩:=h8 n names[n] cs[n] (Zz2 hy) (Zz2 hd);refine⟨wv++[v'],by rw[ZAb,l1]; rfl,λi y d v2 g1 g2 g3=>?_⟩
    by_cases hi:i<n
    ·rw[ZAw (by omega)]at g3
     exact l2 i y d v2 g1 g2 g3
    ·have hin:i=n:=by
      have:=(Zz5.mp g3).1;rw[ZAb,l1]at this;have:i<n+1:=this;omega
     subst hin;rw[ZAG (by omega),l1,Nat.sub_self]at g3;rw[Zz2 hy]at g1;rw[Zz2 hd]at g2;cases g1; cases g2; cases g3;refine⟨⟨a,o,u',q1,Zct (e0.hok a _ (sub _ _ q2)),q3,q4⟩,?_⟩;refine(Rep0.cut (λb ob z t=>?_) q5).up;rw[Zau λhb=>by obtain⟨ob',v,w1,_,_⟩:=hCo b hb;rw[w1]at z; cases z; cases t];exact z
  obtain⟨wv,l1,l2⟩:=step cs.length (Zz3 _);refine⟨wv,by omega,λi y v' g1 g3=>?_,by omega,λi d v' g2 g3=>?_⟩
  ·have hi:=(Zz5.mp g3).1
   exact(l2 i y cs[i] v' g1 (Zz2 (by omega)) g3).1
  ·have hi:=(Zz5.mp g3).1
   exact(l2 i names[i] d v' (Zz2 (by omega)) g2 g3).2
 obtain⟨wv,wl,wc,wr⟩:=hvs;have cutF:∀b o,F b=some o->te o=false->Zbi Cs F b=some o:=λb ob z t=>by rw[Zau λhb=>by obtain⟨ob',v,w1,_,_⟩:=hCo b hb;rw[w1]at z; cases z; cases t];exact z
 have r0':Rep K (Zbi Cs F) d0 v0:=(Rep.cutF cutF r0 20 hnf0).up;have sub1:Zq (Zbi Cs F) (Zbi Cs H):=λb o e=>by obtain⟨hb,e⟩:=Ziq e;rw[Zau hb]; exact sub _ _ e
 have nt1:NoT (Zbi Cs F):=λb o e=>nt b o (Ziq e).2;have tb1:Tb (Zbi Cs H):=tb.cut e0.hok λa ha=>by obtain⟨o,v,q1,q2,_⟩:=hCo a ha;exact⟨o,v,sub _ _ q1,q2⟩
 have I:=Ztk (qual:=qual) (f:=p) (cd:=.ref c) (tk:=s.toks+1) S hr.hd e1 h4 h5 (λy a e=>by obtain⟨o,v,q1,q2,q3⟩:=hCo a ((hCm a).mpr ⟨y,e⟩);exact⟨ZhS ((hCm a).mpr ⟨y,e⟩),o,v,q3,q2⟩) ru0 wl wc hns hsb;have a0:At K (Zbi Cs F) (Zbi Cs H) (Zbi Cs F) (Zbi Cs H) ((d0::cs).map λd=>some (HM.B.pl d)) (some v0::wv.map some):=by
  have:=ZgS (N:=x::names) sub1 tb1 nt1 (Zt.cons r0' wr) (by rw[Zz8,Zz8]; omega);have e3:HM.ZeQ (x::names).length (d0::cs)=(d0::cs).map λd=>some (HM.B.pl d):=by unfold HM.ZeQ;rw[Zz8,Zz8,show names.length+1-(cs.length+1)=0 by omega];exact ZAE _
  have e4:L2.start (x::names) (v0::wv)=some v0::wv.map some:=by unfold L2.start;rw[Zz8,Zz8,show names.length+1-(wv.length+1)=0 by omega];exact ZAE _
  rw[e3,e4]at this;exact this
 refine PySem.W.kla_codeExpr (ZBg (hbody qual p (.ref c) clos A outer s (Zbi Cs H) (hr.deeper _) _ _ hap [] _ _ _ (λv' H'=>∃F',Ext (Zbi Cs F) (Zbi Cs H) F' H'/\Rep K F' d v') I ⟨_,_,_,a0,λv' F' H' x' q'=>⟨F',x',q'⟩⟩) (λu' s' hq=>?_) λe s' hq=>ZAY hq);obtain⟨v',H',I',ru',F',x',q'⟩:=hq;have un:Un (frs outer) [] (Zbi Cs H) H' s.heap s'.heap:=I'.base;have nfs:∀a∈Cs,a ∉ frs outer:=λa ha hb=>hCn a ha (e0.frf a hb);have kc:∀a∈Cs,∃o,H a=some (Zbu a o)/\F a=some (Zbu a o)/\s'.heap.get? a=some o/\H' a=none:=λa ha=>by obtain⟨o,v,q1,q2,q3⟩:=hCo a ha;exact⟨o,sub _ _ q1,q1,un.keep a o q3 (ZhS ha) (nfs a ha) (by simp),un.free a o q3 (ZhS ha) (by simp)⟩
 have out:∀{b:Addr} {o:HO},H b=some o->te o=false->b ∉ Cs:=λ{b o} e t hb=>by rw[hCt b hb o e]at t; cases t
 have outN:∀{b:Addr},H b=none->b ∉ Cs:=λ{b} e hb=>hCn b hb e;have outT:∀{b:Addr} {ps:Array Value},H b=some (.tbl ps)->b ∉ Cs:=λ{b ps} e hb=>by obtain⟨o,q,_⟩:=kc b hb;rw[e]at q; cases q
 refine⟨v',ZhJ Cs H H',I'.os,I'.bare,⟨λb o e n hb hx=>?_,λb o e n hb hx=>?_,λb o e n hx=>?_,un.there,λb xs e=>?_,λb o u e=>?_,λb ps e=>?_⟩,HOk.put I'.hok (λa ha=>by obtain⟨_,_,_,_,q⟩:=kc a ha; exact q) (λa ha u e=>?_),ru',kk v' (ZhJ Cs F F') (ZhJ Cs H H') ⟨λb o e=>?_,λb o e=>?_,λb o e=>?_,λb o e=>?_,λt=>?_,λn b o e=>?_⟩ (q'.mono λb o e=>?_)⟩
 ·exact un.keep b o e (none1 b n) hb hx
 ·exact un.slot b o e (none1 b n) hb hx
 ·rw[Zbw (outN n)]; exact un.free b o e (none1 b n) hx
 ·have hb:=out e rfl
  rw[Zbw hb]; exact un.tups b xs (by rw[Zau hb]; exact e)
 ·have hb:=out e rfl
  rw[Zbw hb]; exact un.frzs b o u (by rw[Zau hb]; exact e)
 ·have hb:=outT e
  rw[Zbw hb]; exact un.tbls b ps (by rw[Zau hb]; exact e)
 ·obtain⟨o,q1,_,q3,_⟩:=kc a ha
  rw[q1]at e; cases e;exact⟨o,rfl,q3⟩
 ·by_cases hb:b∈Cs
  ·rw[Zff hb]; exact e
  ·rw[Zbw hb]; exact x'.ff b o (by rw[Zau hb]; exact e)
 ·by_cases hb:b∈Cs
  ·exact .of (by rw[Zff hb]; exact e)
  ·exact(x'.hh b o (by rw[Zau hb]; exact e)).cong (Zbw hb)
 ·by_cases hb:b∈Cs
  ·rw[Zff hb]at e ⊢; exact sub _ _ e
  ·rw[Zbw hb]at e ⊢; exact x'.sub _ _ e
 ·by_cases hb:b∈Cs
  ·rw[Zff hb]at e; exact .inl e
  ·rw[Zbw hb]at e
   rcases x'.new b o e with q | q
   ·exact .inl (Ziq q).2
   ·refine .inr ?_
    unfold Fre at q ⊢;rw[Zau hb]at q;exact q
 ·exact(x'.tab tb1).keep λa o e _=>by rw[Zbw λhb=>by obtain⟨_,_,_,_,q⟩:=kc a hb;rw[e]at q; cases q];exact e
 ·by_cases hb:b∈Cs
  ·rw[Zff hb]at e; exact n b o e
  ·rw[Zbw hb]at e; exact x'.nts nt1 b o e
 ·rw[Zbw λhb=>by
   obtain⟨_,_,_,_,q⟩:=kc b hb;rw[x'.sub _ _ e]at q; cases q]
  exact e
end
end HP
namespace HP
open PySem PySem.Spec PyProof.Rows L2
variable{b:Addr}{o:HO}{F H:Hp}
variable[FX]
theorem ZrR{a b:Int}{cv:Value}(l:List Value)(h:TriplesOk l):∀(pos:Pos) (c:Value),ZDI pos (l++[rawInt a,rawInt b,cv])=some c->ZDI pos l=some c\/c=cv:=by
 fun_induction TriplesOk l with
 | case1 =>
  intro pos c e;simp only[ZCQ,ZDI,rawInt]at e;split at e
  ·cases e; exact .inr rfl
  ·cases e
 | case2 x t y u z rest ih =>
  intro pos c e;simp only[ZEd,ZDI]at e ⊢;split at e
  ·rename_i hq
   rw[if_pos hq];exact .inl e
  ·rename_i hq
   rw[if_neg hq];exact ih h pos c e
 | case3=>exact h.elim
def BMod(base:Heap)(mg:Str->Option Value):Prop:=∃bm o,mg "__builtins__" = some (.ref bm)/\bm≠ZD1/\bm≠ZAy/\base.get? bm=some o/\o.cls=.type "module"/\o.dict=some ZD1/\o.data=.plain
structure ZrX(X:Cx)(t:Nat)(params:Arguments)(body:Expr)(scope:Scope)(names:List Str)(is:List Nat):Prop where
 code:∃c P,X.env.code=.ref c/\ZBm X.K c P=true/\(P,X.env.qual ++ "<lambda>")∈FX.tl/\∀q,(P,q)∈FX.tl->q=X.env.qual ++ "<lambda>"
 bm:BMod X.base X.mg
 dflt:defaultsOf params X.env=([],[])
 len:is.length=names.length
 at_:∀(j i:Nat) (x:Str),is[j]?=some i->names[j]?=some x->X.N[i]?=some x/\X.env.scope.names.lookup x=some .cell
 cells:∀y∈scope.names,y.2=.free->X.env.scope.names.lookup y.1=some .cell
 free:∀x∈names,(x,ZCa)∈scope.names
 own:∀x,X.fn x=true
 good:∀F p cs,Clo X.K F p params body scope names cs->FX.fv t cs F p
section
variable{X:Cx}{t:Nat}{params:Arguments}{body:Expr}{scope:Scope}{names:List Str}{is:List Nat}{pos lpos p:Pos}
structure Made(X:Cx)(params:Arguments)(body:Expr)(scope:Scope)(H H':Hp)(q:Addr)(clos:List (Str × Addr)):Prop where
 ex:∃(pm ctv:Value) (c:Addr) (oc:Obj),H' q=some (Zbu q (ZDx "<lambda>" (X.env.qual ++ "<lambda>") params body scope clos pm c ctv))/\H' c=some (Zbu c oc)/\Zmz oc (X.env.qual ++ "<lambda>")
 hh:ZaM H H'
 tb:Tb H'
theorem Zvl(L:ZrX X t params body scope names is){pins:List (Addr × Obj)}{s:Shared}{σ:L2.St}(I:Inv X pins σ H s)(tb:Tb H){clos:List (Str × Addr)}(hcl:closureFor scope X.env=pure clos) :
  wpAny (model X.prog X.w) X.A (eval (.Lambda params body scope lpos) X.env) (λu s'=>∃q H',u=.ref q/\Inv X pins σ H' s'/\Made X params body scope H H' q clos) X.xe s:=by
 obtain⟨c,P,hc,hh,hm,hu⟩:=L.code;obtain⟨ps,hP,ht,hg⟩:=tb P _ hm;have gP:s.heap.get? P=some (ZCE ps):=I.hok P _ hP;have Ns:=I.mod.glob.keeps I.bk;have CH:PySem.W.CodeHd s.heap c P:=ZEN I.kIn hh;obtain⟨bm,ob,b1,b2,b3,b4,b5,b6,b7⟩:=L.bm;have gb:=I.bk _ _ b4;have hbP:bm≠P:=λz=>by rw[z,gP]at gb; cases gb; cases b5
 have hgP:ZAy≠P:=λz=>by obtain⟨o,es,ep,e,hd,_⟩:=Ns;rw[z,gP]at e; cases e; cases hd
 have BA:s.heap.BuiltinsAt X.mg P:=⟨bm,ob,b1,b2,b3,hbP,gb,b5,b6,b7⟩;refine PySem.W.kla_eval L.dflt ?_;cases hq:ZDI lpos ps.toList with
 | some cv =>
  obtain⟨a,oc,rfl,h1,h2⟩:=hg lpos cv hq;refine PySem.W.kla_makeFunctionHit hcl I.ok.glob Ns hc CH gP ht hq BA λctv h' tk hk hz=>?_;generalize hob:ZDx "<lambda>" (X.env.qual ++ "<lambda>") params body scope clos ((X.mg "__name__").getD .none) a ctv=fo;have hn:H h'.objs.size=none:=I.hok.fresh hz;have hk2:∀b o,s.heap.get? b=some o->(h'.push fo).get? b=some o:=λb o e=>ZzW _ (hk b o e);have gq:(h'.push fo).get? h'.objs.size=some fo:=by rw[<-hob]; exact ZAa _ rfl
  refine⟨h'.objs.size,upd H h'.objs.size (Zbu h'.objs.size fo),rfl,?_,⟨_,ctv,a,oc,by rw[ZF,<-hob],?_,h2⟩,.of (ZkU hn),tb.same (ZkU hn)⟩
  ·subst hob
   exact I.laid (t':=tk) hk2 hz (Zka gq)
  ·rw[ZB (ZaF h1 hn)]; exact h1
 | none =>
  refine PySem.W.kla_makeFunction hcl I.ok.glob Ns hc CH gP ht hq hgP BA λc' ctv h' tk hx hge hlt hrec htab=>?_;generalize hob:ZDx "<lambda>" (X.env.qual ++ "<lambda>") params body scope clos ((X.mg "__name__").getD .none) c' ctv=fo;generalize hps:ps++#[rawInt lpos.line,rawInt lpos.col,ZAL c']=ps2 at htab;obtain⟨c2,oc,vs,tq,e2,goc,d1,d2⟩:=hrec;cases e2;have hcn:H c'=none:=I.hok.fresh hge;have hqn:H h'.objs.size=none:=I.hok.fresh (ZAR hge (ZBP hlt));have hcq:c'≠h'.objs.size:=ZAf hlt;have hcP:c'≠P:=λz=>by rw[z,hP]at hcn; cases hcn
  have hqP:h'.objs.size≠P:=λz=>by rw[z,hP]at hqn; cases hqn
  have gq:(h'.push fo).get? h'.objs.size=some fo:=by rw[<-hob]; exact ZAa _ rfl
  have gc:(h'.push fo).get? c'=some oc:=ZzW _ goc;have gP2:(h'.push fo).get? P=some (ZCE ps2):=ZzW _ htab;have hk2:∀b o,b≠P->s.heap.get? b=some o->(h'.push fo).get? b=some o:=λb o hb e=>ZzW _ (hx b o hb e);generalize hH':upd (upd (upd H P (.tbl ps2)) c' (Zbu c' oc)) h'.objs.size (Zbu h'.objs.size fo)=H';have aq:H' h'.objs.size=some (Zbu h'.objs.size fo):=by rw[<-hH',ZF]
  have ac:H' c'=some (Zbu c' oc):=by rw[<-hH',ZB hcq,ZF]
  have aP:H' P=some (.tbl ps2):=by rw[<-hH',ZB (ZA0 hqP),ZB (ZA0 hcP),ZF]
  have ao:∀b,b≠h'.objs.size->b≠c'->b≠P->H' b=H b:=λb n1 n2 n3=>by rw[<-hH',ZB n1,ZB n2,ZB n3]
  have at1:∀b o,H b=some o->b≠P->H' b=some o:=λb o e n=>by rw[ao b (ZaF e hqn) (ZaF e hcn) n]; exact e
  have nP:∀b o,H b=some o->(∀ps,o≠.tbl ps)->b≠P:=λb o e n z=>by rw[z,hP]at e; cases e; exact n _ rfl
  have old:∀b o,s.heap.get? b=some o->b≠h'.objs.size/\b≠c':=λb o e=>by have hb:=Zz9 e;exact⟨ZAf (ZAn hb (ZAR hge (ZBP hlt))),ZAf (ZAn hb hge)⟩
  have hokN:HOk X.prog X.w H' (h'.push fo):=λb o e=>by
   by_cases n1:b=h'.objs.size
   ·subst n1; rw[aq]at e; cases e; exact Zka gq
   ·by_cases n2:b=c'
    ·subst n2; rw[ac]at e; cases e; exact Zka gc
    ·by_cases n3:b=P
     ·subst n3; rw[aP]at e; cases e; exact gP2
     ·rw[ao b n1 n2 n3]at e
      refine(I.hok b o e).stay (λd u hd z=>hk2 d u (λy=>?_) z) (λd z=>at1 d _ z (nP d _ z λ_ y=>by cases y)) λd xs z=>at1 d _ z (nP d _ z λ_ y=>by cases y);rcases hd with y2 | y2
      ·exact n3 (y2▸y)
      ·exact nP d _ y2 (λ_ q=>by cases q) y
  have un:Un X.fs [] H H' s.heap (h'.push fo):=by
   refine⟨λb o e n hb hx=>?_,λb o e n hb hx=>?_,λb o e n hx=>?_,λb o e hx=>?_,λb xs e=>at1 b _ e (nP b _ e λ_ y=>by cases y),λb o u e=>at1 b _ e (nP b _ e λ_ y=>by cases y),λb pp e=>?_⟩
   ·exact hk2 b o (λz=>by rw[z,hP]at n; cases n) e
   ·exact⟨o.slots,hk2 b o (λz=>by rw[z,hP]at n; cases n) e⟩
   ·obtain⟨n1,n2⟩:=old b o e
    rw[ao b n1 n2 (λz=>by rw[z,hP]at n; cases n)]; exact n
   ·by_cases n3:b=P
    ·exact⟨_,by rw[n3]; exact gP2⟩
    ·exact⟨o,hk2 b o n3 e⟩
   ·by_cases n3:b=P
    ·subst n3
     rw[hP]at e; cases e;exact⟨_,by rw[aP,<-hps]⟩
    ·exact⟨#[],by rw[at1 b _ e n3]; simp⟩
  refine⟨h'.objs.size,H',rfl,?_,⟨_,ctv,c',oc,by rw[aq,<-hob],ac,vs,tq,d1,d2⟩,λb o e=>?_,λT q hT=>?_⟩
  ·exact I.un (t':=tk) un hokN
  ·by_cases n3:b=P
   ·subst n3
    rw[hP]at e; cases e;exact⟨_,aP⟩
   ·exact .of (at1 b o e n3)
  ·by_cases n3:T=P
   ·subst n3
    obtain rfl:=hu q hT;refine⟨ps2,aP,?_,λpos' cc hcc=>?_⟩
    ·rw[<-hps,Array.toList_append]
     exact TriplesOk_snoc _ _ _ _ ht
    ·rw[<-hps,Array.toList_append]at hcc
     rcases ZrR _ ht _ _ hcc with e | e
     ·obtain⟨a,o,q1,q2,q3⟩:=hg pos' cc e
      exact⟨a,o,q1,at1 a _ q2 (nP a _ q2 λ_ y=>by cases y),q3⟩
     ·exact⟨c',oc,e,ac,vs,tq,d1,d2⟩
   ·obtain⟨ps',w1,w2,w3⟩:=tb T q hT
    refine⟨ps',at1 T _ w1 n3,w2,λpos' cc hcc=>?_⟩;obtain⟨a,o,q1,q2,q3⟩:=w3 pos' cc hcc;exact⟨a,o,q1,at1 a _ q2 (nP a _ q2 λ_ y=>by cases y),q3⟩
theorem Zpk{r:HM.Env}:∀{is:List Nat} {cs:List PyData},HM.ZlM is r=some cs->cs.length=is.length/\∀(j i:Nat),is[j]?=some i->∃d,cs[j]?=some d/\r[i]?=some (some (.pl d))
 | [],cs,h=>by cases h; exact⟨rfl,λj i e=>by simp at e⟩
 | i::is,cs,h=>by
  unfold HM.ZlM at h;split at h
  ·rename_i d hd
   obtain⟨cs',h1,h2⟩:=ZzR.mp h;subst h2;obtain⟨l,k⟩:=Zpk h1;refine⟨by rw[Zz8,Zz8,l],λj i' e=>?_⟩;cases j with
   | zero=>cases e; exact⟨d,rfl,hd⟩
   | succ j=>exact k j i' e
  ·cases h
def Zfc(F H:Hp):Hp:=λb=>match H b with
 | some (.ext φ)=>some (.ext φ)
 | _=>F b
theorem ZiH{a:Addr}{o:Obj}(h:H a=some (Zbu a o)):Zfc F H a=some (Zbu a o):=by unfold Zfc Zbu at *;rw[h]
theorem Zk5(h:Zfc F H b=some o):(H b=some o/\te o=true)\/F b=some o:=by
 unfold Zfc at h;split at h
 ·rename_i φ e
  cases h;exact .inl ⟨e,rfl⟩
 ·exact .inr h
theorem ZvQ(s:Zq F H)(h:F b=some o):Zfc F H b=some o:=by have h2:=s b o h;unfold Zfc;rw[h2];cases o<;>first | rfl | exact h
theorem Zlg{k:Nat}{x:Str}{M:List PyData->Option PyData}{e:Expr}{fa:HM.EF}(C:Callee X.prog X.w X.K X.mg X.base k x M)(hr:Zav k X.A)(L:ZrX X t params body scope names is)(ha:XE X e fa)(hg:Gl X x:=by rfl)(hdb:(x==("__debug__":Str))=false:=by decide)
  (he:Zz6 [e,.Lambda params body scope lpos] X.env=(false,eval e X.env)::Zz6 [.Lambda params body scope lpos] X.env:=by rfl) (he2:Zz6 [.Lambda params body scope lpos] X.env=[(false,eval (.Lambda params body scope lpos) X.env)]:=by rfl)
  (hpl:(backTo pos (Zz6 [.Lambda params body scope lpos] X.env)).any (·.1)=false:=by rfl):XE X (.Call (.Name x p) [e,.Lambda params body scope lpos] [] pos) (HM.Zfe M t is fa):=by
 intro r d hd;unfold HM.Zfe at hd;split at hd
 case h_2=>cases hd
 rename_i d1 hd1;split at hd
 case h_2=>cases hd
 rename_i cs hcs;split at hd
 case isFalse=>cases hd
 rename_i hnc;split at hd
 case h_2=>cases hd
 rename_i d' hM;split at hd
 case isFalse=>cases hd
 rename_i hnd;cases hd;obtain⟨fa',fd,ps,hl,FN,hm,hk,hb⟩:=C.ex;intro pins s σ H Q I ⟨F0,H0,F,at_,kk⟩;obtain⟨clos,hcl,hc1,hc2⟩:=ZfV (scope:=scope) (env:=X.env) λy hy hf=>I.ok.has _ (.inl (L.cells y hy hf));refine ZB3 (Zmy I hg hm ?_ hdb);have lamPE:PE X (.Lambda params body scope lpos) λσ' H' Q'=>Tb H'/\∀q H2,Made X params body scope H' H2 q clos->Q' (.ref q) H2:=λpins' s' σ' H' Q' I' ⟨tb',k'⟩=>thn (Zvl L I' tb' hcl) λu s2 ⟨q,H2,e1,I2,m⟩=>by subst e1; exact⟨.ref q,H2,I2,rfl,k' q H2 m⟩
 refine ZEQ (h₀:=X.base) I.ok.mod.kin hk (thn (ZaB (ha r d1 hd1) (ZaB lamPE Zb2 he2) he pos pins s σ H (λvs H2=>∃v1 F1 H1 q,vs=[v1,.ref q]/\Ext F H F1 H1/\Rep X.K F1 d1 v1/\Made X params body scope H1 H2 q clos) I
  ⟨F0,H0,F,at_,λv F1 H1 x1 r1=>⟨at_.tbx x1,λq H2 m=>⟨v,F1,H1,q,rfl,x1,r1,m⟩⟩⟩) λus s2 ⟨vs,H2,I2,rv,v1,F1,H1,q,ev,x1,r1,m⟩=>⟨I2.kIn,?_⟩) he hpl
 subst ev;have at1:=at_.grow x1;have tb1:=at_.tbx x1;have nt1:=at_.ntx x1;generalize hCs:cellsOf clos=Cs;have hCm:∀a,a∈Cs↔∃y,clos.lookup y=some a:=λa=>by rw[<-hCs]; exact Zm9
 have hCc:∀a∈Cs,∃y o v,X.env.cells.lookup y=some a/\s2.heap.get? a=some o/\o.data=.cell v/\H2 a=none:=λa ha=>by obtain⟨y,e⟩:=(hCm a).mp ha;have e1:=hc1 y a e;obtain⟨v,o,h1,h2⟩:=I2.cell y a e1;exact⟨y,o,v,e1,h1,h2,I2.freeC y a e1⟩
 generalize hG:(λa:Addr=>(s2.heap.get? a).map (Zbu a))=G;have hGo:∀{a:Addr} {o:Obj},s2.heap.get? a=some o->G a=some (Zbu a o):=λ{a o} e=>by rw[<-hG]; show ZBC _ _=_; rw[e]; rfl
 generalize hH3:ZhJ Cs G H2=H3;have h3in:∀{a:Addr},a∈Cs->∃o v,H3 a=some (Zbu a o)/\s2.heap.get? a=some o/\o.data=.cell v:=λ{a} ha=>by obtain⟨y,o,v,_,g1,g2,_⟩:=hCc a ha;exact⟨o,v,by rw[<-hH3,Zff ha]; exact hGo g1,g1,g2⟩
 have h3out:∀{a:Addr},a ∉ Cs->H3 a=H2 a:=λ{a} ha=>by rw[<-hH3,Zbw ha]
 have s23:Zq H2 H3:=λb o z=>by rw[h3out λhb=>by obtain⟨_,_,_,_,_,_,g⟩:=hCc b hb;rw[g]at z; cases z];exact z
 have cge:∀a∈Cs,X.s₀.heap.objs.size<=a:=λa ha=>by obtain⟨y,_,_,e1,_⟩:=hCc a ha;exact I.ok.cab y a (L.own y) e1
 have hok3:HOk X.prog X.w H3 s2.heap:=by rw[<-hH3];refine HOk.put I2.hok (λa ha=>by obtain⟨_,_,_,_,_,_,g⟩:=hCc a ha; exact g) λa ha u e=>?_;obtain⟨y,o,v,_,g1,g2,_⟩:=hCc a ha;rw[hGo g1]at e; cases e;exact⟨o,rfl,g1⟩
 have E2:=I2.env0;have cfr:∀b∈frs X.stack,b ∉ Cs:=λb hb hc=>by
  obtain⟨y,o,v,e1,g1,g2,_⟩:=hCc b hc;rcases Zz7.mp (I2.stkSub b hb)with z | z
  ·exact I2.cne y b e1 z
  ·obtain⟨_,o',ho',_⟩:=I.ok.funs.mem z
   exact absurd (ZAn (Zz9 ho') (cge b hc)) (ZBI _)
 have E3:Ze6 X.prog X.w X.K X.mg X.base X.A X.stack s2 H3:=⟨E2.frames,E2.mod,λb o z=>⟨(E2.bs b o z).1,by rw[h3out λhb=>absurd (ZAn (Zz9 z) (ZAR I.ok.bsz (cge b hb))) (ZBI _)];exact(E2.bs b o z).2⟩,E2.bsz,E2.funs,λb hb=>by rw[h3out (cfr b hb)]; exact E2.frf b hb,hok3,E2.bare⟩;have s12:Zq F1 H2:=λb o z=>m.hh.ntb (x1.sub b o z) (nt1 b o z);have s13:Zq F1 H3:=s12.trans s23;have ff:Zq F1 (Zfc F1 H3):=λb o z=>ZvQ s13 z;have s33:Zq (Zfc F1 H3) H3:=λb o z=>by
  rcases Zk5 z with⟨w,_⟩ | w
  ·exact w
  ·exact s13 b o w
 have nt3:NoT (Zfc F1 H3):=λb o z=>by
  rcases Zk5 z with⟨w1,w2⟩ | w
  ·unfold Zfc at z
   split at z
   ·cases z; rfl
   ·exact nt1 b o z
  ·exact nt1 b o w
 have tb3:Tb H3:=m.tb.same s23;obtain⟨pm,ctv,c,oc,m1,m2,m3⟩:=m.ex;obtain⟨cl1,cl2⟩:=Zpk hcs;have clo:Clo X.K (Zfc F1 H3) q params body scope names cs:=by
  refine⟨_,pm,ctv,c,oc,clos,ZiH (s23 _ _ m1),ZiH (s23 _ _ m2),m3,λy z a g1 g2=>I.ok.inj y z a (hc1 y a g1) (hc1 z a g2),hc2,λy a g=>?_,by rw[cl1,L.len],λj y dj g1 g2=>?_⟩
  ·obtain⟨o,v,w1,w2,w3⟩:=h3in ((hCm a).mpr ⟨y,g⟩)
   exact⟨o,v,ZiH w1,w3⟩
  ·have hj:j<is.length:=by rw[L.len]; exact(Zz5.mp g1).1
   obtain⟨dj',g3,g4⟩:=cl2 j is[j] (Zz2 hj);rw[g2]at g3;cases g3;obtain⟨hN,hkind⟩:=L.at_ j is[j] y (Zz2 hj) g1;obtain⟨v,w1,w2⟩:=at1.plain g4;obtain⟨mm,_,hloc⟩:=I2.loc;obtain⟨u,ru,lk⟩:=hloc is[j] y v hN w1 (.inr (.inl hkind));have hfr:=hc2 _ (L.free y (ZAo g1)) rfl;obtain⟨a,hal⟩:=ZAt.mp hfr;rcases lk with⟨k1,_⟩ | ⟨_,a',k1,o,k2,k3⟩
   ·rw[show X.env.kindOf y=some .cell from hkind]at k1; cases k1
   ·rw[hc1 y a hal]at k1
    cases k1;obtain⟨o',v',z1,z2,z3⟩:=h3in ((hCm a).mpr ⟨y,hal⟩);rw[k2]at z2;cases z2;refine⟨a,o,u,v,hal,ZiH z1,k3,ru,Rep.cutF (λb ob z _=>ff b ob z) w2 20 ?_⟩;exact ZzY.mp hnc dj (ZAo g2)
 have fv:=L.good _ _ _ clo;have hlen:=hl _ _ hM;refine wpAny_call (ZB2 (FN.run X.A X.stack s2 H3 ⟨us,[]⟩ us [v1,.ref q] (λv H4=>∃F4,Ext (Zfc F1 H3) H3 F4 H4/\Rep X.K F4 d v) E0 hr E3 (by
  have:=hb s2 us I2.kIn (by rw[ZAE,<-rv.length]; exact hlen)
  rwa [ZAE]at this) rv ⟨Zfc F1 H3,_,d,hlen,s33,tb3,nt3,.cons (r1.mono ff) (.one (.fn fv)),hM,λv F4 H4 x4 q4=>⟨F4,x4,q4⟩⟩) λrs s4 hq=>?_)
 cases rs with
 | error e=>exact ZAY hq
 | ok fl =>
  cases fl with
  | next=>exact ZAY hq
  | brk=>exact ZAY hq
  | cont=>exact ZAY hq
  | ret u =>
   obtain⟨v,H4,os,bare,un,hok4,ru,F4,x4,q4⟩:=hq;have c4:∀{a:Addr},a∈Cs->∃o v,H4 a=some (Zbu a o)/\s2.heap.get? a=some o/\s4.heap.get? a=some o/\o.data=.cell v:=λ{a} ha=>by obtain⟨o,v,w1,w2,w3⟩:=h3in ha;have w4:H4 a=some (Zbu a o):=x4.hh.ntb w1 rfl;exact⟨o,v,w4,w2,Zct (hok4 a _ w4),w3⟩
   have out4:∀{b:Addr} {o:HO},H2 b=some o->b ∉ Cs:=λ{b o} z hb=>by obtain⟨_,_,_,_,_,_,g⟩:=hCc b hb;rw[g]at z; cases z
   generalize hF5:(λb:Addr=>match F4 b with | some o=>if te o=true then F1 b else some o | none=>none)=F5;have f5:∀{b:Addr} {o:HO},F5 b=some o->(F4 b=some o/\te o=false)\/F1 b=some o:=λ{b o} z=>by
    rw[<-hF5]at z;dsimp only at z;split at z
    ·rename_i o' w
     split at z
     ·exact .inr z
     ·rename_i n
      cases z;exact .inl ⟨w,by simpa using n⟩
    ·cases z
   have f5a:∀{b:Addr} {o:HO},F4 b=some o->te o=false->F5 b=some o:=λ{b o} z n=>by rw[<-hF5]; dsimp only; rw[z]; dsimp only; rw[if_neg (by rw[n]; simp)]
   have f5b:∀{b:Addr} {o:HO},F1 b=some o->F5 b=some o:=λ{b o} z=>by
    have w:=x4.ff b o (ff b o z)
    by_cases n:te o=true
    ·rw[<-hF5]; dsimp only; rw[w]; dsimp only; rw[if_pos n]; exact z
    ·exact f5a w (by simpa using n)
   have sub5:Zq F5 (Zbi Cs H4):=λb o z=>by
    rcases f5 z with⟨w,n⟩ | w
    ·rw[Zau λhb=>by
      obtain⟨_,_,g,_⟩:=c4 hb;rw[x4.sub b o w]at g; cases g; cases n]
     exact x4.sub b o w
    ·rw[Zau (out4 (s12 b o w))]
     exact x4.sub b o (x4.ff b o (ff b o w))
   refine I2.after ⟨v,Zbi Cs H4,os,bare,⟨λb o e n hb hx=>?_,λb o e n hb hx=>?_,λb o e n hx=>?_,un.there,λb xs e=>?_,λb o w e=>?_,λb pp e=>?_⟩,HOk.cut hok4 (λa ha o e=>?_),ru,kk v F5 (Zbi Cs H4) (x1.trans ⟨λb o z=>f5b z,λb o z=>?_,sub5,λb o z=>?_,λtb=>?_,λ_ b o z=>?_⟩) ((Rep.cutF (λb o z n=>f5a z n) q4 20 hnd).up)⟩
   ·by_cases hc:b∈Cs
    ·obtain⟨o',_,_,w2,w3,_⟩:=c4 hc
     rw[e]at w2; cases w2; exact w3
    ·exact un.keep b o e (by rw[h3out hc]; exact n) hb hx
   ·exact un.slot b o e (by rw[h3out (cfr b hb)]; exact n) hb hx
   ·by_cases hc:b∈Cs
    ·exact ZhS hc
    ·rw[Zau hc]; exact un.free b o e (by rw[h3out hc]; exact n) hx
   ·rw[Zau (out4 e)]; exact un.tups b xs (s23 _ _ e)
   ·rw[Zau (out4 e)]; exact un.frzs b o w (s23 _ _ e)
   ·rw[Zau (out4 e)]; exact un.tbls b pp (s23 _ _ e)
   ·obtain⟨o',_,g,_⟩:=c4 ha
    rw[g]at e; cases e; rfl
   ·-- tracked things stay
    have z2:=m.hh b o z;have key:∀{u:HO},H2 b=some u->Zdq (Zbi Cs H4) b u:=λ{u} w=>(x4.hh b u (s23 b u w)).cong (Zau (out4 w));cases o<;>first | exact key z2 | (obtain⟨pp,w⟩:=z2; exact(show ∃ps',_ from key w))
   ·rcases f5 z with⟨w,n⟩ | w
    ·rcases x4.new b o w with y | y
     ·rcases Zk5 y with⟨_,y2⟩ | y2
      ·rw[n]at y2; cases y2
      ·exact .inl y2
     ·refine .inr ?_
      have hcb:b ∉ Cs:=λhb=>by
       obtain⟨o',_,g,_⟩:=h3in hb;rcases y with y | ⟨xs,_,y⟩
       ·rw[g]at y; cases y
       ·rw[g]at y; cases y
      rcases y with y | ⟨xs,y1,y2⟩
      ·rw[h3out hcb]at y
       exact .inl (m.hh.free y)
      ·rw[h3out hcb]at y2
       cases w1:H1 b with
       | none=>exact .inl w1
       | some u =>
        have:=m.hh.back w1 y2 λ_ q=>by cases q
        subst this;exact .inr ⟨xs,y1,w1⟩
    ·exact .inl w
   ·refine(x4.tab tb3).cut hok4 λa ha=>?_
    obtain⟨o,v',g1,_,_,g4⟩:=c4 ha;exact⟨o,v',g1,g4⟩
   ·rcases f5 z with⟨w,_⟩ | w
    ·exact x4.nts nt3 b o w
    ·exact nt1 b o w
end
end HP
namespace HP
open PySem
open Sem (wp)
open AutoSeq1 (wpAny_loadPart')
variable{it:Addr}{A:Around}{items:Array Value}{i:Nat}{prog:Program}{Q:Value->Shared->Prop}{w:World}
section
variable{prog:Program}{w:World}{A:Around}{E:Value->Shared->Prop}{s:Shared}
theorem Zuy{t:Addr}{x:Value}(hit:s.heap.IsTupleIter it t i)(ht:s.heap.IsTuple t items)(hx:items[i]?=some x)(hQ:∀h',h'.IsTupleIter it t (i+1)->ZBG it s.heap h'->Q x { s with heap:=h' }):wpAny (model prog w) A (ZCh (.ref it)) Q E s:=by obtain⟨⟨o,ho,hc,hd⟩,⟨ot,hot,_,nt,hdt⟩⟩:=And.intro (id hit) ht;unfold ZCh;refine ZzQ (wpAny_callSpecial?_slot (name:=ZAX "__next__") hit.typeIs F.slot_tuple_iterator_next (ZA4 F.slot_tuple_iterator_next hit.typeIs F.entry_tuple_iterator_next ?_ (F.args_tuple_iterator_next_1 _)));show wpAny _ _ (field (.ref it) 0 >>= _) _ _ s; refine ZzQ (ZEw ho hd (x:=.ref t) rfl ?_); show wpAny _ _ (if(ZAL t==ZAQ)=true then _ else _) _ _ s; rw[if_neg (λz=>by cases z)];show wpAny _ _ (field (.ref it) 1 >>= _) _ _ s; refine ZzQ (ZEw ho hd (x:=.int i 0) rfl ?_); show wpAny _ _ (seqItems? (.ref t) >>= _) _ _ s; refine ZzQ (ZC5 hot hdt ?_); simp only[ZA9,hx];exact ZzQ (ZCi ho hd (by simp) (ZzV ⟨x,rfl,ZzV (hQ _ ⟨_,ZAZ _ ho (ZCB (ZBe hd _)),(ZDc ..).trans hc,by rw[ZBe hd]; simp[rawInt]⟩ (ZAS ..))⟩))
theorem Zwq{t:Addr}(hh:A.handled=none)(hit:s.heap.IsTupleIter it t i)(ht:s.heap.IsTuple t items)(hx:items[i]?=none)(hE:∀h' e,Heap.ExtBut it s.heap h'->(∃o,h'.get? e=some o/\o.cls=.type "StopIteration")->E (.ref e) { s with heap:=h' }):wpAny (model prog w) A (ZCh (.ref it)) Q E s:=by
 obtain⟨⟨o,ho,hc,hd⟩,⟨ot,hot,_,nt,hdt⟩⟩:=And.intro (id hit) ht;unfold ZCh;refine ZzQ (wpAny_callSpecial?_slot (name:=ZAX "__next__") hit.typeIs F.slot_tuple_iterator_next (ZA4 F.slot_tuple_iterator_next hit.typeIs F.entry_tuple_iterator_next ?_ (F.args_tuple_iterator_next_1 _)));show wpAny _ _ (field (.ref it) 0 >>= _) _ _ s; refine ZzQ (ZEw ho hd (x:=.ref t) rfl ?_); show wpAny _ _ (if(ZAL t==ZAQ)=true then _ else _) _ _ s; rw[if_neg (λz=>by cases z)];show wpAny _ _ (field (.ref it) 1 >>= _) _ _ s; refine ZzQ (ZEw ho hd (x:=.int i 0) rfl ?_); show wpAny _ _ (seqItems? (.ref t) >>= _) _ _ s; refine ZzQ (ZC5 hot hdt ?_); simp only[ZA9,hx];refine ZzQ (ZD3 (ZzQ (ZCi ho hd (by simp) ?_))); show wpAny _ _ (newExc (.type "StopIteration") [] >>= _) _ _ _; refine ZzQ ?_; simp only[newExc,newTuple];refine ZzQ (ZAO (ZzQ (m:=ZCC _ _) (ZDH (a:=ZAQ) (by first | rfl | (simp only[ZCC]; rfl)) (ZAO ?_ (by size_fits)))) (by size_fits))
 simp only[raiseNew]; refine ZzQ (wpAny_handled ?_); first | rw[show A.in1.handled=none from hh] | rw[hh]
 exact ZzQ (ZzV (wpAny_throw (hE _ _ (((ZAS ..).extBut.push _).push _) ⟨_,ZAa _ rfl,rfl⟩)))
end
theorem ZmS(hh:A.handled=none)(it t:Addr)(hne:t≠it)(items:Array Value):Draws prog w A it [it,t] items.size (λi v=>items[i]?=some v) (λi h=>h.IsTupleIter it t i/\h.IsTuple t items) where
 live:=λ_ _ st=>let ⟨o,ho,_⟩:=st.1; ⟨o,ho⟩
 frame:=λ_ _ _ ⟨⟨o,ho,r⟩,o2,ho2,r2⟩ hk=>⟨⟨o,hk it (by simp) o ho,r⟩,o2,hk t (by simp) o2 ho2,r2⟩
 item:=λi s Q E hi st hQ=>Zuy st.1 st.2 (x:=items[i]) (by simp[hi]) λh' a b=>hQ _ h' s.toks (by simp[hi]) ⟨a,st.2.extBut b.extBut hne⟩ b
 done:=λs Q E st hE=>Zwq hh st.1 st.2 (by simp) hE
theorem ZqU(l:Addr)(items:Array Value)(n:Nat)(dct:Option Addr)(sl:Array (Option Value)):Meets (Builtin.«enumerate.__new__» ⟨[.type "enumerate",.ref l],[]⟩) (λ_ R s=>s.heap.get? l=some { cls:=.type "tuple",dict:=dct,data:=.seq items n,slots:=sl } /\
  R (.ok (.ret (.ref (s.heap.push { cls:=.type "tuple_iterator",data:=.fields #[.ref l,.int 0 0] }).objs.size))) { s with heap:=(s.heap.push { cls:=.type "tuple_iterator",data:=.fields #[.ref l,.int 0 0] }).push { cls:=.type "enumerate",data:=.fields #[.none,.bool false,.ref s.heap.objs.size,rawInt 0,.none,.none] } }) :=
 .of_wp λprog w A R s h=>by
  cases s with
  | mk hp g d tk os =>
  obtain⟨hl,h⟩:=h; have hsub:=sub_enumerate;have hL:Heap.IsTuple (Shared.heap ⟨hp,g,d,tk,os⟩) l items:=⟨_,hl,rfl,n,rfl⟩
  wp_walk using wpAny_loadPart' hl
  refine wpAny_stack_any λst=>ZzV ?_;split
  ·rename_i c _ _ _ _ _
   cases(c==ZCf "enumerate")<;>(wp_walk using wpAny_loadPart' hl,ZDJ hL; exact⟨_,rfl,h⟩)
  ·wp_walk using wpAny_loadPart' hl,ZDJ hL; exact⟨_,rfl,h⟩
theorem Zr6{E:Value->Shared->Prop}{s:Shared}{l:Addr}(hL:s.heap.IsTuple l items)
  (h:∀h',IsEnum h' (s.heap.objs.size+1) s.heap.objs.size 0 .none->h'.IsTupleIter s.heap.objs.size l 0->h'.objs.size=s.heap.objs.size+2->(∀b o,s.heap.get? b=some o->h'.get? b=some o)->Q (.ref (s.heap.objs.size+1)) { s with heap:=h' }):wpAny (model prog w) A (call (.type "enumerate") [.ref l]) Q E s:=by
 obtain⟨⟨c,dct,dt,sl⟩,hl,hc,n,hd⟩:=hL; replace hc:c=.type "tuple":=hc; replace hd:dt=.seq items n:=hd; subst hc hd;refine callType_new F.called_enumerate (by decide) (F.typeCall_enumerate_1 _) (F.newCall_enumerate_1 _) (λobj=>F.args_object_init_2 obj _) F.entry_enumerate_new (ZqU l items n dct sl) ⟨hl,?_⟩;generalize hG:s.heap.push { cls:=.type "tuple_iterator",data:=.fields #[.ref l,.int 0 0] }=g;have hz:g.objs.size=s.heap.objs.size+1:=by rw[<-hG]; exact ZBZ ..
 show _/\_;rw[hz];have he:IsEnum (g.push { cls:=.type "enumerate",data:=.fields #[.none,.bool false,.ref s.heap.objs.size,rawInt 0,.none,.none] }) (s.heap.objs.size+1) s.heap.objs.size 0 .none:=by rw[<-hz]; exact ZAa g rfl
 exact⟨⟨_,he,rfl⟩,h _ he ⟨_,ZzW _ (by rw[<-hG]; exact ZAa _ rfl),rfl,rfl⟩ (by rw[ZBZ,hz]) λb o x=>ZzW _ (by rw[<-hG]; exact ZzW _ x)⟩
end HP
namespace HP
open PySem PySem.Spec PyProof.Rows L2
variable{a c f:Addr}{A:Around}{fd:FuncData}{base:Heap}{H:Hp}{tabs:List (Addr × Addr)}{outer:List Env}{N:List Str}{P:Program}{K:ZzS}{s:Shared}{st:Stmt}{qual x:Str}{mg:Str->Option Value}{w:World}
structure Zp2(K:ZzS)(x qual:Str)(st:Stmt)(f:Addr)(fd:FuncData)(c:Addr):Prop where
 ex:∃(oc:Value) (od:Option Addr) (kV doc pm:Value) (an:Option Addr) (ct:Value) (osl:Array (Option Value)),
  fd=ZBi x qual (Zcl st) (Za7 st) (Ze st) .none kV doc pm an (.ref c) ct/\K.lookup f=some ⟨oc,od,.func fd,osl⟩/\ZBY K (.ref c) qual=true
 kp:ZBo K (.ref f)=true
theorem Zwg{oc:Value}{od an:Option Addr}{osl:Array (Option Value)}{kV doc pm ct:Value}(l:K.lookup f=some ⟨oc,od,.func (ZBi x qual (Zcl st) (Za7 st) (Ze st) .none kV doc pm an (.ref c) ct),osl⟩)
  (h:ZBY K (.ref c) qual=true) (k:ZBo K (.ref f)=true):Zp2 K x qual st f (ZBi x qual (Zcl st) (Za7 st) (Ze st) .none kV doc pm an (.ref c) ct) c:=⟨⟨oc,od,kV,doc,pm,an,ct,osl,rfl,l,h⟩,k⟩
section
variable[FX]
theorem Zlu{k:Nat}{ps:List Str}{g:HM.SF}(Fn:Zp2 K x qual st f fd c)(S:Zs N ps (Ze st))(hm:mg x=some (.ref f))(hb:Binds K fd ps [])
  (body:∀(A:Around) (outer:List Env) (s:Shared) (H:Hp) (E:XK),Zav k (A.deeper (envOfC qual (Ze st) s.heap.objs.size f (.ref c)))->XSs (ZgF CX0 P w K mg base N qual (Ze st) f (.ref c) A outer s H E).nox (Za7 st) g) :
  Callee P w K mg base (k+1) x (HM.fnOf ps.length N.length g):=by
 have hpl:ps.length<=N.length:=by have:=congrArg ZAF S.pre; rw[ZBz]at this; omega
 refine⟨f,fd,ps,λds d h=>?_,?_,hm,Fn.kp,hb⟩
 ·unfold HM.fnOf at h
  split at h
  ·assumption
  ·cases h
 ·obtain⟨oc,od,kV,doc,pm,an,ct,osl,rfl,lk,hcd⟩:=Fn.ex
  refine Zvy lk hcd S (λvs H Q E h=>by obtain⟨_,_,_,h,_⟩:=h; exact h) λA outer s H vs Q E hr h=>?_;obtain⟨F,ds,d,hl,sub,tb,nt,q,hM,kk⟩:=h;unfold HM.fnOf at hM;split at hM
  ·rename_i hds
   have a0:=ZgS (N:=N) sub tb nt q (by omega);split at hM
   ·rename_i r hr'
    cases hM;exact⟨_,(body A outer s H E hr _ _ hr').nox,F,H,F,a0,λσ F' H' a'=>kk .non F' H' a'.ext .non⟩
   ·rename_i d' hr'
    cases hM;exact⟨_,(body A outer s H E hr _ _ hr').nox,F,H,F,a0,λv F' H' x q=>kk v F' H' x q⟩
   ·cases hM
  ·cases hM
def ZnV(N:List Str)(sc scope:Scope)(names:List Str)(is:List Nat):Bool :=
 decide (is.length=names.length)&&(is.zip names).all (λq=>decide (N[q.1]?=some q.2)&&decide (sc.names.lookup q.2=some .cell))&&scope.names.all (λy=>decide (y.2≠.free)||decide (sc.names.lookup y.1=some .cell))&&names.all λx=>decide ((x,ZCa)∈scope.names)
theorem ZpS{X:Cx}{t:Nat}{params:Arguments}{body:Expr}{scope sc:Scope}{names:List Str}{is:List Nat}{T:Addr}{q:Str}(ck:ZnV N sc scope names is=true)(h1:ZBm X.K c T=true)(h2:(T,q)∈FX.tl)(h3:∀q',(T,q')∈FX.tl->q'=q)(bm:BMod X.base X.mg)
  (good:∀F p cs,Clo X.K F p params body scope names cs->FX.fv t cs F p) (hN:X.N=N:=by rfl) (hs:X.env.scope=sc:=by rfl) (hc:X.env.code=.ref c:=by rfl) (hq:X.env.qual ++ "<lambda>" = q:=by rfl) (hd:defaultsOf params X.env=([],[]):=by rfl) (ho:∀x,X.fn x=true:=by exact λ_=>rfl) :
  ZrX X t params body scope names is:=by
 unfold ZnV at ck;rw[ZAc,ZAc,ZAc]at ck;obtain⟨⟨⟨k1,k2⟩,k3⟩,k4⟩:=ck;refine⟨⟨c,T,hc,h1,by rw[hq]; exact h2,λq' z=>by rw[hq]; exact h3 q' z⟩,bm,hd,of_decide_eq_true k1,λj i x e1 e2=>?_,λy hy hf=>?_,λx hx=>?_,ho,good⟩
 ·have:(i,x)∈is.zip names:=ZAo (i:=j) (by rw[List.getElem?_zip_eq_some]; exact⟨e1,e2⟩)
  have:=ZzY.mp k2 _ this;rw[ZAc]at this;rw[hN,hs];exact⟨of_decide_eq_true this.1,of_decide_eq_true this.2⟩
 ·have:=ZzY.mp k3 y hy
  rw[ZBd]at this;rw[hs];rcases this with z | z
  ·exact absurd hf (of_decide_eq_true z)
  ·exact of_decide_eq_true z
 ·exact of_decide_eq_true (ZzY.mp k4 x hx)
theorem Zq8(Fn:Fun K x qual st f fd)(hm:mg x=some (.ref f))(ha:mg x=some (.ref a))(e0:Ze6 P w K mg base A outer s H):ZES a s.heap:=by rw[hm]at ha;cases ha;obtain⟨oc,od,kV,doc,pm,an,cdv,ct,osl,rfl,lk,hcd⟩:=Fn.ex;have KX:K.In s.heap:=e0.mod.kin.keeps λb o e=>(e0.bs b o e).1;exact⟨_,_,_,_,KX _ _ lk⟩
theorem ZoY{k:Nat}{M:List PyData->Option PyData}(C:Callee P w K mg base k x M)(ha:mg x=some (.ref a)){F:Hp}(e0:Ze6 P w K mg base A outer s H)(sub:Zq F H)
  {us:List Value} {vs:List V} {ds:List PyData} {d:PyData} {Q:VK} (hr:Zav k A) (tb:Tb H) (nt:NoT F) (rv:Vals vs us) (rs:Zt K F ds vs) (hM:M ds=some d) (kk:∀v F' H',Ext F H F' H'->Rep K F' d v->Q v H') :
  codeAny (model P w) A (.call (.ref a) ⟨us,[]⟩) (CR CX0 outer P w H s Q E0) s:=by
 obtain⟨f,fd,ps,hl,FN,hm,hk,hb⟩:=C.ex;rw[hm]at ha;cases ha;have KX:K.In s.heap:=e0.mod.kin.keeps λb o e=>(e0.bs b o e).1;have hlen:vs.length=ps.length:=by rw[<-rs.1]; exact hl _ _ hM
 refine FN.run A outer s H ⟨us,[]⟩ us vs Q E0 hr e0 ?_ rv ⟨F,ds,d,hlen,sub,tb,nt,rs,hM,kk⟩;have:=hb s us KX (by rw[ZAE,<-rv.length]; exact hlen)
 rwa [ZAE]at this
end
def ZnR(tabs:List Addr)(H:Hp):Prop:=(∀b,H b=none\/(∃o xs,H b=some (.frz o (.lst xs)))\/H b=some (.tbl #[]))/\∀T∈tabs,H T=some (.tbl #[])
theorem ZtU{mb:Str->Option Value}{k:Nat}{fa:Addr}{sp:Sp}{s₁:Shared}{vs:List Value}{ns:List Int}
  (hT:∀q∈tabs,ZBm K q.1 q.2=true/\K.lookup q.2=none/\s₁.heap.get? q.2=some (ZCE #[]))
  (KX:K.In s₁.heap) (hns:s₁.heap.Ns ZAy mg) (hb:s₁.heap.Ns ZD1 mb) (hbb:∀x:Str,x ≠ "__name__"->mb x=ZAW x) (hlim:s₁.heap.NoLimit) (hg:s₁.gens=#[])
  (ha:s₁.heap.get? a=some { cls:=.type "list",data:=.seq vs.toArray }) (hi:IntsAre vs ns) (hl:ns.length<=sizeLine) (hr:Zav k callerA)
  (hbm:PyProof.Rows.BMain s₁.heap mg) (F:∀base:Heap,K.In base->base.Ns ZAy mg->BMod base mg->ZdG P w K mg base CX0 k fa fd [x] sp) (hbind:∀(s:Shared) (u:Value),BindsTo s fd ⟨[u],[]⟩ [(x,u)])
  (hsp:∀H:Hp,ZnR (tabs.map (·.2)) H->SqL K H a (ns.map V.int)->sp [.ref a] H (λv _=>v=.bl true) λ_ _ _=>False) :
  codeAny (model P w) callerA (.call (.ref fa) ⟨[.ref a],[]⟩) (λr s'=>r=.ok (.ret (.bool true))/\OldK s₁.heap s'.heap/\s'.os=s₁.os/\AllBare s'.gens) s₁:=by
 have rv:=Zm4 hi;have lenV:=hi.length;have tne:∀q∈tabs,q.2≠a:=λq hq z=>by have:=(hT q hq).2.2;rw[z,ha]at this; cases this
 have core:∀oS:Option HO,(oS=none\/∃o xs,oS=some (.frz o (.lst xs)))->(∀H:Hp,H a=oS->SqL K H a (ns.map V.int))->(∀H:Hp,∀u,oS=some u->Zac P w H s₁.heap a u)->(oS≠none->K.lookup a=none) ->
   codeAny (model P w) callerA (.call (.ref fa) ⟨[.ref a],[]⟩) (λr s'=>r=.ok (.ret (.bool true))/\OldK s₁.heap s'.heap/\s'.os=s₁.os/\AllBare s'.gens) s₁:=by
  intro oS hO hS hok0 hK;generalize hH:(λb:Addr=>if b=a then oS else if b∈tabs.map (·.2)then some (HO.tbl #[])else none)=H;have Ha:H a=oS:=by rw[<-hH]; exact if_pos rfl
  have Ht:∀T∈tabs.map (·.2),H T=some (.tbl #[]):=λT hT'=>by obtain⟨q,hq,e⟩:=Zz1.mp hT';rw[<-hH];show(if T=a then oS else if T∈tabs.map (·.2)then some (HO.tbl #[])else none)=_;rw[if_neg (by rw[<-e]; exact tne q hq),if_pos hT']
  have Hc:∀b u,H b=some u->(b=a/\oS=some u)\/(b∈tabs.map (·.2)/\u=.tbl #[]):=λb u e=>by
   rw[<-hH]at e;dsimp only at e;split at e
   ·rename_i h; exact .inl ⟨h,e⟩
   ·split at e
    ·rename_i h; cases e; exact .inr ⟨h,rfl⟩
    ·cases e
  have tget:∀T∈tabs.map (·.2),s₁.heap.get? T=some (ZCE #[])/\K.lookup T=none/\∃c,ZBm K c T=true:=λT hT'=>by obtain⟨q,hq,e⟩:=Zz1.mp hT';subst e;exact⟨(hT q hq).2.2,(hT q hq).2.1,q.1,(hT q hq).1⟩
  have hok:HOk P w H s₁.heap:=λb u e=>by
   rcases Hc b u e with⟨rfl,e'⟩ | ⟨h,rfl⟩
   ·exact hok0 H u e'
   ·exact(tget b h).1
  have base_of:∀{b:Addr} {o:Obj},s₁.heap.get? b=some o->H b=none->(ZhL s₁.heap H).get? b=some o:=λe n=>Zvs e n;have noA:∀{b:Addr} {o:Obj} {es:Array DictEntry} {ep:Nat},s₁.heap.get? b=some o->o.data=.dict es ep->H b=none:=λ{b o es ep} e d=>by
   cases q:H b with
   | none=>rfl
   | some u =>
    rcases Hc b u q with⟨rfl,_⟩ | ⟨h,_⟩
    ·rw[ha]at e; cases e
     have d':Data.seq vs.toArray _=Data.dict es ep:=d;cases d'
    ·rw[(tget b h).1]at e; cases e; cases d
  have nsK:∀{b:Addr} {m:Str->Option Value},s₁.heap.Ns b m->(ZhL s₁.heap H).Ns b m:=λ{b m} ⟨o,es,ep,e,d,r⟩=>⟨o,es,ep,base_of e (noA e d),d,r⟩;have hKb:K.In (ZhL s₁.heap H):=λb o e=>base_of (KX b o e) (by
   cases q:H b with
   | none=>rfl
   | some u =>
    rcases Hc b u q with⟨rfl,e'⟩ | ⟨h,_⟩
    ·rw[hK (by rw[e']; simp)]at e; cases e
    ·rw[(tget b h).2.1]at e; cases e)
  have hM:Mod K mg (ZhL s₁.heap H):=⟨hKb,nsK hns,⟨mb,nsK hb,hbb⟩,let ⟨mc,h1,h2⟩:=hlim; ⟨mc,nsK h1,h2⟩⟩;have e0:Ze6 P w K mg (ZhL s₁.heap H) callerA [] s₁ H:=⟨rfl,hM,λb o e=>Zv8 e,ZDu (Ztb _ _),trivial,λb hb=>absurd (show b∈([]:List Addr) from hb) (by simp),hok,.of_eq hg⟩;have hOT:ZnR (tabs.map (·.2)) H:=⟨λb=>by
   cases q:H b with
   | none=>exact .inl rfl
   | some u =>
    rcases Hc b u q with⟨_,e'⟩ | ⟨_,rfl⟩
    ·rcases hO with z | ⟨o,xs,z⟩
     ·rw[z]at e'; cases e'
     ·rw[z]at e'; cases e'; exact .inr (.inl ⟨o,xs,rfl⟩)
    ·exact .inr (.inr rfl),Ht⟩
  have hBM:BMod (ZhL s₁.heap H) mg:=by
   obtain⟨bm,ob,b1,b2,b3,b4,b5,b6⟩:=hbm;refine⟨bm,ob,b1,b2,λz=>?_,base_of b3 ?_,b4,b5,b6⟩
   ·obtain⟨o,es,ep,e,d,_⟩:=hns
    rw[z,e]at b3; cases b3; rw[b6]at d; cases d
   ·cases q:H bm with
    | none=>rfl
    | some u =>
     rcases Hc bm u q with⟨z,_⟩ | ⟨h,_⟩
     ·rw[z,ha]at b3; cases b3; exact absurd (show(ZCf "list":Value)=.type "module" from b4) (by decide)
     ·rw[(tget bm h).1]at b3; cases b3; cases b4
  refine ZB2 ((F _ hKb (nsK hns) hBM).run callerA [] s₁ H ⟨[.ref a],[]⟩ [.ref a] [.ref a] _ _ hr e0 (hbind s₁ (.ref a)) (.cons rfl .nil) (hsp H hOT (hS H Ha))) λr s' h=>?_;cases r with
  | error e=>exact ZAY h
  | ok fl =>
   cases fl with
   | next=>exact ZAY h
   | brk=>exact ZAY h
   | cont=>exact ZAY h
   | ret u =>
    obtain⟨v,H',os,bare,un,hok',r',q⟩:=h;have q':v=.bl true:=q;subst q';obtain rfl:u=Value.bool true:=r';refine⟨rfl,⟨λb o e=>?_,λb o e=>un.there b o e (by simp)⟩,os,bare⟩;cases q:H b with
    | none=>exact .inl (un.keep b o e q (by intro z; exact absurd (show b∈([]:List Addr) from z) (by simp)) (by simp))
    | some u =>
     rcases Hc b u q with⟨rfl,e'⟩ | ⟨h,rfl⟩
     ·rcases hO with z | ⟨ob,xs,z⟩
      ·rw[z]at e'; cases e'
      ·rw[z]at e'; cases e'
       have z2:=un.frzs _ ob _ q;obtain⟨e1,_⟩:=hok _ _ q;obtain⟨e2,_⟩:=hok' _ _ z2;rw[e]at e1; cases e1;exact .inl e2
     ·obtain⟨g1,_,c,g3⟩:=tget b h
      rw[g1]at e; cases e;obtain⟨more,z2⟩:=un.tbls b _ q;have z3:s'.heap.get? b=some { cls:=.none,data:=.fields (#[]++more) }:=hok' b _ z2;refine .inr (.inl ⟨((ZEN KX g3).tab g1).isCodeTable,rfl,#[],more,rfl,z3⟩)
 cases hk:K.lookup a with
 | some o=>have e:=KX a o hk;rw[ha]at e;cases e;exact core none (.inl rfl) (λH _=>.inr ⟨_,vs.toArray,_,hk,rfl,rfl,rfl,by rw[ZAd,lenV]; exact hl,by simpa using rv⟩) (λH u z=>by cases z) λz=>absurd rfl z
 | none=>refine core (some (.frz { cls:=.type "list",data:=.seq vs.toArray } (.lst (ns.map V.int)))) (.inr ⟨_,_,rfl⟩) (λH e=>.inl (.inr ⟨_,e⟩)) (λH u z=>?_) λ_=>hk;cases z;exact⟨ha,by rw[ZzP]; exact hl,vs,_,rv,ha⟩
theorem Zu4{l:ZEq}{n k:Nat}{q:Program}{loose:List Str}{XP:(Str->Option Value)->Heap->Prop}{YP:World->Heap->Prop}{d:DefRec}{K:Params->ZzS}{sp:World->Sp}
  (hn:l.most=some n) (hn2:n<=sizeLine) (hdf:d.params.defaults=[]) (hr:Zav k callerA)
  (hY:∀(w:World) (h:Heap),YP w h->(K w.params).In h) (hYT:∀(w:World) (h:Heap),YP w h->∀q∈tabs,h.get? q.2=some (ZCE #[]))
  (hT:∀(w:World),∀q∈tabs,ZBm (K w.params) q.1 q.2=true/\(K w.params).lookup q.2=none)
  (F:∀(w:World) (mg:Str->Option Value) (fa:Addr) (h:Heap),(K w.params).In h->h.Ns ZAy mg->mg d.name=some (.ref fa) ->
   ∃fd:FuncData,(∀(s:Shared) (u:Value),BindsTo s fd ⟨[u],[]⟩ [(x,u)]) /\
    ∀base:Heap,(K w.params).In base->base.Ns ZAy mg->BMod base mg->ZdG l.prog w (K w.params) mg base CX0 k fa fd [x] (sp w))
  (hsp:∀(w:World) (H:Hp) (a:Addr) (ns:List Int),ns.length<=n->ZnR (tabs.map (·.2)) H->SqL (K w.params) H a (ns.map V.int)->sp w [.ref a] H (λv _=>v=.bl true) λ_ _ _=>False) :
  PySem.W.WalkO q loose XP YP l.row.toRowW d [] (λf vs=>PySem.call f vs):=by
 refine Att.ZqS hn hdf λw s₀ s₁ mg mb fa o pm cd doc a vs ns G Y ho hd hcd hmg hobj hints hlen hg=>?_;have KX:=hY w _ Y;obtain⟨fd,hb,hF⟩:=F w mg fa _ KX G.T.g hmg;exact ZtU (λq hq=>⟨(hT w q hq).1,(hT w q hq).2,hYT w _ Y q hq⟩) KX G.T.g G.T.b G.T.builtins G.T.nolimit hg hobj hints (ZAR hlen hn2) hr G.T.bmain hF hb λH hO hS=>hsp w H a ns hlen hO hS
end HP
namespace HP
open PySem PySem.Spec PyProof.Rows L2
def ZyA:Stmt->Option (Arguments × Expr × Scope)
 | .Return (some (.Call _ [_,.Lambda a b s _] _ _)) _=>some (a,b,s)
 | .Assign _ (.Call _ [_,.Lambda a b s _] _ _) _=>some (a,b,s)
 | _=>none
def Zmo(st:Stmt):Arguments × Expr × Scope:=((Za7 st).findSome? ZyA).getD default
abbrev Zsr(st:Stmt):Arguments:=(Zmo st).1
abbrev Zmj(st:Stmt):Expr:=(Zmo st).2.1
abbrev ZfP(st:Stmt):Scope:=(Zmo st).2.2
theorem Zs7{P:Program}{w:World}{K:ZzS}{mg:Str->Option Value}{base:Heap}{A:Around}{outer:List Env}{s:Shared}{F H:Hp}{p:Addr}{params:Arguments}{body:Expr}{scope:Scope}{names:List Str}{cs:List PyData}
  (C:Clo K F p params body scope names cs) (e0:Ze6 P w K mg base A outer s H) (sub:Zq F H):ZES p s.heap:=by
 obtain⟨qual,pm,ctv,c,oc,clos,h1,_⟩:=C.ex;exact⟨_,_,_,_,Zct (e0.hok p _ (sub _ _ h1))⟩
section
variable[FX]
theorem ZxJ{K:ZzS}{M:List PyData->Option PyData}{H:Hp}{a:Addr}{ns:List Int}{tabs:List Addr}(hO:ZnR tabs H)(ht:∀T q,(T,q)∈FX.tl->T∈tabs)(hS:SqL K H a (ns.map V.int))(hM:M [.list (HM.ofInts ns)]=some (.bool true)) :
  spD K 1 M [.ref a] H (λv _=>v=.bl true) λ_ _ _=>False:=by
 refine⟨ZcV H,[.list (HM.ofInts ns)],.bool true,rfl,ZmM,λT q hT=>⟨#[],hO.2 T (ht T q hT),trivial,λpos c hc=>by cases hc⟩,.drop,.one (Rep.drop (.lst hS (ZfC (K:=K) (F:=H) ns).1 (ZfC ns).2)),hM,λv F1 H1 _ r=>r.bool_inv⟩
end
end HP
namespace HP
open PySem PySem.Spec PyProof.Rows L2
variable[FX]
end HP
namespace HP
open PySem PySem.Spec PyProof.Rows L2
variable[FX]
end HP
namespace HP
open PySem PySem.W PyProof.Rows
end HP
namespace HP
open PySem PySem.Spec PyProof.Rows L2
variable[FX]
end HP
namespace HP
open PySem PySem.Spec PyProof.Rows L2
variable[FX]
end HP
namespace HP
open PySem PySem.Spec PyProof.Rows L2
variable[FX]
end HP
namespace HT
open PySem PySem.Spec PyProof.Rows L2
end HT
namespace HP
open PySem PySem.Spec PyProof.Rows L2
end HP
namespace HP
open PySem PySem.Spec PyProof.Rows L2
variable{X:Cx}{elts:List Expr}{kt:Nat}{K:ZzS}
variable[FX]
def Ite(K:ZzS)(a:Addr):It :=
 ⟨λi H=>∃xs x,SqT K H a xs/\xs[i]?=some x,λi H y H'=>∃T x,H T=none/\y=.ref T/\(∀xs,SqT K H a xs->xs[i]?=some x)/\H'=upd H T (.tup [.int (i:Int),x]),λi H=>∃xs,SqT K H a xs/\xs.length=i⟩
omit [FX]in
theorem ZmP{pins:List (Addr × Obj)}{σ:L2.St}{H:Hp}{s:Shared}{h':Heap}{t':Nat}{fp:List Addr}(I:Inv X pins σ H s)(k:∀b o,b ∉ fp->s.heap.get? b=some o->h'.get? b=some o)(hf:∀b∈fp,ZfO X pins H b):Inv X pins σ H { s with heap:=h',toks:=t' }:=by
 refine I.step (g':=s.gens) (d':=s.drawn) (ch:=fp) (λb hb=>⟨(hf b hb).2.2.2.1,(hf b hb).2.1,(hf b hb).2.2.2.2.1,(hf b hb).2.2.2.2.2⟩) (λb o _ _ hc e _=>k b o hc e) (λb o _ _ hc e _=>⟨o.slots,k b o hc e⟩) (λ_ _ _ _ n=>n) (λb o hc e=>⟨o,k b o hc e⟩) (λ_ _ e=>e) (λ_ _ _ e=>e) (λb ps e=>⟨#[],by rw[e]; simp⟩) (λm hm=>?_) (λb u e=>?_) I.bare
 ·obtain⟨o,es,ep,ho,r⟩:=hm; exact⟨o,es,ep,k _ o (λz=>(hf _ z).2.1 rfl) ho,r⟩
 ·refine(I.hok b u e).stay (λc v hc q=>k c v (λz=>?_) q) (λ_ q=>q) λ_ _ q=>q
  rcases hc with y | y
  ·subst y; rw[(hf _ z).1]at e; cases e
  ·rw[(hf c z).1]at y; cases y
omit [FX]in
theorem ZsS{P:Program}{w:World}{pt:Pos}(a e it:Addr)(hei:e≠it):Turn P w K (.Tuple elts kt pt) (Ite K a) [e,it] e (λi h=>(∃old,IsEnum h e it (i:Int) old)/\h.IsTupleIter it a i) where
 mem:=by simp
 obj:=λi h st b hb=>by
  rcases Zz7.mp hb with rfl | hb
  ·obtain⟨⟨old,he⟩,_⟩:=st; exact⟨_,he,λv z=>by cases z⟩
  ·rw[Zz0.mp hb]; obtain⟨_,o,ho,hc,hd⟩:=st; exact⟨o,ho,λv z=>by rw[hd]at z; cases z⟩
 keep:=λi h h' ⟨⟨old,he⟩,o,ho,r⟩ k=>⟨⟨old,k e (by simp) _ he⟩,o,k it (by simp) o ho,r⟩
 item:=by
  intro X hP hw hK hc i pins s σ H E I hf st hg;subst hP hw hK;obtain⟨⟨old,he⟩,hit⟩:=st;obtain⟨xs,x,hq,hx⟩:=hg;obtain⟨its,rv,p,hz⟩:=I.tuple hq;obtain⟨u,hu,ru⟩:=rv.get hx;have hp:s.heap.IsTuple a its.toArray:=p;have hai:a≠it:=by
   rintro rfl
   obtain⟨o,ho,hcl,_⟩:=hit;obtain⟨o2,ho2,hcl2,_⟩:=hp;rw[ho]at ho2; cases ho2; rw[hcl]at hcl2; exact absurd hcl2 (by decide)
  have hae:e≠a:=by
   rintro rfl
   obtain⟨o2,ho2,hcl2,_⟩:=hp;rw[he]at ho2; cases ho2; exact absurd (show ZCf "enumerate" = ZCf "tuple" from hcl2) (by decide)
  have D:=ZmS (prog:=X.prog) (w:=X.w) (A:=X.A.in1) (I.ok.hd hc) it a hai its.toArray;have hlt:i<its.length:=(Zz5.mp hu).1;have hes:e<s.heap.objs.size:=Zz9 he;have his:it<s.heap.objs.size:=by obtain⟨o,ho,_⟩:=hit; exact Zz9 ho
  refine wpAny_pyNext_enum_itemD D he ⟨hit,hp⟩ (by simpa using hlt) hei (by simp[hei,hae]) λy h' tk hP ho hs' hT hsz hk=>⟨_,rfl,wpAny_letOwnedTupleGo_enum ho λh2 he2 hs2=>?_⟩;have ey:y=u:=by
   have:its.toArray[i]?=some u:=by simpa using hu
   rw[this]at hP; exact(ZAz hP).symm
  subst ey;have hn:H s.heap.objs.size=none:=I.hok.fresh (Zz3 _);have IL:Inv X pins σ (upd H s.heap.objs.size (.tup [.int (i:Int),x])) { s with heap:=s.heap.push { cls:=.type "tuple",data:=.seq #[.int i tk,y] },toks:=s.toks }:=I.laid (λb ob q=>ZzW _ q) (Zz3 _) ⟨by show 2<=sizeLine; decide,[.int i tk,y],.cons ⟨tk,rfl⟩ (.cons ru .nil),IsTup.new _ _⟩;have I2:Inv X pins σ (upd H s.heap.objs.size (.tup [.int (i:Int),x])) { s with heap:=h2,toks:=tk+1 }:=ZmP (s:={ s with heap:=s.heap.push { cls:=.type "tuple",data:=.seq #[.int i tk,y] },toks:=s.toks }) (fp:=[e,it]) IL (λb o hb q=>by
   have h1:b≠e:=λz=>hb (by simp[z]);have h3:b≠it:=λz=>hb (by simp[z]);show h2.get? b=some o;rw[hs2.2 b h1]
   by_cases eb:b=s.heap.objs.size
   ·subst eb
    have:(s.heap.push { cls:=.type "tuple",data:=.seq #[.int i tk,y] }).get? s.heap.objs.size=some { cls:=.type "tuple",data:=.seq #[.int i tk,y] }:=ZAa _ rfl;rw[show(some o:Option Obj)=_ from q.symm.trans this];exact hT
   ·exact hk b o h1 h3 (by rw[<-ZCz _ _ _ eb]; exact q)) λb hb=>by
    obtain⟨f0,f1,f2,f3,f4,f5⟩:=hf b hb;refine⟨?_,f1,f2,f3,f4,f5⟩;rw[ZB]
    ·exact f0
    ·rcases Zz7.mp hb with rfl | hb
     ·exact ZAf hes
     ·rw[Zz0.mp hb]; exact ZAf his
  refine⟨.ref s.heap.objs.size,_,I2,rfl,⟨_,x,hn,rfl,λys hy=>by rw[I.tuple_inj hy hq]; exact hx,rfl⟩,⟨⟨_,by simpa using he2⟩,?_⟩,λb hb=>?_⟩
  ·obtain⟨⟨o,ho',r⟩,_⟩:=hs'
   exact⟨o,(hs2.2 it hei.symm).trans ho',r⟩
  ·rw[ZB]
   ·exact(hf b hb).1
   ·rcases Zz7.mp hb with rfl | hb
    ·exact ZAf hes
    ·rw[Zz0.mp hb]; exact ZAf his
 done:=by
  intro X hP hw hK hc i pins s σ H E I hf st hg;subst hP hw hK;obtain⟨⟨old,he⟩,hit⟩:=st;obtain⟨xs,hq,hx⟩:=hg;obtain⟨its,rv,p,hz⟩:=I.tuple hq;have hp:s.heap.IsTuple a its.toArray:=p;have hl:=rv.length;have hai:a≠it:=by
   rintro rfl
   obtain⟨o,ho,hcl,_⟩:=hit;obtain⟨o2,ho2,hcl2,_⟩:=hp;rw[ho]at ho2; cases ho2; rw[hcl]at hcl2; exact absurd hcl2 (by decide)
  have D:=ZmS (prog:=X.prog) (w:=X.w) (A:=X.A.in1) (I.ok.hd hc) it a hai its.toArray;have en:i=its.toArray.size:=by simp; omega
  subst en;exact wpAny_pyNext_enum_endD D he ⟨hit,hp⟩ λh' eb=>⟨rfl,ZmP (t':=s.toks) (fp:=[e,it]) I (λb o hb q=>eb b o (λz=>hb (by simp[z])) q) hf⟩
 self:=λ_ _ _ _ _ ⟨⟨_,he⟩,_⟩ h=>wpAny_pyIter_enum he h
omit [FX]in
theorem Zrz:∀(ds:List PyData) (k i:Nat) (d:PyData),(HM.ZiF k ds)[i]?=some d->∃x,ds[i]?=some x/\d=.tuple [.int ((k+i:Nat):Int),x]
 | [],_,_,_,h=>by cases h
 | x::ds,k,0,d,h=>by cases h; exact⟨x,rfl,rfl⟩
 | x::ds,k,i+1,d,h=>by obtain⟨y,h1,h2⟩:=Zrz ds (k+1) i d h;exact⟨y,h1,by rw[h2,show k+1+i=k+(i+1) by omega]⟩
omit [FX]in
theorem ZpB:∀(ds:List PyData) (k:Nat),(HM.ZiF k ds).length=ds.length
 | [],_=>rfl
 | _::ds,k=>congrArg (·+1) (ZpB ds (k+1))
theorem Zvp{F:Hp}{a:Addr}{ds:List PyData}{vs:List V}(h:SqT K F a vs)(r:Zt K F ds vs):ItE K (Ite K a) (HM.ZiF 0 ds) F:=by
 intro F' H s1 s2;have hq:SqT K H a vs:=Zk4 h (s1.trans s2);refine⟨λi d hd=>?_,vs,hq,by rw[ZpB,r.1]⟩;obtain⟨x,hx,rfl⟩:=Zrz ds 0 i d hd;obtain⟨v,h1,h2⟩:=r.get hx;refine⟨⟨vs,v,hq,h1⟩,λy H' ⟨T,z,hn,ey,hz,eH⟩=>?_⟩;subst ey eH;have:=hz vs hq;rw[h1]at this;cases this;have hs:=(Ext.refl s2).tups.sub;refine⟨_,(Ext.refl hs).lay hn,.tup ZF rfl ?_⟩;have hT:Zci F' H T=none:=hs.free hn;have hr:Zt K (upd (Zci F' H) T (.tup [.int (i:Int),v])) [.int ((0+i:Nat):Int),x] [.int (i:Int),v]:=by rw[Nat.zero_add];exact .cons (.int _) (.one ((h2.mono (s1.trans (ZcQ s2))).mono (Zq.upd' hT)))
 exact hr.2
theorem ZvL{a:Expr}{f:HM.EF}{p pos:Pos}{pt:Pos}(hm:X.mg "enumerate" = none)(ha:XE X a f)(hg:Gl X "enumerate":=by rfl)(hs:Zz6 [a] X.env=[(false,eval a X.env)]:=by rfl):XIE X (.Tuple elts kt pt) (.Call (.Name "enumerate" p) [a] [] pos) (HM.ZnS f):=by
 intro r ds h;unfold HM.ZnS at h;split at h
 ·rename_i xs hx
  cases h;intro pins s σ H R I ⟨F0,H0,F,at_,k⟩;have hxa:=Zd ha (Zf (X:=X)) hs;refine Call_ (ZhX I hg hm boot_enumerate (ZCH (thn (hxa.pa r [.tuple xs] (by show(match f r with | some x=>_ | none=>_)=_; rw[hx]; rfl) pos pins s σ H (λvs H1=>∃F1,Ext F H F1 H1/\Zt X.K F1 [.tuple xs] vs) I ⟨F0,H0,F,at_,λvs F' H' x q=>⟨F',x,q⟩⟩) λus s1 ⟨vs,H1,I1,r1,F1,x1,q1⟩=>?_) hs rfl));obtain⟨v,rfl,rv⟩:∃v,vs=[v]/\Rep X.K F1 (.tuple xs) v:=by
   obtain⟨e,hh⟩:=q1
   match vs,e with
   | [v],_=>exact⟨v,rfl,hh 0 _ v rfl rfl⟩
  obtain⟨l,ws,rfl,hq,rs⟩:=Zv5 rv;obtain⟨u,rfl,ru⟩:=vals1 r1;cases ru;obtain⟨its,_,pt1,_⟩:=I1.tuple (Zk4 hq x1.sub);refine Zr6 (items:=its.toArray) pt1 λh' he hi hsz hk=>wpAny_pyIter_enum he ?_;refine⟨_,[s1.heap.objs.size+1,s1.heap.objs.size],_,_,H1,rfl,I1.kept (t':=s1.toks) hk,ZsS l _ _ (Nat.succ_ne_self _),⟨⟨_,he⟩,hi⟩,λb hb=>?_,k _ F1 H1 x1 (Zvp hq rs)⟩;rcases Zz7.mp hb with rfl | hb
  ·exact I1.fpOk (ZEu _) (I1.hok.fresh (ZEu _))
  ·rw[Zz0.mp hb]; exact I1.fpOk (Zz3 _) (I1.hok.fresh (Zz3 _))
 ·cases h
section
variable{X:Cx}{N:List Str}{scope:Scope}{x x2:Str}{px px2 pt:Pos}{kt:Nat}{elt iter:Expr}{ifs:List Expr}{pos:Pos}{fi:HM.IF}{fc:HM.TF}{fe:HM.EF}
theorem Zn4(i:Nat){y:Str}{py spos:Pos}(hN:X.N.Nodup)(hxe:X.xe=λ_ _=>False)(hcalm:X.calm=true)(T:Zdp X N scope [x,x2])(hi:XIE X (.Tuple [.Name x px,.Name x2 px2] kt pt) iter fi)(hc:∀cl C s H ex,XTs (ZV X N scope cl C s H ex) ifs fc)(he:∀cl C s H ex,XE (ZV X N scope cl C s H ex) elt fe)
  (hiy:X.N[i]?=some y:=by rfl) (hy:X.env.scope.names.lookup y=some .local:=by rfl) (hsw:ZBT (.ListComp elt [⟨.Tuple [.Name x px,.Name x2 px2] kt pt,iter,ifs,0⟩] scope pos) (some (.Name y py)) spos.line X.env=pure true:=by rfl)
  (hs:∀x,ZBh iter X.env x=pure x:=by intro _; rfl):XS X (.Assign [.Name y py] (.ListComp elt [⟨.Tuple [.Name x px,.Name x2 px2] kt pt,iter,ifs,0⟩] scope pos) spos) (HM.ZW i (HM.ZdH fi fc fe)):=by
 rw[Zmh];exact Zhj i hN hxe hcalm T (ZoO T) hi hc he hiy hy hsw hs
end
section
variable{X:Cx}{a b:Expr}{ga gb:HM.BF}{pos:Pos}
def Zyy(K:ZzS):R2:=λx y H Q=>∃l b xs zs,x=.ref l/\y=.ref b/\SqL K H l xs/\SqL K H b zs/\xs.length+zs.length<=sizeLine/\∀p,H p=none->Q (.ref p) (upd H p (.lst (xs++zs)))
omit [FX]in
theorem ZwL:OpR X (ZCV .Add) (Zyy X.K):=by intro pins s σ H x y v u Q I rx ry h;obtain⟨l,b,xs,zs,rfl,rfl,hH,hB,hz,q⟩:=h;cases rx;cases ry;obtain⟨its,r,⟨⟨c1,d1,t1,s1⟩,n1,e1,k1,k2,k3⟩,_⟩:=I.list hH;obtain⟨its2,r2,⟨⟨c2,d2,t2,s2⟩,n2,e2,m1,m2,m3⟩,_⟩:=I.list hB;simp only at k1 k2 k3 m1 m2 m3;subst k1 k3 m1 m3;have hl1:=r.length;have hl2:=r2.length;refine concat_meets ⟨_,e1,rfl⟩ ⟨_,e2,rfl⟩ noFill_list_add seq_list_add PySem.F.slot_list_add PySem.F.entry_list_add (PySem.F.args_list_add_2 _ _) (list_addW l b its.toArray its2.toArray n1 n2 d1 d2 s1 s2 (by rw[ZAd,ZAd]; omega)) ⟨e1,e2,?_⟩;rw[show its.toArray++its2.toArray=(its++its2).toArray by simp];exact⟨.ref _,_,I.lnew (t':=s.toks) (r.append r2) (by rw[ZAb]; omega),rfl,q _ I.fresh⟩
theorem ZvM(ha:XB X a ga)(hb:XB X b gb):XF X (.BinOp a .Add b pos) (HM.Zss ga gb):=by
 intro r d h;unfold HM.Zss at h;split at h
 ·rename_i x hx
  split at h
  ·rename_i xs hxs
   split at h
   ·rename_i y hy
    split at h
    ·rename_i ys hys
     split at h
     ·rename_i hz
      cases h;refine PE.imp (ZnN ZwL (ha r _ hx) (hb r _ hy)) λσ H Q ⟨F0,H0,F,at_,k⟩=>?_;refine⟨F0,H0,F,at_,λv F1 H1 x1 ⟨fp,r1⟩=>⟨F0,H0,F1,at_.grow x1,λw F2 H2 x2 ⟨fq,r2⟩=>?_⟩⟩;obtain⟨l1,vs1,rfl,hq1,q1⟩:=Zek x2.sub (r1.mono x2.ff λ_ _ _ z=>x2.hh _ _ z) hxs;obtain⟨l2,vs2,rfl,hq2,q2⟩:=Zek x2.sub r2 hys;refine⟨_,_,_,_,rfl,rfl,hq1,hq2,?_,λl hl=>Zed (P:=λv _ H'=>Q v H') (x1.trans x2) (q1.append q2) hl k⟩;have e1:=q1.1;have e2:=q2.1;have e3:(1000000:Nat)<=sizeLine:=by decide
      unfold HM.big at hz;omega
     ·cases h
    ·cases h
   ·cases h
  ·cases h
 ·cases h
end
end HP
namespace HM
open PySem
variable{i:Int}{ds:List D}{n:Nat}
theorem ZbZ{α:Type}{c:TF}{e:EF}{r:Env}(g:α->D)(p:α->Bool)(f:α->D):∀(xs:List α),(∀x∈xs,c (some (.pl (g x))::r)=some (p x))->(∀x∈xs,p x=true->e (some (.pl (g x))::r)=some (f x))->Zap c e r (xs.map g)=some ((xs.filter p).map f)
 | [],_,_=>rfl
 | x::xs,h1,h2=>by
  have ih:=ZbZ g p f xs (λy hy=>h1 y (ZzU _ hy)) (λy hy=>h2 y (ZzU _ hy));have hc:=h1 x (ZzT ..);rw[ZzZ];unfold Zap;rw[hc];cases hp:p x with
  | true=>have he:=h2 x (ZzT ..) hp;dsimp only;rw[he];dsimp only;rw[ih,ZEh hp];rfl
  | false=>dsimp only;rw[ih,ZEi (by simp[hp])]
theorem Za0{α:Type}{e:EF}{r:Env}(g:α->D)(f:α->D)(xs:List α)(h:∀x∈xs,e (some (.pl (g x))::r)=some (f x)):Zap ZN e r (xs.map g)=some (xs.map f):=by rw[ZbZ g (λ_=>true) f xs (λ_ _=>rfl) λx hx _=>h x hx,ZBw.mpr λ_ _=>rfl]
theorem Ze8{α:Type}{i:Nat}{body:SF}(g:α->D)(P:List α->Env->Prop)(xs:List α)(r:Env)(h0:P [] r)
  (hs:∀pre x post r,xs=pre++x::post->P pre r->∃r',body (r.set i (some (.pl (g x))))=some (.nx r')/\P (pre++[x]) r'):∃r',ZaQ i body (xs.map g) r=some (.nx r')/\P xs r':=by
 have key:∀(post pre:List α) (r:Env),xs=pre++post->P pre r->∃r',ZaQ i body (post.map g) r=some (.nx r')/\P xs r':=by
  intro post
  induction post with
  | nil=>intro pre r e h; rw[ZAE]at e; subst e; exact⟨r,rfl,h⟩
  | cons x post ih=>intro pre r e h;obtain⟨r1,h1,h2⟩:=hs pre x post r e h;obtain⟨r2,h3,h4⟩:=ih (pre++[x]) r1 (by rw[e,ZA8]; rfl) h2;refine⟨r2,?_,h4⟩;rw[ZzZ];unfold ZaQ;rw[h1];exact h3
 exact key xs [] r rfl h0
def Zx7{α S:Type}(q:S->α->Bool)(step:S->α->S):S->List α->Bool
 | _,[]=>true
 | s,x::xs=>q s x&&Zx7 q step (step s x) xs
abbrev dI(i:Int):D:=ZAx i
abbrev dN(k:Nat):D:=ZAx (k:Int)
theorem Zga(ns:List Int):ofInts ns=ns.map dI:=rfl
theorem Zae(n:Nat):Zc5 0 n=(ZzX n).map dN:=by unfold Zc5;refine ZBv λk _=>?_;show ZAx (0+(k:Int))=ZAx (k:Int);rw[Int.zero_add]
theorem Zce(ns:List Int):ZaP (ns.map dI)=some ns:=by
 induction ns with
 | nil=>rfl
 | cons n ns ih=>show(ZaP (ns.map dI)).map (n::·)=_; rw[ih]; rfl
theorem ZeX(bs:List Bool):ZeU (bs.map λb=>ZBk b)=some bs:=by
 induction bs with
 | nil=>rfl
 | cons b bs ih=>show(ZeU (bs.map λb=>ZBk b)).map (b::·)=_; rw[ih]; rfl
abbrev tupI(ns:List Int):D:=ZAJ (ns.map dI)
theorem ZdQ{j:Nat}{d:D}(h:ds[j]?=some d):atD ds (j:Int)=some d:=by have hj:j<ds.length:=(Zz5.mp h).1;unfold atD ixN;rw[if_pos (by omega),if_pos (by omega)];simpa using h
theorem Zj7{d:D}(h0:0<=i)(h:ds[i.toNat]?=some d):atD ds i=some d:=by
 have e:i=((i.toNat:Nat):Int):=by omega
 rw[e]; exact ZdQ (by simpa using h)
@[simp] theorem ZzK(d:D)(r:List D):atD (d::r) 0=some d:=ZdQ (j:=0) rfl
@[simp] theorem ZzN(a d:D)(r:List D):atD (a::d::r) 1=some d:=ZdQ (j:=1) rfl
@[simp] theorem ZzM(a b d:D)(r:List D):atD (a::b::d::r) 2=some d:=ZdQ (j:=2) rfl
@[simp] theorem ZzJ(a b c d:D)(r:List D):atD (a::b::c::d::r) 3=some d:=ZdQ (j:=3) rfl
@[simp] theorem ZzI(a b c e d:D)(r:List D):atD (a::b::c::e::d::r) 4=some d:=ZdQ (j:=4) rfl
theorem ZzC(i j:Int)(h:(Z3 i||Z3 j)=true):Zcv (.int i) (.int j)=some (.int (i*j)):=by show(if Z3 i||Z3 j then some (ZAx (i*j))else none)=_;rw[if_pos h]
@[simp] theorem ZzA:Z3 7=true:=rfl
@[simp] theorem Zy2:Z3 11=true:=rfl
@[simp] theorem ZyX:Z3 13=true:=rfl
@[simp] theorem ZyV:Z3 17=true:=rfl
@[simp] theorem ZyZ:Z3 19=true:=rfl
@[simp] theorem Zy0:Z3 23=true:=rfl
@[simp] theorem Zy6:Z3 29=true:=rfl
@[simp] theorem Zy7:Z3 31=true:=rfl
@[simp] theorem Zy5:Z3 37=true:=rfl
@[simp] theorem Zy9:Z3 41=true:=rfl
@[simp] theorem Zy3:Z3 43=true:=rfl
@[simp] theorem Zza:Z3 47=true:=rfl
@[simp] theorem ZyW:Z3 53=true:=rfl
@[simp] theorem Zy8:Z3 59=true:=rfl
@[simp] theorem ZyU:Z3 61=true:=rfl
@[simp] theorem Zy4:Z3 67=true:=rfl
@[simp] theorem Zy1:Z3 71=true:=rfl
@[simp] theorem ZyY:Z3 73=true:=rfl
@[simp] theorem Zxc:Z3 48271=true:=rfl
@[simp] theorem Zzr:Z3 2=true:=rfl
@[simp] theorem Zzo:Z3 3=true:=rfl
@[simp] theorem Zzb:Z3 5=true:=rfl
theorem Zju(h1:-1000000000<i)(h2:i<1000000000):Z3 i=true:=by
 unfold Z3;have:i.natAbs<18446744073709551616:=by omega
 exact ZC3.mpr this
theorem ZcM(h:n<1000000):okR (n:Int)=true:=ZC3.mpr (by omega)
@[simp] theorem ZyF(i:Int):Zao (.int i)=true:=rfl
@[simp] theorem Zyq(i:Bool):Zao (.bool i)=true:=rfl
@[simp] theorem Zyp:Zao .none=true:=rfl
@[simp] theorem ZzE(i j:Int):ZA1 (.int i) (.int j)=(i==j):=rfl
structure Wk where
 many:Nat
 deeds:List (List (List Int))
 looks:List (List Int)
 beg:List Int
 goal:List Int
def ZZ(dd:List (List Int)):D:=.tuple (dd.map tupI)
def Wk.d(w:Wk):D:=.tuple [.int w.many,.tuple (w.deeds.map ZZ),.tuple (w.looks.map tupI),tupI w.beg,tupI w.goal]
def Cr(n:Nat)(c:List Int):Prop:=c.Pairwise (· < ·)/\∀x∈c,0<=x/\x<(n:Int)
structure Wk.Ok(w:Wk):Prop where
 m1:2<=w.many
 m2:w.many<=5
 d1:1<=w.deeds.length
 d2:w.deeds.length<=3
 dl:∀dd∈w.deeds,dd.length=w.many
 dc:∀dd∈w.deeds,∀c∈dd,Cr w.many c
 l2:w.looks.length<=3
 ll:∀l∈w.looks,l.length=w.many
 lc:∀l∈w.looks,∀x∈l,0<=x/\x<=9
 b1:w.beg≠[]
 bc:Cr w.many w.beg
 g1:w.goal≠[]
 gc:Cr w.many w.goal
theorem Cr.len:∀{c:List Int},Cr n c->c.length<=n:=by
 have key:∀(c:List Int) (l:Int),c.Pairwise (· < ·)->(∀x∈c,l<=x/\x<(n:Int))->(c.length:Int)<=max 0 ((n:Int)-l):=by
  intro c
  induction c with
  | nil=>intro l _ _; simp; omega
  | cons x c ih=>intro l hp hb;have h1:=hb x (ZzT ..);have h2:=ih (x+1) (ZAK.mp hp).2 λy hy=>⟨by have:=(ZAK.mp hp).1 y hy; omega,(hb y (ZzU _ hy)).2⟩;rw[Zz8];omega
 intro c h;have:=key c 0 h.1 h.2;omega
theorem sortI_perm(ns:List Int):(sortI ns).Perm ns:=ZCO ns _
theorem Zu5(ns:List Int):(sortI ns).Pairwise (·<=·):=by have h:=ZC8 (le:=λa b:Int=>decide (a<=b)) (λa b c h1 h2=>by simp at *; omega) (λa b=>by simp; omega) ns;exact h.imp λh=>by simpa using h
theorem ZkH:∀{ns:List Int},ns.Pairwise (·<=·)->ns.Nodup->ns.Pairwise (· < ·)
 | [],_,_=>.nil
 | n::ns,h,hn=>by obtain⟨h1,h2⟩:=ZAK.mp h;obtain⟨n1,n2⟩:=ZAT.mp hn;refine ZAK.mpr ⟨λx hx=>?_,ZkH h2 n2⟩;have:=h1 x hx;have:n≠x:=λe=>n1 (e▸hx);omega
theorem ZiI{ns:List Int}(hn:ns.Nodup)(hb:∀x∈ns,0<=x/\x<(n:Int)):Cr n (sortI ns) :=
 ⟨ZkH (Zu5 ns) ((sortI_perm ns).nodup_iff.mpr hn),λx hx=>hb x ((sortI_perm ns).mem_iff.mp hx)⟩
theorem Zix(ns:List Int)(h:ns.length<64):Zft (ns.map dI)=some ((sortI ns).map dI):=by unfold Zft;rw[if_pos (by rw[ZzP]; exact h),Zce];rfl
theorem ZfD:∀(ns acc:List Int) (x:Int),x∈dedup acc ns↔x∈acc\/x∈ns
 | [],acc,x=>by simp[dedup]
 | n::ns,acc,x=>by
  unfold dedup;split
  ·rename_i h
   have h':n∈acc:=by simpa using h
   rw[ZfD ns acc x]
   constructor
   ·rintro (h | h)
    ·exact .inl h
    ·exact .inr (ZzU _ h)
   ·rintro (h | h)
    ·exact .inl h
    ·rcases Zz7.mp h with e | e
     ·exact .inl (e▸h')
     ·exact .inr e
  ·rw[ZfD ns _ x,ZAp,Zz0,Zz7]
   constructor
   ·rintro ((h | h) | h)
    ·exact .inl h
    ·exact .inr (.inl h)
    ·exact .inr (.inr h)
   ·rintro (h | h | h)
    ·exact .inl (.inl h)
    ·exact .inl (.inr h)
    ·exact .inr h
theorem Zfv:∀(ns acc:List Int),acc.Nodup->(dedup acc ns).Nodup
 | [],acc,h=>h
 | n::ns,acc,h=>by
  unfold dedup;split
  ·exact Zfv ns acc h
  ·rename_i hc
   have hc':n ∉ acc:=by simpa using hc
   refine Zfv ns _ ?_;rw[ZCd];exact⟨h,by simp,λa ha b hb=>by simp at hb; subst hb; exact λe=>hc' (e▸ha)⟩
end HM
namespace HG
open PySem HM
def Zi3:SF :=
 (Zu (sIf (tOr (tV (ZgZ (Za 0) .bool)) (Zej (tV (ZgZ (Za 0) .int)))) (ZE (eC (.bool false))) Zay)
  (ZE (ZlT gLe gLe (Za 1) (Za 0) (Za 2))))
def Zat:List D->Option D:=fnOf 3 3 Zi3
def ZmI:SF :=
 (ZE (ZeT (ZgZ (Za 0) .tuple) (ZlT gLe gLe (Za 1) (Zaf (Zo 0)) (Za 2))))
def Zaq:List D->Option D:=fnOf 3 3 ZmI
def ZaG:SF :=
 (Zu (sIf (Zej (tV (Zm Zat (Zc (Za 3) (Zc (Za 2) (Zc (op2 ZmE (Za 1) (eC (.int 1))) Zi)))))) (ZE (eC (.bool false))) Zay)
  (Z4 2 (op2 ZaE (Za 3) (eC (.int 1)))))
def Zev:SF :=
 (Zu (sIf (Zej (tV (ZgZ (Za 0) .tuple))) (ZE (eC (.bool false))) Zay)
  (Zu (Z4 2 (eC (.int 0)))
  (Zu (Zba 3 (ZS (bOf (Za 0))) ZaG)
  (ZE (eC (.bool true))))))
def Zaa:List D->Option D:=fnOf 2 4 Zev
def Zh5:SF :=
 (ZE (ZeT (Zm Zaq (Zc (Za 0) (Zc (Za 1) (Zc (Za 1) Zi)))) (ZiG (ZK (ZS (bOf (Za 0))) ZN (Zm Zaa (Zc (Za 0) (Zc (Za 2) Zi)))))))
def Zcm:List D->Option D:=fnOf 2 2 Zh5
def Zh6:SF :=
 (ZE (ZeT (Zm Zaq (Zc (Za 0) (Zc (Za 1) (Zc (Za 1) Zi)))) (ZiG (ZK (ZS (bOf (Za 0))) ZN (Zm Zat (Zc (Za 0) (Zc (eC (.int 0)) (Zc (eC (.int 9)) Zi))))))))
def Zcn:List D->Option D:=fnOf 2 2 Zh6
def Zi4:SF :=
 (ZE (ZeT (Zm Zaq (Zc (Za 0) (Zc (eC (.int 1)) (Zc (eC (.int 5)) Zi)))) (ZiG (ZK (ZS (bOf (Za 0))) ZN (Zm Zcm (Zc (Za 0) (Zc (Za 2) Zi)))))))
def ZcA:List D->Option D:=fnOf 2 2 Zi4
def Zi5:SF :=
 (ZE (ZeT (Zm Zaq (Zc (Za 0) (Zc (eC (.int 0)) (Zc (eC (.int 4)) Zi)))) (ZiG (ZK (ZS (bOf (Za 0))) ZN (Zm Zcn (Zc (Za 0) (Zc (Za 2) Zi)))))))
def ZcB:List D->Option D:=fnOf 2 2 Zi5
def Zkt:SF :=
 (ZE (ZeT (Zm Zaa (Zc (Za 0) (Zc (Za 1) Zi))) (op2 gGt (Zaf (Zo 0)) (eC (.int 0)))))
def Zc7:List D->Option D:=fnOf 2 2 Zkt
def Zi6:SF :=
 (Zu (sIf (tOr (Zej (tV (Zm Zaq (Zc (Za 0) (Zc (eC (.int 5)) (Zc (eC (.int 5)) Zi)))))) (Zej (tV (Zm Zat (Zc (eIx (Zo 0) (eC (.int 0))) (Zc (eC (.int 1)) (Zc (eC (.int 8)) Zi))))))) (ZE (eC (.bool false))) Zay)
  (Zu (Z4 1 (eIx (Zo 0) (eC (.int 0))))
  (Zu (sIf (tOr (Zej (tV (Zm ZcA (Zc (eIx (Zo 0) (eC (.int 1))) (Zc (Za 1) Zi))))) (Zej (tV (Zm ZcB (Zc (eIx (Zo 0) (eC (.int 2))) (Zc (Za 1) Zi)))))) (ZE (eC (.bool false))) Zay)
  (ZE (ZeT (Zm Zc7 (Zc (eIx (Zo 0) (eC (.int 3))) (Zc (Za 1) Zi))) (Zm Zaa (Zc (eIx (Zo 0) (eC (.int 4))) (Zc (Za 1) Zi))))))))
def ZcC:List D->Option D:=fnOf 1 2 Zi6
def Zku:SF :=
 (ZE (eIx (Zo 0) (eC (.int 1))))
def Za2:List D->Option D:=fnOf 1 1 Zku
def Zkv:SF :=
 (ZE (eIx (Zo 0) (eC (.int 2))))
def Za3:List D->Option D:=fnOf 1 1 Zkv
def Zlh:SF :=
 (Zu (sIf (Zej (tV (Zm ZcC (Zc (Za 0) Zi)))) ZjV Zay)
  (ZE (Za 0)))
def ZbG:List D->Option D:=fnOf 1 1 Zlh
def Zgh:SF :=
 (Zu (sIf (Zej (tV (Zm Zaa (Zc (Za 1) (Zc (Zaf (bOf (Zm Za3 (Zc (Za 0) Zi)))) Zi))))) ZjV Zay)
  (ZE (Za 1)))
def ZbC:List D->Option D:=fnOf 2 2 Zgh
def Zli:SF :=
 (ZE (Zan (ZK (ZS (bOf (Za 1))) ZN (eIx (bOf (eIx (bOf (Zm Za3 (Zc (Za 1) Zi))) (Za 0))) (Za 3)))))
def ZdL:List D->Option D:=fnOf 3 3 Zli
def ZhN:SF :=
 (Zu (Z4 3 (eIx (bOf (Zm Za2 (Zc (Za 0) Zi))) (Za 2)))
  (ZE (ZiG (ZK (ZS (bOf (Za 1))) ZN (op2 gGt (Zaf (bOf (eIx (Zo 4) (Za 0)))) (eC (.int 0)))))))
def Zb8:List D->Option D:=fnOf 3 4 ZhN
def ZiR:SF :=
 (ZE (eOf (ZK (Za6 (Zaf (bOf (Zm Za2 (Zc (Za 0) Zi))))) (tV (Zm Zb8 (Zc (Za 1) (Zc (Za 2) (Zc (Za 0) Zi))))) (Za 0))))
def Zcj:List D->Option D:=fnOf 2 2 ZiR
def Zew:SF :=
 (ZhD 4 (Za 6) (eC (.bool true)))
def Zex:SF :=
 (Zba 6 (ZS (bOf (eIx (Zo 3) (Za 5)))) Zew)
def ZmJ:SF :=
 (Zu (Z4 3 (eIx (bOf (Zm Za2 (Zc (Za 0) Zi))) (Za 2)))
  (Zu (ZW 4 fDk)
  (Zu (Zba 5 (ZS (bOf (Za 1))) Zex)
  (ZE (Zan (Zgd (Zo 4)))))))
def Zdt:List D->Option D:=fnOf 3 7 ZmJ
def Zey:SF :=
 (ZoX 3 (Zm ZdL (Zc (Za 0) (Zc (Za 1) (Zc (Za 4) Zi)))) (Za 4))
def ZmK:SF :=
 (Zu (ZW 3 Zuw)
  (Zu (Zba 4 (ZS (bOf (Za 2))) Zey)
  (ZE (eOf (ZK (ZS (bOf (eOf (Zgd (Zo 3))))) ZN (Za9 (Zc (Za 0) (Zc (Zan (ZpH 4 (Za 0))) Zi))))))))
def Zar:List D->Option D:=fnOf 3 5 ZmK
def Zkw:SF :=
 (Zu (sIf (tV (op2 gLt (Za 1) (Zaf (Zo 0)))) (ZE (eIx (Zo 0) (Za 1))) Zay)
  (ZE (eC (.int 0))))
def Zam:List D->Option D:=fnOf 2 2 Zkw
def Zlj:SF :=
 (ZE (op2 Zuz (op2 Zuz (op2 Zcv (Za 0) (eC (.int 48271))) (Za 1)) (Za 2)))
def ZI:List D->Option D:=fnOf 3 3 Zlj
def Zgi:SF :=
 (Zu (ZW 3 (ZK (Za6 (Za 1)) (tV (op2 gLt (Zm ZI (Zc (op2 ZaE (op2 ZaE (Za 1) (op2 Zcv (op2 Zcv (eC (.int 31)) (Za 0)) (Za 0))) (op2 Zcv (eC (.int 7)) (Za 0))) (Zc (eC (.int 9973)) (Zc (eC (.int 5)) Zi)))) (eC (.int 2)))) (Za 0)))
  (Zu (sIf (tV (op2 gLt (Zaf (Zo 3)) (Za 2))) (ZW 3 (Zdj (Zc (Zm ZI (Zc (Za 0) (Zc (eC (.int 9967)) (Zc (Za 1) Zi)))) Zi))) Zay)
  (ZE (Zan (Zo 3)))))
def ZbO:List D->Option D:=fnOf 3 4 Zgi
def Zb9:SF :=
 (Zu (Z4 4 (op2 ZaE (op2 ZaE (Za 0) (op2 Zcv (op2 Zcv (eC (.int 43)) (Za 3)) (Za 3))) (op2 Zcv (eC (.int 11)) (Za 3))))
  (Zu (Z4 5 (Zm ZI (Zc (Za 4) (Zc (eC (.int 9949)) (Zc (eC (.int 10)) Zi)))))
  (Zu (ZW 6 (ZoK (Zm ZI (Zc (Za 4) (Zc (eC (.int 9941)) (Zc (Za 1) Zi)))) (eC (.bool true))))
  (Zu (sIf (tV (op2 gLt (Za 5) (eC (.int 3)))) (ZhD 6 (Zm ZI (Zc (Za 4) (Zc (eC (.int 9931)) (Zc (Za 1) Zi)))) (eC (.bool true))) Zay)
  (Zu (Zdf 2 (Zan (Zgd (Zo 6))))
  (sIf (tV (op2 gEq (Za 5) (eC (.int 9)))) (Zr9 2 (eC (.int (-1))) (Za9 Zi)) Zay))))))
def Zkx:SF :=
 (Zu (ZW 2 (Zdj Zi))
  (Zu (Zba 3 (Za6 (Za 1)) Zb9)
  (ZE (Zan (Zo 2)))))
def Zc8:List D->Option D:=fnOf 2 7 Zkx
def Zdu:SF :=
 (Zu (Z4 5 (op2 Zx8 (op2 ZmE (Za 4) (eC (.int 1))) (eC (.int 0))))
  (Zu (Z4 6 (op2 ZxG (op2 ZaE (Za 4) (eC (.int 1))) (op2 ZmE (Za 1) (eC (.int 1)))))
  (Zu (Z4 7 (op2 gEq (Zm ZI (Zc (op2 ZaE (Za 0) (op2 Zcv (eC (.int 17)) (Za 4))) (Zc (eC (.int 9929)) (Zc (eC (.int 6)) Zi)))) (eC (.int 1))))
  (Zu (Zdf 2 (Zan (Zf6 (ZmG (Zdj (Zc (Za 5) Zi)) (Zu8 (Zdj (Zc (Za 4) Zi)) (ZpF (Za 7)))))))
  (Zdf 3 (Za9 (Zc (Za 6) Zi)))))))
def Zky:SF :=
 (Zu (ZW 2 (Zdj Zi))
  (Zu (ZW 3 (Zdj Zi))
  (Zu (Zba 4 (Za6 (Za 1)) Zdu)
  (ZE (Za9 (Zc (Zan (Zo 2)) (Zc (Zan (Zo 3)) Zi)))))))
def Zc9:List D->Option D:=fnOf 2 8 Zky
def Zc0:SF :=
 (Zu (Z4 7 (op2 ZaE (Zm Zam (Zc (Za 0) (Zc (op2 ZaE (op2 ZaE (Za 1) (eC (.int 4))) (Za 5)) Zi))) (op2 Zcv (eC (.int 71)) (Za 5))))
  (Zu (Z4 8 (op2 ZaE (eC (.int 2)) (Zm ZI (Zc (Za 7) (Zc (eC (.int 9883)) (Zc (eC (.int 2)) Zi))))))
  (Zdf 6 (Zan (ZK (Za6 (Za 3)) ZN (Zm ZI (Zc (op2 ZaE (Za 8) (op2 Zcv (op2 Zcv (eC (.int 13)) (Za 0)) (Za 0))) (Zc (eC (.int 9871)) (Zc (Za 9) Zi)))))))))
def Zd1:SF :=
 (Zdf 4 (Zm Zc8 (Zc (op2 ZaE (Zm Zam (Zc (Za 0) (Zc (op2 ZaE (op2 ZaE (Za 1) (eC (.int 1))) (Za 5)) Zi))) (op2 Zcv (eC (.int 61)) (Za 5))) (Zc (Za 3) Zi))))
def Zdv:SF :=
 (Zu (Z4 2 (Zm Zam (Zc (Za 0) (Zc (Za 1) Zi))))
  (Zu (Z4 3 (op2 ZaE (eC (.int 2)) (Zm ZI (Zc (Za 2) (Zc (eC (.int 9923)) (Zc (eC (.int 4)) Zi))))))
  (Zu (sIf (tV (op2 gGt (Zaf (Zo 0)) (eC (.int 63)))) (Z4 3 (op2 ZaE (eC (.int 2)) (Zm ZI (Zc (Za 2) (Zc (eC (.int 9923)) (Zc (eC (.int 6)) Zi)))))) Zay)
  (Zu (ZW 4 (Zdj Zi))
  (Zu (Zba 5 (Za6 (op2 ZaE (eC (.int 1)) (Zm ZI (Zc (Za 2) (Zc (eC (.int 9907)) (Zc (eC (.int 3)) Zi)))))) Zd1)
  (Zu (sIf (tV (op2 gEq (Zm ZI (Zc (Za 2) (Zc (eC (.int 9901)) (Zc (eC (.int 3)) Zi)))) (eC (.int 1)))) (ZW 4 (ZmG (ZhU (bOf (Zm Zc9 (Zc (Zm Zam (Zc (Za 0) (Zc (op2 ZaE (Za 1) (eC (.int 1))) Zi))) (Zc (Za 3) Zi))))) (Zvd (Zo 4) none (some (eC (.int 1)))))) Zay)
  (Zu (ZW 6 (Zdj Zi))
  (Zu (Zba 5 (Za6 (Zm ZI (Zc (Za 2) (Zc (eC (.int 9887)) (Zc (eC (.int 4)) Zi))))) Zc0)
  (Zu (Z4 9 (Zm ZbO (Zc (Zm Zam (Zc (Za 0) (Zc (op2 ZaE (Za 1) (eC (.int 7))) Zi))) (Zc (Za 3) (Zc (eC (.int 1)) Zi)))))
  (Zu (sIf (tV (op2 gEq (Zm ZI (Zc (Za 2) (Zc (eC (.int 9859)) (Zc (eC (.int 3)) Zi)))) (eC (.int 1)))) (Z4 9 (Zir (Za6 (Za 3)))) Zay)
  (Zu (Z4 10 (Zm ZbO (Zc (Zm Zam (Zc (Za 0) (Zc (op2 ZaE (Za 1) (eC (.int 8))) Zi))) (Zc (Za 3) (Zc (eC (.int 1)) Zi)))))
  (ZE (Za9 (Zc (Za 3) (Zc (Zan (Zo 4)) (Zc (Zan (Zo 6)) (Zc (Za 9) (Zc (Za 10) Zi))))))))))))))))))
def Zbb:List D->Option D:=fnOf 2 11 Zdv
def Zbc:SF :=
 (Zu (sIf (tV (op2 gEq (eIx (bOf (eIx (bOf (eIx (Zo 0) (eC (.int 1)))) (Za 2))) (Za 4)) (Za9 Zi))) (ZE (eC .none)) Zay)
  (ZW 3 (ZmG (Zo 3) (ZhU (bOf (eIx (bOf (eIx (bOf (eIx (Zo 0) (eC (.int 1)))) (Za 2))) (Za 4)))))))
def Zh7:SF :=
 (Zu (ZW 3 (Zdj Zi))
  (Zu (Zba 4 (ZS (bOf (Za 1))) Zbc)
  (ZE (Zan (Zf6 (Zo 3))))))
def ZcS:List D->Option D:=fnOf 3 5 Zh7
def Zck:SF :=
 (Zu (Z4 5 (Zan (ZK (ZS (bOf (Za 1))) ZN (eIx (bOf (eIx (bOf (eIx (Zo 1) (eC (.int 2)))) (Za 0))) (Za 5)))))
  (Zu (sIf (tV (ZlH (Za 5) (Zo 3))) (Zl9 3 (Za 5)) Zay)
  (ZoP 3 (Za 5) (Za 4))))
def Zi7:SF :=
 (Zu (ZW 3 Zuw)
  (Zu (Zba 4 (ZS (bOf (Za 2))) Zck)
  (ZE (eOf (ZK (ZS (bOf (eOf (Zgd (Zo 3))))) ZN (Za9 (Zc (Za 0) (Zc (Zan (ZpH 4 (Za 0))) Zi))))))))
def ZbP:List D->Option D:=fnOf 3 6 Zi7
end HG
namespace HG
open PySem HM
def Zy(ns:List Int)(k:Nat):Int:=if k<ns.length then ns.getD k 0 else 0
theorem Zer(ns:List Int)(k:Nat):Zam [.list (ns.map dI),.int k]=some (.int (Zy ns k)):=by
 simp[Zam,Zkw,Zy]
 by_cases h:k<ns.length
 ·have h':(k:Int)<(ns.length:Int):=by omega
  have e:atD (ns.map dI) (k:Int)=some (.int ns[k]):=ZdQ (by simp[h]);simp[h,h',e]
 ·have h':¬(k:Int)<(ns.length:Int):=by omega
  simp[h,h']
def ZT(c p m:Int):Int:=c*48271 % p % m
theorem Zcf(c p m:Int)(hp:0<p)(hm:0<m):ZI [.int c,.int p,.int m]=some (.int (ZT c p m)):=by simp[ZI,Zlj,hp,hm,ZT]
theorem Zaw(c p m:Int)(hm:0<m):0<=ZT c p m/\ZT c p m<m:=⟨Int.emod_nonneg _ (by omega),Int.emod_lt_of_pos _ hm⟩
def crP(c:Int)(k:Nat):Bool:=decide (ZT (c+31*(k:Int)*(k:Int)+7*(k:Int)) 9973 5<2)
def crF(c:Int)(n:Nat):List Int:=((ZzX n).filter (crP c)).map λ(k:Nat)=>(k:Int)
def crV(c:Int)(n:Nat):List Int:=if(crF c n).length<1 then[ZT c 9967 n]else crF c n
theorem ZiL(n:Nat)(p:Nat->Bool):Cr n (((ZzX n).filter p).map λ(k:Nat)=>(k:Int)):=by
 refine⟨?_,λx hx=>?_⟩
 ·rw[ZDZ]
  refine List.Pairwise.imp (λ{a b} h=>?_) (List.Pairwise.filter p ZEx);omega
 ·obtain⟨k,hk,rfl⟩:=Zz1.mp hx
  have:=ZAi.mp (ZAh.mp hk).1;omega
theorem ZtP(c:Int)(n:Nat)(hn:0<n):Cr n (crV c n)/\crV c n≠[]:=by
 unfold crV;split
 ·refine⟨⟨by simp,λx hx=>?_⟩,by simp⟩
  have e:x=ZT c 9967 n:=by simpa using hx
  rw[e];have:=Zaw c 9967 n (by omega);omega
 ·rename_i h
  exact⟨ZiL n _,λe=>h (by rw[e]; simp)⟩
theorem Zpj(c:Int)(n:Nat)(hn:0<n)(hb:n<1000):ZbO [.int c,.int n,.int 1]=some (tupI (crV c n)):=by
 have hn':(0:Int)<(n:Int):=by omega
 have key:Zap (tV (op2 gLt (Zm ZI (Zc (op2 ZaE (op2 ZaE (Za 1) (op2 Zcv (op2 Zcv (eC (.int 31)) (Za 0)) (Za 0))) (op2 Zcv (eC (.int 7)) (Za 0))) (Zc (eC (.int 9973)) (Zc (eC (.int 5)) Zi)))) (eC (.int 2)))) (Za 0)
   [some (.pl (.int c)),some (.pl (.int n)),some (.pl (.int 1)),none] (Zc5 0 n)=some ((crF c n).map dI):=by
  rw[Zae];rw[ZbZ dN (crP c) dN]
  ·unfold crF
   rw[ZAe];rfl
  ·intro k hk
   have hk':=ZAi.mp hk;have s2:Z3 (31*(k:Int))=true:=Zju (by omega) (by omega);simp[Zcf,crP,s2]
  ·intro k hk _
   simp
 have h1:okR (n:Int)=true:=ZcM (by omega);have h2:(Zc5 0 n).length<1000000:=by rw[Zae]; simp; omega
 by_cases hl:(crF c n).length<1
 ·have hl':((crF c n).length:Int)<1:=by omega
  have hm:=Zcf c 9967 n (by decide) hn';simp[ZbO,Zgi,h1,h2,key];simp[hl',crV,hl,hm]
 ·have hl':¬((crF c n).length:Int)<1:=by omega
  simp[ZbO,Zgi,h1,h2,key];simp[hl',crV,hl]
def Zvq(c:Int)(n k:Nat):List Int :=
 let s:=c+43*(k:Int)*(k:Int)+11*(k:Int)
 if ZT s 9949 10<3/\ZT s 9941 n≠ZT s 9931 n then[ZT s 9941 n,ZT s 9931 n]else[ZT s 9941 n]
def ZfU(c:Int)(n k:Nat):List Int:=if ZT (c+43*(k:Int)*(k:Int)+11*(k:Int)) 9949 10=9 then[]else sortI (Zvq c n k)
theorem Zwp(c:Int)(n k:Nat)(hn:0<n):Cr n (ZfU c n k):=by
 unfold ZfU;split
 ·exact⟨.nil,λx hx=>by simp at hx⟩
 ·unfold Zvq
  dsimp only;have b1:=Zaw (c+43*(k:Int)*(k:Int)+11*(k:Int)) 9941 n (by omega);have b2:=Zaw (c+43*(k:Int)*(k:Int)+11*(k:Int)) 9931 n (by omega);split
  ·rename_i h
   refine ZiI (by simp[h.2]) λx hx=>?_;simp at hx;rcases hx with e | e<;>(subst e; assumption)
  ·refine ZiI (by simp) λx hx=>?_
   simp at hx;subst hx; assumption
theorem Zuj(n:Nat):ixN (n+1) (-1)=some n:=by unfold ixN;rw[if_neg (by decide),if_pos (by omega)];congr 1;omega
theorem ZtX(c:Int)(n k:Nat)(rows:List D)(o4 o5 o6:Option B)(hn:0<n)(hk:k<1000)(hl:rows.length<1000) :
  ∃r5 r6 r7,Zb9 [some (.pl (.int c)),some (.pl (.int n)),some (.ol rows),some (.pl (dN k)),o4,o5,o6]=some (.nx [some (.pl (.int c)),some (.pl (.int n)),some (.ol (rows++[tupI (ZfU c n k)])),some (.pl (dN k)),r5,r6,r7]):=by
 have hn':(0:Int)<(n:Int):=by omega
 have s2:Z3 (43*(k:Int))=true:=Zju (by omega) (by omega);have hl':rows.length<1000000:=by omega
 have m1:=Zcf (c+43*(k:Int)*(k:Int)+11*(k:Int)) 9949 10 (by decide) (by decide);have m2:=Zcf (c+43*(k:Int)*(k:Int)+11*(k:Int)) 9941 n (by decide) hn';have m3:=Zcf (c+43*(k:Int)*(k:Int)+11*(k:Int)) 9931 n (by decide) hn';unfold ZfU Zvq;dsimp only;generalize ZT (c+43*(k:Int)*(k:Int)+11*(k:Int)) 9949 10=wy at *;generalize ZT (c+43*(k:Int)*(k:Int)+11*(k:Int)) 9941 n=a at *;generalize ZT (c+43*(k:Int)*(k:Int)+11*(k:Int)) 9931 n=b at *;have t1:Zft [ZAx a]=some ((sortI [a]).map dI):=Zix [a] (by simp);have t2:Zft [ZAx a,ZAx b]=some ((sortI [a,b]).map dI):=Zix [a,b] (by simp)
 by_cases w3:wy<3
 ·have w9:(wy==9)=false:=by simp; omega
  have w9':¬wy=9:=by omega
  by_cases ab:a=b
  ·subst ab
   simp[Zb9,s2,m1,m2,m3,w3,w9,w9',putD,ZaU,hl',t1]
  ·simp[Zb9,s2,m1,m2,m3,w3,w9,w9',putD,ab,ZaU,hl',t2]
 ·by_cases w9:wy=9
  ·subst w9
   simp[Zb9,s2,m1,m2,putD,ZaU,hl',t1,Zuj]
  ·have w9':(wy==9)=false:=by simp[w9]
   simp[Zb9,s2,m1,m2,w3,w9',w9,putD,ZaU,hl',t1]
theorem Zwx(c:Int)(n:Nat)(hn:0<n)(hb:n<1000):Zc8 [.int c,.int n]=some (ZZ ((ZzX n).map λk=>ZfU c n k)):=by
 have h1:okR (n:Int)=true:=ZcM (by omega);have h2:(Zc5 0 n).length<1000000:=by rw[Zae]; simp; omega
 obtain⟨r',e1,o3,o4,o5,o6,p1⟩:=Ze8 (i:=3) (body:=Zb9) dN (λ(s:List Nat) r=>∃o3 o4 o5 o6,r=[some (.pl (.int c)),some (.pl (.int n)),some (.ol (s.map λk=>tupI (ZfU c n k))),o3,o4,o5,o6]) (ZzX n)
  [some (.pl (.int c)),some (.pl (.int n)),some (.ol []),none,none,none,none] ⟨none,none,none,none,rfl⟩ (by
   rintro s k post r hxs ⟨o3,o4,o5,o6,rfl⟩
   have hk':k<n:=ZAi.mp (by rw[hxs]; simp);have hs:s.length<n:=by have:=congrArg ZAF hxs; simp at this; omega
   obtain⟨r5,r6,r7,e⟩:=ZtX c n k (s.map λk=>tupI (ZfU c n k)) o4 o5 o6 hn (by omega) (by simp; omega);exact⟨_,e,some (.pl (dN k)),r5,r6,r7,by simp⟩)
 subst p1;have hl:n<1000000:=by omega
 simp[Zc8,Zkx,h1,Zae,hl,e1,ZZ]
end HG
namespace HG
open PySem HM
def ahV(k:Nat):Int:=if(0:Int) > (k:Int)-1 then 0 else(k:Int)-1
def beV(n k:Nat):Int:=if(n:Int)-1<(k:Int)+1 then(n:Int)-1 else(k:Int)+1
def wlV(c:Int)(k:Nat):List Int:=sortI (dedup [] (ahV k::(if ZT (c+17*(k:Int)) 9929 6=1 then[(k:Int)]else[])))
theorem ZxN(c:Int)(n k:Nat)(hk:k<n):Cr n (wlV c k):=by
 unfold wlV;have ha:0<=ahV k/\ahV k<n:=by unfold ahV; split<;>omega
 refine ZiI (Zfv _ _ (by simp)) λx hx=>?_;rw[ZfD]at hx;rcases hx with h | h
 ·simp at h
 ·rcases Zz7.mp h with e | e
  ·subst e; exact ha
  ·split at e
   ·simp at e; subst e; omega
   ·simp at e
theorem Zw4(n k:Nat)(hk:k<n):Cr n [beV n k]:=by
 have ha:0<=beV n k/\beV n k<n:=by unfold beV; split<;>omega
 exact⟨by simp,λx hx=>by simp at hx; subst hx; exact ha⟩
theorem ZtV(c:Int)(n k:Nat)(ls rs:List D)(o4 o5 o6 o7:Option B)(hk:k<8)(h1:ls.length<1000)(h2:rs.length<1000) :
  ∃r4 r5 r6,Zdu [some (.pl (.int c)),some (.pl (.int n)),some (.ol ls),some (.ol rs),some (.pl (dN k)),o5,o6,o7]=some (.nx [some (.pl (.int c)),some (.pl (.int n)),some (.ol (ls++[tupI (wlV c k)])),some (.ol (rs++[tupI [beV n k]])),some (.pl (dN k)),r4,r5,r6]):=by
 have h1':ls.length<1000000:=by omega
 have h2':rs.length<1000000:=by omega
 have m1:=Zcf (c+17*(k:Int)) 9929 6 (by decide) (by decide);have hk8:k=0\/k=1\/k=2\/k=3\/k=4\/k=5\/k=6\/k=7:=by omega
 have l1:ZrZ [if(k:Int)-1<0 then 0 else(k:Int)-1,(k:Int)]=true:=by rcases hk8 with rfl | rfl | rfl | rfl | rfl | rfl | rfl | rfl<;>rfl
 have l2:ZrZ [if(k:Int)-1<0 then 0 else(k:Int)-1]=true:=by rcases hk8 with rfl | rfl | rfl | rfl | rfl | rfl | rfl | rfl<;>rfl
 unfold wlV;generalize ZT (c+17*(k:Int)) 9929 6=a at *
 by_cases e:a=1
 ·subst e
  simp[Zdu,m1,h1',h2',ahV,beV,ZaP,Zga,l1]
 ·have e':(a==1)=false:=by simp[e]
  simp[Zdu,m1,h1',h2',ahV,beV,e,e',ZaP,Zga,l2]
theorem Zwf(c:Int)(n:Nat)(hb:n<=8):Zc9 [.int c,.int n]=some (.tuple [ZZ ((ZzX n).map λk=>wlV c k),ZZ ((ZzX n).map λk=>[beV n k])]):=by
 have h1:okR (n:Int)=true:=ZcM (by omega);obtain⟨r',e1,o4,o5,o6,o7,p1⟩:=Ze8 (i:=4) (body:=Zdu) dN (λ(s:List Nat) r=>∃o4 o5 o6 o7,r=[some (.pl (.int c)),some (.pl (.int n)),some (.ol (s.map λk=>tupI (wlV c k))),some (.ol (s.map λk=>tupI [beV n k])),o4,o5,o6,o7]) (ZzX n)
  [some (.pl (.int c)),some (.pl (.int n)),some (.ol []),some (.ol []),none,none,none,none] ⟨none,none,none,none,rfl⟩ (by
   rintro s k post r hxs ⟨o4,o5,o6,o7,rfl⟩
   have hk':k<n:=ZAi.mp (by rw[hxs]; simp);have hs:s.length<n:=by have:=congrArg ZAF hxs; simp at this; omega
   obtain⟨r5,r6,r7,e⟩:=ZtV c n k (s.map λk=>tupI (wlV c k)) (s.map λk=>tupI [beV n k]) o4 o5 o6 o7 (by omega) (by simp; omega) (by simp; omega);exact⟨_,e,some (.pl (dN k)),r5,r6,r7,by simp⟩)
 subst p1;have hl:n<1000000:=by omega
 simp[Zc9,Zky,h1,Zae,hl,e1,ZZ]
section
variable(ns:List Int)(at_:Nat)
def ZU:Nat:=(2+ZT (Zy ns at_) 9923 4).toNat
def Zb1:List (List (List Int)):=(ZzX (1+ZT (Zy ns at_) 9907 3).toNat).map λk=>(ZzX (ZU ns at_)).map λs=>ZfU (Zy ns (at_+1+k)+61*(k:Int)) (ZU ns at_) s
def ZgU:List (List (List Int)) :=
 if ZT (Zy ns at_) 9901 3=1 then[(ZzX (ZU ns at_)).map λk=>wlV (Zy ns (at_+1)) k,(ZzX (ZU ns at_)).map λk=>[beV (ZU ns at_) k]]++(Zb1 ns at_).take 1 else Zb1 ns at_
def Zhi(k:Nat):List Int:=(ZzX (ZU ns at_)).map λ(s:Nat)=>ZT (Zy ns (at_+4+k)+71*(k:Int)+13*(s:Int)*(s:Int)) 9871 (2+ZT (Zy ns (at_+4+k)+71*(k:Int)) 9883 2)
def Zg0:List (List Int):=(ZzX (ZT (Zy ns at_) 9887 4).toNat).map (Zhi ns at_)
def ZoF:List Int:=if ZT (Zy ns at_) 9859 3=1 then(ZzX (ZU ns at_)).map λ(k:Nat)=>(k:Int)else crV (Zy ns (at_+7)) (ZU ns at_)
def ZvB:List Int:=crV (Zy ns (at_+8)) (ZU ns at_)
def wkV:Wk:=⟨ZU ns at_,ZgU ns at_,Zg0 ns at_,ZoF ns at_,ZvB ns at_⟩
theorem Zkd:2<=ZU ns at_/\ZU ns at_<=5:=by have:=Zaw (Zy ns at_) 9923 4 (by decide);unfold ZU; omega
theorem ZwI:((ZU ns at_:Nat):Int)=2+ZT (Zy ns at_) 9923 4:=by have:=Zaw (Zy ns at_) 9923 4 (by decide);unfold ZU; omega
theorem ZwZ:(wkV ns at_).Ok:=by
 have hm:=Zkd ns at_;have hd3:=Zaw (Zy ns at_) 9907 3 (by decide);have dk:∀dd∈Zb1 ns at_,dd.length=ZU ns at_/\∀c∈dd,Cr (ZU ns at_) c:=by intro dd h;unfold Zb1 at h;obtain⟨k,_,rfl⟩:=Zz1.mp h;refine⟨by simp,λc hc=>?_⟩;obtain⟨s,_,rfl⟩:=Zz1.mp hc;exact Zwp _ _ _ (by omega)
 have dv:∀dd∈ZgU ns at_,dd.length=ZU ns at_/\∀c∈dd,Cr (ZU ns at_) c:=by
  intro dd h;unfold ZgU at h;split at h
  ·rcases ZAp.mp h with h | h
   ·simp at h
    rcases h with rfl | rfl
    ·refine⟨by simp,λc hc=>?_⟩
     obtain⟨s,hs,rfl⟩:=Zz1.mp hc;exact ZxN _ _ _ (ZAi.mp hs)
    ·refine⟨by simp,λc hc=>?_⟩
     obtain⟨s,hs,rfl⟩:=Zz1.mp hc;exact Zw4 _ _ (ZAi.mp hs)
   ·exact dk dd (List.mem_of_mem_take h)
  ·exact dk dd h
 have lk:(Zb1 ns at_).length=(1+ZT (Zy ns at_) 9907 3).toNat:=by unfold Zb1; simp
 have lv:1<=(ZgU ns at_).length/\(ZgU ns at_).length<=3:=by
  unfold ZgU;split
  ·simp; omega
  ·omega
 have hl4:=Zaw (Zy ns at_) 9887 4 (by decide);have lo:∀l∈Zg0 ns at_,l.length=ZU ns at_/\∀x∈l,0<=x/\x<=9:=by intro l h;unfold Zg0 at h;obtain⟨k,_,rfl⟩:=Zz1.mp h;unfold Zhi;refine⟨by simp,λx hx=>?_⟩;obtain⟨s,_,rfl⟩:=Zz1.mp hx;have h2:=Zaw (Zy ns (at_+4+k)+71*(k:Int)) 9883 2 (by decide);have h3:=Zaw (Zy ns (at_+4+k)+71*(k:Int)+13*(s:Int)*(s:Int)) 9871 (2+ZT (Zy ns (at_+4+k)+71*(k:Int)) 9883 2) (by omega);omega
 have ll:(Zg0 ns at_).length<=3:=by unfold Zg0; simp; omega
 have cb:=ZtP (Zy ns (at_+7)) (ZU ns at_) (by omega);have cg:=ZtP (Zy ns (at_+8)) (ZU ns at_) (by omega);have hb:ZoF ns at_≠[]/\Cr (ZU ns at_) (ZoF ns at_):=by
  unfold ZoF;split
  ·refine⟨λe=>?_,?_⟩
   ·have:=congrArg ZAF e
    simp at this;omega
   ·have:=ZiL (ZU ns at_) λ_=>true
    rwa [ZBw.mpr λ_ _=>rfl]at this
  ·exact⟨cb.2,cb.1⟩
 exact⟨hm.1,hm.2,lv.1,lv.2,λdd h=>(dv dd h).1,λdd h=>(dv dd h).2,ll,λl h=>(lo l h).1,λl h=>(lo l h).2,hb.1,hb.2,cg.2,cg.1⟩
theorem Zzn(k:Int)(h:0<=k):Zam [.list (ns.map dI),.int k]=some (.int (Zy ns k.toNat)):=by
 have:=Zer ns k.toNat
 rwa [ZCp h]at this
theorem ZrY(k n:Nat)(c:Option B)(ds:List D)(o6 o7 o8 o9 o10:Option B)(hk:k<1000)(h1:ds.length<1000)(hn:0<n)(hb:n<1000) :
  Zd1 [some (.pl (.list (ns.map dI))),some (.pl (.int at_)),c,some (.pl (.int n)),some (.ol ds),some (.pl (dN k)),o6,o7,o8,o9,o10] =
   some (.nx [some (.pl (.list (ns.map dI))),some (.pl (.int at_)),c,some (.pl (.int n)),some (.ol (ds++[ZZ ((ZzX n).map λs=>ZfU (Zy ns (at_+1+k)+61*(k:Int)) n s)])),some (.pl (dN k)),o6,o7,o8,o9,o10]):=by
 have h1':ds.length<1000000:=by omega
 have hc:=Zer ns (at_+1+k);have e:((at_+1+k:Nat):Int)=(at_:Int)+1+(k:Int):=by omega
 rw[e]at hc;have hd:=Zwx (Zy ns (at_+1+k)+61*(k:Int)) n hn hb;simp[Zd1,hc,hd,h1']
theorem Zsj(k n:Nat)(c o4:Option B)(ls:List D)(o7 o8 o9 o10:Option B)(hk:k<1000)(h1:ls.length<1000)(hn:n=ZU ns at_) :
  ∃r7 r8,Zc0 [some (.pl (.list (ns.map dI))),some (.pl (.int at_)),c,some (.pl (.int n)),o4,some (.pl (dN k)),some (.ol ls),o7,o8,o9,o10] =
   some (.nx [some (.pl (.list (ns.map dI))),some (.pl (.int at_)),c,some (.pl (.int n)),o4,some (.pl (dN k)),some (.ol (ls++[tupI (Zhi ns at_ k)])),r7,r8,o9,o10]):=by
 have hb:=Zkd ns at_;have h1':ls.length<1000000:=by omega
 have hc:=Zer ns (at_+4+k);have e:((at_+4+k:Nat):Int)=(at_:Int)+4+(k:Int):=by omega
 rw[e]at hc;have m1:=Zcf (Zy ns (at_+4+k)+71*(k:Int)) 9883 2 (by decide) (by decide);have b1:=Zaw (Zy ns (at_+4+k)+71*(k:Int)) 9883 2 (by decide);have hok:okR (n:Int)=true:=ZcM (by omega);have hl:n<1000000:=by omega
 unfold Zhi;rw[<-hn];generalize ZT (Zy ns (at_+4+k)+71*(k:Int)) 9883 2=mo at *;generalize Zy ns (at_+4+k)=cc at *;simp[Zc0,hc,m1,hok,h1',Zae,hl];rw[Za0 dN λ(s:Nat)=>dI (ZT (cc+71*(k:Int)+13*(s:Int)*(s:Int)) 9871 (2+mo))]
 ·refine⟨some (.pl (.int (cc+71*(k:Int)))),some (.pl (.int (2+mo))),?_⟩
  simp
 ·intro s hs
  have hs':=ZAi.mp hs;have s2:Z3 (13*(s:Int))=true:=Zju (by omega) (by omega);have m2:=Zcf (cc+71*(k:Int)+13*(s:Int)*(s:Int)) 9871 (2+mo) (by decide) (by omega);simp[s2,m2]
theorem Zuq(h:ns.length<=63):Zbb [.list (ns.map dI),.int at_]=some (wkV ns at_).d:=by
 have hb:=Zkd ns at_;have hmc:=ZwI ns at_;have c0:=Zer ns at_;have c1:=Zer ns (at_+1);have c7:=Zer ns (at_+7);have c8:=Zer ns (at_+8);have e1:((at_+1:Nat):Int)=(at_:Int)+1:=by omega
 have e7:((at_+7:Nat):Int)=(at_:Int)+7:=by omega
 have e8:((at_+8:Nat):Int)=(at_:Int)+8:=by omega
 rw[e1]at c1;rw[e7]at c7;rw[e8]at c8;have m4:=Zcf (Zy ns at_) 9923 4 (by decide) (by decide);have m3:=Zcf (Zy ns at_) 9907 3 (by decide) (by decide);have b3:=Zaw (Zy ns at_) 9907 3 (by decide);have mw:=Zcf (Zy ns at_) 9901 3 (by decide) (by decide);have ml:=Zcf (Zy ns at_) 9887 4 (by decide) (by decide);have bl:=Zaw (Zy ns at_) 9887 4 (by decide);have mb:=Zcf (Zy ns at_) 9859 3 (by decide) (by decide);have wk:=Zwf (Zy ns (at_+1)) (ZU ns at_) (by omega);have k7:=Zpj (Zy ns (at_+7)) (ZU ns at_) (by omega) (by omega);have k8:=Zpj (Zy ns (at_+8)) (ZU ns at_) (by omega) (by omega);have hlen:¬(63:Int)<(ns.length:Int):=by omega
 have ok3:okR (1+ZT (Zy ns at_) 9907 3)=true:=ZC3.mpr (by omega);have okl:okR (ZT (Zy ns at_) 9887 4)=true:=ZC3.mpr (by omega);have okm:okR ((ZU ns at_:Nat):Int)=true:=ZcM (by omega);obtain⟨r1,f1,o5,q1⟩:=Ze8 (i:=5) (body:=Zd1) dN (λ(s:List Nat) r=>∃o5,r=[some (.pl (.list (ns.map dI))),some (.pl (.int at_)),some (.pl (.int (Zy ns at_))),some (.pl (.int (ZU ns at_))),
   some (.ol (s.map λk=>ZZ ((ZzX (ZU ns at_)).map λs=>ZfU (Zy ns (at_+1+k)+61*(k:Int)) (ZU ns at_) s))),o5,none,none,none,none,none]) (ZzX (1+ZT (Zy ns at_) 9907 3).toNat)
  [some (.pl (.list (ns.map dI))),some (.pl (.int at_)),some (.pl (.int (Zy ns at_))),some (.pl (.int (ZU ns at_))),some (.ol []),none,none,none,none,none,none] ⟨none,rfl⟩ (by
   rintro s k post r hxs ⟨o5,rfl⟩
   have hk':=ZAi.mp (show k∈ZzX (1+ZT (Zy ns at_) 9907 3).toNat by rw[hxs]; simp);have hs:s.length<4:=by have:=congrArg ZAF hxs; simp at this; omega
   have e:=ZrY ns at_ k (ZU ns at_) (some (.pl (.int (Zy ns at_)))) (s.map λk=>ZZ ((ZzX (ZU ns at_)).map λs=>ZfU (Zy ns (at_+1+k)+61*(k:Int)) (ZU ns at_) s)) none none none none none (by omega) (by simp; omega) (by omega) (by omega);exact⟨_,e,some (.pl (dN k)),by simp⟩)
 subst q1;have lks:∀(o4 o5:Option B),∃r2,ZaQ 5 Zc0 ((ZzX (ZT (Zy ns at_) 9887 4).toNat).map dN) [some (.pl (.list (ns.map dI))),some (.pl (.int at_)),some (.pl (.int (Zy ns at_))),some (.pl (.int (ZU ns at_))),o4,o5,some (.ol []),none,none,none,none]=some (.nx r2) /\
   ∃o5 o7 o8,r2=[some (.pl (.list (ns.map dI))),some (.pl (.int at_)),some (.pl (.int (Zy ns at_))),some (.pl (.int (ZU ns at_))),o4,o5,some (.ol ((ZzX (ZT (Zy ns at_) 9887 4).toNat).map λk=>tupI (Zhi ns at_ k))),o7,o8,none,none]:=by
  intro o4 o5;refine Ze8 (i:=5) (body:=Zc0) dN (λ(s:List Nat) r=>∃o5 o7 o8,r=[some (.pl (.list (ns.map dI))),some (.pl (.int at_)),some (.pl (.int (Zy ns at_))),some (.pl (.int (ZU ns at_))),
   o4,o5,some (.ol (s.map λk=>tupI (Zhi ns at_ k))),o7,o8,none,none]) (ZzX (ZT (Zy ns at_) 9887 4).toNat) _ ⟨o5,none,none,rfl⟩ ?_
  rintro s k post r hxs ⟨o5,o7,o8,rfl⟩
  have hk':=ZAi.mp (show k∈ZzX (ZT (Zy ns at_) 9887 4).toNat by rw[hxs]; simp);have hs:s.length<4:=by have:=congrArg ZAF hxs; simp at this; omega
  obtain⟨r7,r8,e⟩:=Zsj ns at_ k (ZU ns at_) (some (.pl (.int (Zy ns at_)))) o4 (s.map λk=>tupI (Zhi ns at_ k)) o7 o8 none none (by omega) (by simp; omega) rfl;exact⟨_,e,some (.pl (dN k)),r7,r8,by simp⟩
 have n3:(1+ZT (Zy ns at_) 9907 3).toNat<1000000:=by omega
 have nl:(ZT (Zy ns at_) 9887 4).toNat<1000000:=by omega
 have nm:ZU ns at_<1000000:=by omega
 have hdk:((ZzX (1+ZT (Zy ns at_) 9907 3).toNat).map λk=>ZZ ((ZzX (ZU ns at_)).map λs=>ZfU (Zy ns (at_+1+k)+61*(k:Int)) (ZU ns at_) s))=(Zb1 ns at_).map ZZ:=by unfold Zb1; simp
 have hlk:((ZzX (ZT (Zy ns at_) 9887 4).toNat).map λk=>tupI (Zhi ns at_ k))=(Zg0 ns at_).map tupI:=by unfold Zg0; simp
 rw[hdk]at f1;simp only[hlk]at lks;have dkl:(Zb1 ns at_).length<10:=by unfold Zb1; simp; omega
 unfold wkV Wk.d ZgU ZoF ZvB;simp only
 by_cases w1:ZT (Zy ns at_) 9901 3=1
 ·have w1':(ZT (Zy ns at_) 9901 3==1)=true:=by simp[w1]
  have cut:cutD ((Zb1 ns at_).map ZZ) none (some 1)=((Zb1 ns at_).take 1).map ZZ:=by unfold cutD sIx;simp
  obtain⟨r2,f2,p5,p7,p8,q2⟩:=lks (some (.ol (ZZ ((ZzX (ZU ns at_)).map λk=>wlV (Zy ns (at_+1)) k)::ZZ ((ZzX (ZU ns at_)).map λk=>[beV (ZU ns at_) k])::List.take 1 ((Zb1 ns at_).map ZZ)))) o5;subst q2;have c2:min 1 (Zb1 ns at_).length+1+1<1000000:=by omega
  have c3:(2:Nat)+min 1 (Zb1 ns at_).length<1000000:=by omega
  by_cases w2:ZT (Zy ns at_) 9859 3=1
  ·have w2':(ZT (Zy ns at_) 9859 3==1)=true:=by simp[w2]
   simp[Zbb,Zdv,c0,m4,<-hmc,hlen,m3,ok3,Zae,n3,f1,mw,w1',c1,wk,cut,w1,ml,okl,nl,f2,c7,k7,mb,w2',okm,nm,c8,k8,w2,c2,c3]
  ·have w2':(ZT (Zy ns at_) 9859 3==1)=false:=by simp[w2]
   simp[Zbb,Zdv,c0,m4,<-hmc,hlen,m3,ok3,Zae,n3,f1,mw,w1',c1,wk,cut,w1,ml,okl,nl,f2,c7,k7,mb,w2',okm,nm,c8,k8,w2,c2,c3]
 ·have w1':(ZT (Zy ns at_) 9901 3==1)=false:=by simp[w1]
  obtain⟨r2,f2,p5,p7,p8,q2⟩:=lks (some (.ol ((Zb1 ns at_).map ZZ))) o5;subst q2
  by_cases w2:ZT (Zy ns at_) 9859 3=1
  ·have w2':(ZT (Zy ns at_) 9859 3==1)=true:=by simp[w2]
   simp[Zbb,Zdv,c0,m4,<-hmc,hlen,m3,ok3,Zae,n3,f1,mw,w1',w1,ml,okl,nl,f2,c7,k7,mb,w2',okm,nm,c8,k8,w2]
  ·have w2':(ZT (Zy ns at_) 9859 3==1)=false:=by simp[w2]
   simp[Zbb,Zdv,c0,m4,<-hmc,hlen,m3,ok3,Zae,n3,f1,mw,w1',w1,ml,okl,nl,f2,c7,k7,mb,w2',okm,nm,c8,k8,w2]
end
end HG
namespace HG
open PySem HM
variable{c:List Int}{n:Nat}{w:Wk}
theorem Zpo{e:EF}{r:HM.Env}{f:D->D}(xs:List D)(h:∀x∈xs,e (some (.pl x)::r)=some (f x)):Zap ZN e r xs=some (xs.map f):=by
 have:=Za0 (e:=e) (r:=r) id f xs h
 rwa [List.map_id]at this
theorem Zpc(xs:List D)(p:D->Bool):ZeU (xs.map λx=>ZBk (p x))=some (xs.map p):=by
 have:=ZeX (xs.map p)
 rwa [ZAe]at this
def ZgO(d:D)(lo hi:Int):Bool:=match d with
 | .int i=>decide (lo<=i)&&decide (i<=hi)
 | _=>false
def ndD:D->Prop
 | .dict _=>False
 | _=>True
theorem ZeS(d:D)(lo hi:Int)(nd:ndD d:=by trivial):Zat [d,.int lo,.int hi]=some (.bool (ZgO d lo hi)):=by
 cases d<;>first | exact nd.elim | simp[Zat,Zi3,ZgO]
 rename_i i
 by_cases h:lo<=i<;>simp[h]
def Zdk(d:D)(lo hi:Int):Bool:=match d with
 | .tuple ds=>decide (lo<=(ds.length:Int))&&decide ((ds.length:Int)<=hi)
 | _=>false
theorem ZdK(d:D)(lo hi:Int)(nd:ndD d:=by trivial):Zaq [d,.int lo,.int hi]=some (.bool (Zdk d lo hi)):=by
 cases d<;>first | exact nd.elim | simp[Zaq,ZmI,Zdk]
 rename_i ds
 by_cases h:lo<=(ds.length:Int)<;>simp[h]
def Zcr(many:Int):Int->List D->Bool
 | _,[]=>true
 | l,.int i::r=>(decide (l<=i)&&decide (i<=many-1))&&Zcr many (i+1) r
 | _,_::_=>false
def Zkb(d:D)(many:Int):Bool:=match d with
 | .tuple ds=>Zcr many 0 ds
 | _=>false
theorem Zrj(d:D)(many:Int):∀(ds:List D) (l:Int) (o:Option B),(∀x∈ds,ndD x) ->
  (Zcr many l ds=true->∃l' o',ZaQ 3 ZaG ds [some (.pl d),some (.pl (.int many)),some (.pl (.int l)),o]=some (.nx [some (.pl d),some (.pl (.int many)),some (.pl (.int l')),o'])) /\
  (Zcr many l ds=false->ZaQ 3 ZaG ds [some (.pl d),some (.pl (.int many)),some (.pl (.int l)),o]=some (.rt (.bool false)))
 | [],l,o,_=>⟨λ_=>⟨l,o,rfl⟩,λh=>by simp[Zcr]at h⟩
 | x::ds,l,o,nd=>by
  have key:=ZeS x l (many-1) (nd x (ZzT ..));cases hx:ZgO x l (many-1)with
  | false =>
   have e:ZaG [some (.pl d),some (.pl (.int many)),some (.pl (.int l)),some (.pl x)]=some (.rt (.bool false)):=by rw[hx]at key;simp[ZaG,key]
   have e2:Zcr many l (x::ds)=false:=by cases x<;>simp[Zcr];rename_i i;simp[ZgO]at hx;intro h1 h2;exact absurd (hx h1) (by omega)
   refine⟨λh=>?_,λ_=>?_⟩
   ·rw[e2]at h; cases h
   ·unfold ZaQ
    show(match ZaG [some (.pl d),some (.pl (.int many)),some (.pl (.int l)),some (.pl x)]with | some (.nx r')=>_ | some (.ct r')=>_ | some (.bk r')=>_ | some (.rt d)=>_ | none=>_)=_;rw[e]
  | true =>
   cases x with
   | int i =>
    have e:ZaG [some (.pl d),some (.pl (.int many)),some (.pl (.int l)),some (.pl (.int i))]=some (.nx [some (.pl d),some (.pl (.int many)),some (.pl (.int (i+1))),some (.pl (.int i))]):=by rw[hx]at key;simp[ZaG,key]
    have e2:Zcr many l (.int i::ds)=Zcr many (i+1) ds:=by have:(decide (l<=i)&&decide (i<=many-1))=true:=hx;simp only[Zcr,this,ZEK]
    obtain⟨a1,a2⟩:=Zrj d many ds (i+1) (some (.pl (.int i))) λx hx=>nd x (ZzU _ hx);rw[e2];have e3:ZaQ 3 ZaG (.int i::ds) [some (.pl d),some (.pl (.int many)),some (.pl (.int l)),o]=ZaQ 3 ZaG ds [some (.pl d),some (.pl (.int many)),some (.pl (.int (i+1))),some (.pl (.int i))]:=by show(match ZaG [some (.pl d),some (.pl (.int many)),some (.pl (.int l)),some (.pl (.int i))]with | some (.nx r')=>_ | some (.ct r')=>_ | some (.bk r')=>_ | some (.rt d)=>_ | none=>_)=_;rw[e]
    rw[e3];exact⟨a1,a2⟩
   | _=>simp[ZgO]at hx
theorem ZjH(d:D)(many:Int)(hl:∀ds,d=.tuple ds->ds.length<1000000/\∀x∈ds,ndD x)(nd:ndD d:=by trivial):Zaa [d,.int many]=some (.bool (Zkb d many)):=by
 cases d with
 | tuple ds =>
  obtain⟨hl,hn⟩:=hl ds rfl;obtain⟨a1,a2⟩:=Zrj (.tuple ds) many ds 0 none hn;cases h:Zcr many 0 ds with
  | true=>obtain⟨l',o',e⟩:=a1 h;simp[Zaa,Zev,Zkb,h,hl,e]
  | false=>have e:=a2 h;simp[Zaa,Zev,Zkb,h,hl,e]
 | dict _=>exact nd.elim
 | _=>simp[Zaa,Zev,Zkb]
def small:D->Prop
 | .tuple ds=>ds.length<1000000/\∀x∈ds,ndD x
 | .dict _=>False
 | _=>True
theorem Zly(h:(c.map dI).length<1000000):small (tupI c):=⟨h,λx hx=>by obtain⟨i,_,rfl⟩:=Zz1.mp hx; trivial⟩
theorem Zo7{d:D}(h:small d):ndD d:=by cases d<;>first | exact h.elim | trivial
theorem ZsI{d:D}(h:small d):∀ds,d=.tuple ds->ds.length<1000000/\∀x∈ds,ndD x:=by rintro ds rfl; exact h
def ZjZ(d:D)(many:Int):Bool:=Zdk d many many&&(match d with | .tuple ds=>ds.all λc=>Zkb c many | _=>false)
def ZlC(d:D):Prop:=match d with | .tuple ds=>ds.length<1000000/\∀x∈ds,small x | .dict _=>False | _=>True
theorem ZuC{d:D}(h:ZlC d):ndD d:=by cases d<;>first | exact h.elim | trivial
theorem Zsa(d:D)(many:Int)(hs:ZlC d):Zcm [d,.int many]=some (.bool (ZjZ d many)):=by
 have h1:=ZdK d many many (ZuC hs);cases hr:Zdk d many many with
 | false=>rw[hr]at h1; simp[Zcm,Zh5,h1,ZjZ,hr]
 | true =>
  rw[hr]at h1;cases d with
  | tuple ds =>
   have hs':ds.length<1000000/\∀x∈ds,small x:=hs;simp[Zcm,Zh5,h1,ZjZ,hr,hs'.1];rw[Zpo (f:=λc=>.bool (Zkb c many))]
   ·simp[Zpc]
   ·intro x hx
    simp[ZjH x many (ZsI (hs'.2 x hx)) (Zo7 (hs'.2 x hx))]
  | _=>simp[Zdk]at hr
def Zjq(d:D)(many:Int):Bool:=Zdk d many many&&(match d with | .tuple ds=>ds.all λc=>ZgO c 0 9 | _=>false)
theorem Zr3(d:D)(many:Int)(hs:small d):Zcn [d,.int many]=some (.bool (Zjq d many)):=by
 have h1:=ZdK d many many (Zo7 hs);cases hr:Zdk d many many with
 | false=>rw[hr]at h1; simp[Zcn,Zh6,h1,Zjq,hr]
 | true =>
  rw[hr]at h1;cases d with
  | tuple ds =>
   have hs':ds.length<1000000:=hs.1;simp[Zcn,Zh6,h1,Zjq,hr,hs'];rw[Zpo (f:=λc=>.bool (ZgO c 0 9))]
   ·simp[Zpc]
   ·intro x hx
    simp[ZeS x 0 9 (hs.2 x hx)]
  | _=>simp[Zdk]at hr
structure Wk.V(w:Wk):Prop where
 m1:1<=w.many
 m2:w.many<=8
 d1:1<=w.deeds.length
 d2:w.deeds.length<=5
 dl:∀dd∈w.deeds,dd.length=w.many
 dc:∀dd∈w.deeds,∀c∈dd,Cr w.many c
 l2:w.looks.length<=4
 ll:∀l∈w.looks,l.length=w.many
 lc:∀l∈w.looks,∀x∈l,0<=x/\x<=9
 b1:w.beg≠[]
 bc:Cr w.many w.beg
 gc:Cr w.many w.goal
theorem Wk.Ok.v(h:w.Ok):Wk.V w:=by obtain⟨m1,m2,d1,d2,dl,dc,l2,ll,lc,b1,bc,g1,gc⟩:=h;exact⟨by omega,by omega,d1,by omega,dl,dc,by omega,ll,lc,b1,bc,gc⟩
theorem Zmd(n:Nat):∀(c:List Int) (l:Int),c.Pairwise (· < ·)->(∀x∈c,l<=x/\x<(n:Int))->Zcr n l (c.map dI)=true
 | [],_,_,_=>rfl
 | x::c,l,hp,hb=>by have h1:=hb x (ZzT ..);have ih:=Zmd n c (x+1) (ZAK.mp hp).2 λy hy=>⟨by have:=(ZAK.mp hp).1 y hy; omega,(hb y (ZzU _ hy)).2⟩;show((decide (l<=x)&&decide (x<=(n:Int)-1))&&Zcr n (x+1) (c.map dI))=true;rw[ih,decide_eq_true h1.1,decide_eq_true (show x<=(n:Int)-1 by omega)];rfl
theorem ZjO(h:Cr n c)(hn:n<1000):Zaa [tupI c,.int n]=some (.bool true):=by have hl:=h.len;rw[ZjH (tupI c) n (by intro ds e; cases e; exact⟨by simp; omega,λx hx=>by obtain⟨i,_,rfl⟩:=Zz1.mp hx; trivial⟩)];show some (ZBk (Zcr n 0 (c.map dI)))=_;rw[Zmd n c 0 h.1 h.2]
theorem ZqH(h:Cr n c)(h0:c≠[])(hn:n<1000):Zc7 [tupI c,.int n]=some (.bool true):=by
 have h1:=ZjO h hn;have h2:(0:Int)<(c.length:Int):=by have:=ZDB.mpr h0;omega
 simp[Zc7,Zkt,h1];exact ZDB.mpr h0
theorem Zwb(h:Wk.V w){dd:List (List Int)}(hd:dd∈w.deeds):Zcm [ZZ dd,.int w.many]=some (.bool true):=by
 have hl:=h.dl dd hd;have m2:=h.m2;rw[Zsa (ZZ dd) _ (show(dd.map tupI).length<1000000/\∀x∈dd.map tupI,small x by refine⟨by simp; omega,λx hx=>?_⟩;obtain⟨c,hc,rfl⟩:=Zz1.mp hx;have:=(h.dc dd hd c hc).len;refine Zly ?_;simp; omega)];have e:ZjZ (ZZ dd) w.many=true:=by unfold ZjZ ZZ Zdk;simp[hl];intro c hc;exact Zmd w.many c 0 (h.dc dd hd c hc).1 (h.dc dd hd c hc).2
 rw[e]
theorem ZwD(h:Wk.V w){l:List Int}(hd:l∈w.looks):Zcn [tupI l,.int w.many]=some (.bool true):=by
 have hl:=h.ll l hd;have m2:=h.m2;rw[Zr3 (tupI l) _ (Zly (show(l.map dI).length<1000000 by simp; omega))];have e:Zjq (tupI l) w.many=true:=by unfold Zjq Zdk;simp[hl];intro x hx;have:=h.lc l hd x hx;simp[ZgO];omega
 rw[e]
theorem allTrue(α:Type)(xs:List α):ZeU (xs.map λ_=>ZBk true)=some (xs.map λ_=>true):=by
 have:=ZeX (xs.map λ_=>true)
 rwa [ZAe]at this
theorem Zph(h:Wk.V w):ZcA [.tuple (w.deeds.map ZZ),.int w.many]=some (.bool true):=by
 have h1:=ZdK (.tuple (w.deeds.map ZZ)) 1 5;have d1:=h.d1;have d2:=h.d2;have e:Zdk (.tuple (w.deeds.map ZZ)) 1 5=true:=by simp[Zdk]; omega
 rw[e]at h1;have hl:w.deeds.length<1000000:=by omega
 simp[ZcA,Zi4,h1,hl];rw[Za0 ZZ (λ_=>.bool true)]
 ·simp[allTrue]
 ·intro x hx
  simp[Zwb h hx]
theorem ZpJ(h:Wk.V w):ZcB [.tuple (w.looks.map tupI),.int w.many]=some (.bool true):=by
 have h1:=ZdK (.tuple (w.looks.map tupI)) 0 4;have d2:=h.l2;have e:Zdk (.tuple (w.looks.map tupI)) 0 4=true:=by simp[Zdk]; omega
 rw[e]at h1;have hl:w.looks.length<1000000:=by omega
 simp[ZcB,Zi5,h1,hl];rw[Za0 tupI (λ_=>.bool true)]
 ·simp[allTrue]
 ·intro x hx
  simp[ZwD h hx]
theorem Zp0(h:Wk.V w):ZcC [w.d]=some (.bool true):=by
 have h1:=ZdK w.d 5 5;have e:Zdk w.d 5 5=true:=by simp[Zdk,Wk.d]
 rw[e]at h1;have h2:=ZeS (.int w.many) 1 8;have m1:=h.m1;have m2:=h.m2;have e2:ZgO (.int w.many) 1 8=true:=by simp[ZgO]; omega
 rw[e2]at h2;have h3:=Zph h;have h4:=ZpJ h;have h5:=ZqH h.bc h.b1 (by omega);have h6:=ZjO h.gc (by omega);unfold Wk.d at h1 ⊢;simp[ZcC,Zi6,h1,h2,h3,h4,h5,h6]
theorem Ziw(h:Wk.V w):ZbG [w.d]=some w.d:=by simp[ZbG,Zlh,Zp0 h]
theorem Zfy(w:Wk):Za2 [w.d]=some (.tuple (w.deeds.map ZZ)):=by simp[Za2,Zku,Wk.d]
theorem Zfs(w:Wk):Za3 [w.d]=some (.tuple (w.looks.map tupI)):=by simp[Za3,Zkv,Wk.d]
theorem Zla(h:Wk.V w){ls:List Int}(hl:Cr w.looks.length ls):ZbC [w.d,tupI ls]=some (tupI ls):=by have l2:=h.l2;have h1:=ZjO hl (by omega);simp[ZbC,Zgh,Zfs,h1]
end HG
namespace HG
open PySem HM
variable{l s:Int}{c:List Int}{w:Wk}
def ZbT(w:Wk)(d s:Int):List Int:=(w.deeds[d.toNat]?.getD [])[s.toNat]?.getD []
def Zf9(w:Wk)(l s:Int):Int:=(w.looks[l.toNat]?.getD [])[s.toNat]?.getD 0
def Zad(w:Wk)(c:List Int)(d:Int):Bool:=c.all λs=>decide (0<(ZbT w d s).length)
def Zbg(w:Wk)(c:List Int)(d:Int):List Int:=c.flatMap λs=>ZbT w d s
def ZY(w:Wk)(c:List Int)(d:Int):List Int:=sortI (dedup [] (Zbg w c d))
def ZA(w:Wk)(ls:List Int)(s:Int):List Int:=ls.map λl=>Zf9 w l s
theorem Zmw{d:Int}(h0:0<=d)(h1:d<w.deeds.length):atD (w.deeds.map ZZ) d=some (ZZ (w.deeds[d.toNat]?.getD [])):=by
 refine Zj7 h0 ?_;have h:d.toNat<w.deeds.length:=by omega
 simp[h,ZBt]
theorem ZoT(hv:Wk.V w){d:Int}(h0:0<=d)(h1:d<w.deeds.length)(h2:0<=s)(h3:s<w.many):atD ((w.deeds[d.toNat]?.getD []).map tupI) s=some (tupI (ZbT w d s)):=by
 refine Zj7 h2 ?_;have h:d.toNat<w.deeds.length:=by omega
 have hl:(w.deeds[d.toNat]?.getD []).length=w.many:=by
  have:w.deeds[d.toNat]?.getD []=w.deeds[d.toNat]:=by simp[h,ZBt]
  rw[this];exact hv.dl _ (ZBl h)
 have h':s.toNat<(w.deeds[d.toNat]?.getD []).length:=by omega
 unfold ZbT;rw[ZAk,Zz2 h'];simp[ZBt,h']
theorem ZpI(hv:Wk.V w){d:Int}(h0:0<=d)(h1:d<w.deeds.length)(h2:0<=s)(h3:s<w.many):Cr w.many (ZbT w d s):=by
 have h:d.toNat<w.deeds.length:=by omega
 have e:w.deeds[d.toNat]?.getD []=w.deeds[d.toNat]:=by simp[h,ZBt]
 have hl:=hv.dl _ (ZBl h);unfold ZbT;rw[e];have h':s.toNat<(w.deeds[d.toNat]).length:=by omega
 have e2:(w.deeds[d.toNat])[s.toNat]?.getD []=(w.deeds[d.toNat])[s.toNat]:=by simp[h',ZBt]
 rw[e2];exact hv.dc _ (ZBl h) _ (ZBl h')
theorem Zro(h0:0<=l)(h1:l<w.looks.length):atD (w.looks.map tupI) l=some (tupI (w.looks[l.toNat]?.getD [])):=by
 refine Zj7 h0 ?_;have h:l.toNat<w.looks.length:=by omega
 simp[h,ZBt]
theorem Zq1(hv:Wk.V w)(h0:0<=l)(h1:l<w.looks.length)(h2:0<=s)(h3:s<w.many):atD ((w.looks[l.toNat]?.getD []).map dI) s=some (.int (Zf9 w l s)):=by
 refine Zj7 h2 ?_;have h:l.toNat<w.looks.length:=by omega
 have hl:(w.looks[l.toNat]?.getD []).length=w.many:=by
  have:w.looks[l.toNat]?.getD []=w.looks[l.toNat]:=by simp[h,ZBt]
  rw[this];exact hv.ll _ (ZBl h)
 have h':s.toNat<(w.looks[l.toNat]?.getD []).length:=by omega
 unfold Zf9;rw[ZAk,Zz2 h'];simp[ZBt,h']
theorem Zsu(hv:Wk.V w){ls:List Int}(hl:Cr w.looks.length ls)(h2:0<=s)(h3:s<w.many):ZdL [w.d,tupI ls,.int s]=some (tupI (ZA w ls s)):=by
 have l2:=hv.l2;have hlen:=hl.len;have hb:ls.length<1000000:=by omega
 simp[ZdL,Zli,hb];rw[Za0 dI (λl=>dI (Zf9 w l s))]
 ·simp[ZA]
 ·intro l hl'
  have hb:=hl.2 l hl';simp[Zfs,Zro hb.1 hb.2,Zq1 hv hb.1 hb.2 h2 h3]
theorem ZmH(hv:Wk.V w)(hc:Cr w.many c){d:Int}(h0:0<=d)(h1:d<w.deeds.length):Zb8 [w.d,tupI c,.int d]=some (.bool (Zad w c d)):=by
 have m2:=hv.m2;have hlen:=hc.len;have hb:c.length<1000000:=by omega
 simp[Zb8,ZhN,Zfy,Zmw h0 h1,hb];rw[Za0 dI (λs=>.bool (decide (0<(ZbT w d s).length)))]
 ·have e:=ZeX (c.map λs=>decide (0<(ZbT w d s).length))
  rw[ZAe]at e;have e':((λb=>ZBk b)∘λs=>decide (0<(ZbT w d s).length))=λs=>ZBk (decide (0<(ZbT w d s).length)):=rfl;rw[e']at e;simp[e,Zad]
 ·intro s hs
  have hb:=hc.2 s hs;simp[ZZ,ZoT hv h0 h1 hb.1 hb.2]
def doV(w:Wk)(c:List Int):List Int:=((ZzX w.deeds.length).filter λ(d:Nat)=>Zad w c (d:Int)).map λ(k:Nat)=>(k:Int)
theorem ZnH(hv:Wk.V w)(hc:Cr w.many c):Zcj [w.d,tupI c]=some (.list ((doV w c).map dI)):=by
 have d2:=hv.d2;have hok:okR (w.deeds.length:Int)=true:=ZcM (by omega);have hb:w.deeds.length<1000000:=by omega
 simp[Zcj,ZiR,Zfy,hok,Zae,hb];rw[ZbZ dN (λk:Nat=>Zad w c k) dN]
 ·simp[doV]
 ·intro k hk
  have hk':=ZAi.mp hk;simp[ZmH hv hc (show(0:Int)<=(k:Int) by omega) (by omega)]
 ·intro k hk _
  simp
def Zcx(acc:List Int)(x:Int):List Int:=if acc.contains x then acc else acc++[x]
theorem Zf7:∀(l acc:List Int),dedup acc l=l.foldl Zcx acc
 | [],acc=>rfl
 | x::l,acc=>by
  unfold dedup;rw[ZA3];unfold Zcx;split
  ·rw[Zf7 l acc]; rfl
  ·rw[Zf7 l (acc++[x])]; rfl
def tru(acc:List Int):List (Ky × D):=acc.map λi=>(ZBL i,ZBk true)
theorem Zwe(acc:List Int)(x:Int):putD (tru acc) (ZBL x) (ZBk true)=tru (Zcx acc x):=by
 unfold putD Zcx tru
 by_cases h:x∈acc
 ·have e1:((acc.map λi=>((ZBL i:Ky),ZBk true)).any λp=>decide (p.1=ZBL x))=true:=by
   simp; exact h
  have e2:acc.contains x=true:=by simpa using h
  rw[if_pos e1,if_pos e2,ZAe];refine ZBv λi _=>?_;simp
 ·have e1:¬((acc.map λi=>((ZBL i:Ky),ZBk true)).any λp=>decide (p.1=ZBL x))=true:=by
   simp; exact h
  have e2:¬acc.contains x=true:=by simpa using h
  rw[if_neg e1,if_neg e2];simp
theorem Zm0(acc:List Int)(x:Int):(Zcx acc x).length<=acc.length+1:=by unfold Zcx; split<;>simp
theorem ZoM:∀(l acc:List Int),(l.foldl Zcx acc).length<=acc.length+l.length
 | [],acc=>by simp
 | x::l,acc=>by rw[ZA3];have:=ZoM l (Zcx acc x);have:=Zm0 acc x;simp; omega
theorem ZtQ(e0 e1 e2 e3 e5:Option B):∀(l acc:List Int) (o:Option B),acc.length+l.length<1000000 ->
  ∃o',ZaQ 6 Zew (l.map dI) [e0,e1,e2,e3,some (.ok (tru acc)),e5,o]=some (.nx [e0,e1,e2,e3,some (.ok (tru (l.foldl Zcx acc))),e5,o'])
 | [],acc,o,_=>⟨o,rfl⟩
 | x::l,acc,o,h=>by
  rw[Zz8]at h;have hb:acc.length<1000000:=by omega
  have e:Zew [e0,e1,e2,e3,some (.ok (tru acc)),e5,some (.pl (dI x))]=some (.nx [e0,e1,e2,e3,some (.ok (tru (Zcx acc x))),e5,some (.pl (dI x))]):=by
   have hl:(tru acc).length<1000000:=by unfold tru; simp; exact hb
   simp[Zew,hl,Zwe]
  have hd:=Zm0 acc x;obtain⟨o',e'⟩:=ZtQ e0 e1 e2 e3 e5 l (Zcx acc x) (some (.pl (dI x))) (by omega);refine⟨o',?_⟩;rw[ZzZ,ZA3,<-e'];unfold ZaQ;show(match Zew [e0,e1,e2,e3,some (.ok (tru acc)),e5,some (.pl (dI x))]with | some (.nx r')=>_ | some (.ct r')=>_ | some (.bk r')=>_ | some (.rt d)=>_ | none=>_)=_;rw[e];cases l<;>rfl
theorem ZtL{w:Wk}(hv:Wk.V w){d:Int}(h0:0<=d)(h1:d<w.deeds.length)(e1 e2:Option B):∀(c acc:List Int) (o5 o6:Option B),(∀s∈c,0<=s/\s<(w.many:Int))->acc.length+c.length*10<100000 ->
  ∃o5' o6',ZaQ 5 Zex (c.map dI) [some (.pl w.d),e1,e2,some (.pl (ZZ (w.deeds[d.toNat]?.getD []))),some (.ok (tru acc)),o5,o6]=some (.nx [some (.pl w.d),e1,e2,some (.pl (ZZ (w.deeds[d.toNat]?.getD []))),some (.ok (tru ((Zbg w c d).foldl Zcx acc))),o5',o6'])
 | [],acc,o5,o6,_,_=>⟨o5,o6,rfl⟩
 | s::c,acc,o5,o6,hs,hl=>by
  rw[Zz8]at hl;have hb:=hs s (ZzT ..);have hr:=(ZpI hv h0 h1 hb.1 hb.2).len;have m2:=hv.m2;have hrl:(ZbT w d s).length<1000000:=by omega
  obtain⟨o',e⟩:=ZtQ (some (.pl w.d)) e1 e2 (some (.pl (ZZ (w.deeds[d.toNat]?.getD [])))) (some (.pl (dI s))) (ZbT w d s) acc o6 (by omega);have e':Zex [some (.pl w.d),e1,e2,some (.pl (ZZ (w.deeds[d.toNat]?.getD []))),some (.ok (tru acc)),some (.pl (dI s)),o6]=some (.nx [some (.pl w.d),e1,e2,some (.pl (ZZ (w.deeds[d.toNat]?.getD []))),some (.ok (tru ((ZbT w d s).foldl Zcx acc))),some (.pl (dI s)),o']):=by unfold ZZ at e ⊢;simp[Zex,ZoT hv h0 h1 hb.1 hb.2,hrl,e]
  have hf:=ZoM (ZbT w d s) acc;obtain⟨p5,p6,ih⟩:=ZtL hv h0 h1 e1 e2 c ((ZbT w d s).foldl Zcx acc) (some (.pl (dI s))) o' (λx hx=>hs x (ZzU _ hx)) (by omega);refine⟨p5,p6,?_⟩;have ef:Zbg w (s::c) d=ZbT w d s++Zbg w c d:=rfl;rw[ef,ZDe,<-ih,ZzZ];show(match Zex [some (.pl w.d),e1,e2,some (.pl (ZZ (w.deeds[d.toNat]?.getD []))),some (.ok (tru acc)),some (.pl (dI s)),o6]with | some (.nx r')=>_ | some (.ct r')=>_ | some (.bk r')=>_ | some (.rt d)=>_ | none=>_)=_;rw[e']
theorem ZtO(hv:Wk.V w)(hc:Cr w.many c){d:Int}(h0:0<=d)(h1:d<w.deeds.length):∀x∈Zbg w c d,0<=x/\x<(w.many:Int):=by intro x hx;obtain⟨s,hs,h⟩:=ZCm.mp hx;exact(ZpI hv h0 h1 (hc.2 s hs).1 (hc.2 s hs).2).2 x h
theorem ZdR(hv:Wk.V w)(hc:Cr w.many c){d:Int}(h0:0<=d)(h1:d<w.deeds.length):Cr w.many (ZY w c d):=by refine ZiI (Zfv _ _ (by simp)) λx hx=>ZtO hv hc h0 h1 x ?_;rw[ZfD]at hx;simpa using hx
theorem ZsO(hv:Wk.V w)(hc:Cr w.many c){d:Int}(h0:0<=d)(h1:d<w.deeds.length):Zdt [w.d,tupI c,.int d]=some (tupI (ZY w c d)):=by
 have m2:=hv.m2;have hlen:=hc.len;have hb:c.length<1000000:=by omega
 obtain⟨o5,o6,e⟩:=ZtL hv h0 h1 (some (.pl (tupI c))) (some (.pl (.int d))) c [] none none hc.2 (by simp; omega);have hl:(dedup [] (Zbg w c d)).length<64:=by have h:=(ZdR hv hc h0 h1).len;have:=(sortI_perm (dedup [] (Zbg w c d))).length_eq;unfold ZY at h;omega
 have hs:=Zix _ hl;rw[Zf7]at hs;have ek:(tru ((Zbg w c d).foldl Zcx [])).map (λp=>ZaU p.1)=((Zbg w c d).foldl Zcx []).map dI:=by unfold tru;rw[ZAe];rfl
 simp[Zdt,ZmJ,Zfy,Zmw h0 h1,hb];rw[show some (B.ok [])=some (B.ok (tru [])) from rfl,e];simp[ek,hs,ZY,Zf7]
end HG
namespace HG
open PySem HM
abbrev Gs:=List (List Int × List Int)
abbrev Zab(k:List Int):List Ky:=k.map ZBL
def ZaT(g:Gs):List (List Ky × List D):=g.map λp=>(Zab p.1,p.2.map dI)
theorem ZgL{a b:List Int}(h:Zab a=Zab b):a=b:=by
 induction a generalizing b with
 | nil=>cases b with
  | nil=>rfl
  | cons _ _=>simp at h
 | cons x a ih=>cases b with
  | nil=>simp at h
  | cons y b=>simp at h;rw[h.1,ih (by simpa using h.2)]
theorem ZmB(a b:List Int):(Zab a=Zab b)↔a=b:=⟨ZgL,λh=>by rw[h]⟩
theorem Zso(k:List Int):Zmk (k.map dI)=some (Zab k):=by
 induction k with
 | nil=>rfl
 | cons x k ih=>show(Zmk (k.map dI)).map (ZBL x::·)=_;rw[ih];rfl
theorem ZaD(k:List Int):Za1 (tupI k)=some (Zab k):=Zso k
theorem ZgQ(g:Gs)(k:List Int):Zg (ZaT g) (Zab k)=(Zg g k).map λp=>p.map dI:=by
 unfold Zg ZaT;rw[List.find?_map];have e:((λp:List Ky × List D=>decide (p.1=Zab k))∘λp:List Int × List Int=>(Zab p.1,p.2.map dI))=λp=>decide (p.1=k):=by
  funext p
  simp only[ZDj];exact decide_eq_decide.mpr (ZmB p.1 k)
 rw[e];cases g.find? λp=>decide (p.1=k)<;>rfl
theorem Zri(g:Gs)(k:List Int):ZbU (ZaT g) (Zab k)=ZaT (ZbU g k):=by
 unfold ZbU;rw[ZgQ];cases Zg g k with
 | none=>simp[ZaT]
 | some p=>rfl
theorem Zkh(k:List Int)(s:Int):∀(g:Gs),ZdF (ZaT g) (Zab k) (dI s)=ZaT (ZdF g k s)
 | []=>rfl
 | (x,p)::g=>by
  show ZdF ((Zab x,p.map dI)::ZaT g) (Zab k) (dI s)=ZaT (ZdF ((x,p)::g) k s);unfold ZdF
  by_cases h:x=k
  ·rw[if_pos (by rw[h]),if_pos h]
   simp[ZaT]
  ·rw[if_neg (λe=>h (ZgL e)),if_neg h,Zkh k s g]
   rfl
def ZdW(g:Gs)(k:List Int)(s:Int):Gs:=ZdF (ZbU g k) k s
theorem Ze7(k:List Int):Zg ([]:Gs) k=none:=rfl
theorem Zb6(x:List Int)(p:List Int)(g:Gs)(k:List Int):Zg ((x,p)::g) k=if x=k then some p else Zg g k:=by
 unfold Zg;rw[ZAU]
 by_cases h:x=k<;>simp[h]
theorem Zp1(k:List Int)(s:Int)(k':List Int):∀(g:Gs),Zg (ZdF g k s) k'=if k=k' then(Zg g k).map (·++[s])else Zg g k'
 | []=>by simp[ZdF,Ze7]
 | (x,p)::g=>by
  unfold ZdF
  by_cases h:x=k
  ·subst h
   rw[if_pos rfl,Zb6,Zb6,Zb6,if_pos rfl];split<;>rfl
  ·rw[if_neg h,Zb6,Zp1 k s k' g,Zb6,Zb6,if_neg h]
   by_cases h2:x=k'
   ·subst h2
    rw[if_pos rfl,if_pos rfl,if_neg (ZA0 h)]
   ·rw[if_neg h2,if_neg h2]
theorem Zlw(x:List Int)(p:List Int)(k:List Int):∀(g:Gs),Zg (g++[(x,p)]) k=match Zg g k with | some q=>some q | none=>if x=k then some p else none
 | []=>by simp[Ze7,Zb6]
 | (y,q)::g=>by rw[ZEd,Zb6,Zb6,Zlw x p k g];split<;>rfl
theorem ZiD(g:Gs)(k k':List Int):Zg (ZbU g k) k'=if k=k' then some ((Zg g k).getD [])else Zg g k':=by
 unfold ZbU;cases h:Zg g k with
 | some p =>
  by_cases e:k=k'
  ·subst e; rw[if_pos rfl]; exact h
  ·rw[if_neg e]
 | none =>
  show Zg (g++[(k,[])]) k'=_;rw[Zlw]
  by_cases e:k=k'
  ·subst e; rw[if_pos rfl,if_pos rfl,h]; rfl
  ·rw[if_neg e,if_neg e]
   cases Zg g k'<;>rfl
theorem Zve(g:Gs)(k k':List Int)(s:Int):Zg (ZdW g k s) k'=if k=k' then some ((Zg g k).getD []++[s])else Zg g k':=by
 unfold ZdW;rw[Zp1,ZiD,ZiD,if_pos rfl]
 by_cases e:k=k'
 ·rw[if_pos e,if_pos e]; rfl
 ·rw[if_neg e,if_neg e,if_neg e]
theorem Zp5(k:List Int)(s:Int):∀(g:Gs),(ZdF g k s).map (·.1)=g.map (·.1)
 | []=>rfl
 | (x,p)::g=>by
  unfold ZdF;split
  ·rfl
  ·rw[ZzZ,Zp5 k s g]; rfl
theorem ZkW(g:Gs)(k:List Int):(Zg g k).isSome=true↔k∈g.map (·.1):=by
 induction g with
 | nil=>simp[Ze7]
 | cons p g ih =>
  obtain⟨x,q⟩:=p;rw[Zb6,ZzZ,Zz7]
  by_cases h:x=k
  ·simp[h]
  ·rw[if_neg h,ih]
   constructor
   ·exact .inr
   ·rintro (e | e)
    ·exact absurd e.symm h
    ·exact e
theorem Zvc(g:Gs)(k:List Int):(ZbU g k).map (·.1)=if k∈g.map (·.1)then g.map (·.1)else g.map (·.1)++[k]:=by
 unfold ZbU;cases h:Zg g k with
 | some p=>rw[if_pos ((ZkW g k).mp (by rw[h]; rfl))]
 | none=>rw[if_neg (λm=>by have:=(ZkW g k).mpr m; rw[h]at this; cases this)];simp
theorem ZuQ(g:Gs)(k:List Int)(s:Int):(ZdW g k s).map (·.1)=if k∈g.map (·.1)then g.map (·.1)else g.map (·.1)++[k]:=by unfold ZdW;rw[Zp5,Zvc]
def Zdh(f:Int->List Int)(c:List Int):Gs:=c.foldl (λg s=>ZdW g (f s) s) []
structure Grp(f:Int->List Int)(pre:List Int)(g:Gs):Prop where
 nd:(g.map (·.1)).Nodup
 look:∀k,Zg g k=if k∈pre.map f then some (pre.filter λs=>f s==k)else none
theorem Grp.mem{f:Int->List Int}{pre:List Int}{g:Gs}(h:Grp f pre g)(k:List Int):k∈g.map (·.1)↔k∈pre.map f:=by
 rw[<-ZkW,h.look];split
 ·rename_i m; exact⟨λ_=>m,λ_=>rfl⟩
 ·rename_i m; exact⟨(λe=>by cases e),λe=>absurd e m⟩
theorem Grp.step{f:Int->List Int}{pre:List Int}{g:Gs}(h:Grp f pre g)(s:Int):Grp f (pre++[s]) (ZdW g (f s) s):=by
 refine⟨?_,λk=>?_⟩
 ·rw[ZuQ]
  split
  ·exact h.nd
  ·rename_i m
   rw[ZCd];exact⟨h.nd,by simp,λa ha b hb=>by simp at hb; subst hb; exact λe=>m (e▸ha)⟩
 ·rw[Zve,h.look,h.look,ZAq,ZDN]
  by_cases e:f s=k
  ·subst e
   have e0:f s∈pre.map f++[s].map f:=by simp
   rw[if_pos rfl,if_pos e0];have e2:[s].filter (λx=>f x==f s)=[s]:=by simp
   rw[e2];split
   ·rfl
   ·rename_i m
    have:pre.filter (λx=>f x==f s)=[]:=by rw[ZEy];intro a ha q;exact m (Zz1.mpr ⟨a,ha,by simpa using q⟩)
    rw[this]; rfl
  ·have e2:[s].filter (λx=>f x==k)=[]:=by simp[e]
   rw[if_neg e,e2,ZAE];have e3:(k∈pre.map f++[s].map f)↔k∈pre.map f:=by
    rw[ZAp]
    constructor
    ·rintro (q | q)
     ·exact q
     ·simp at q; exact absurd q.symm e
    ·exact .inl
   by_cases q:k∈pre.map f
   ·rw[if_pos q,if_pos (e3.mpr q)]
   ·rw[if_neg q,if_neg (λz=>q (e3.mp z))]
theorem Zrs(f:Int->List Int):∀(c pre:List Int) (g:Gs),Grp f pre g->Grp f (pre++c) (c.foldl (λg s=>ZdW g (f s) s) g)
 | [],pre,g,h=>by rw[ZAE]; exact h
 | s::c,pre,g,h=>by have:=Zrs f c (pre++[s]) _ (h.step s);rw[ZA8]at this;exact this
theorem Zfh(f:Int->List Int)(c:List Int):Grp f c (Zdh f c):=by
 have:=Zrs f c [] [] ⟨ZBB,λk=>by simp[Ze7]⟩
 rwa [ZCQ]at this
def Z5(w:Wk)(ls c:List Int):Gs:=(Zd8 ((Zdh (ZA w ls) c).map (·.1))).map λk=>(k,c.filter λs=>ZA w ls s==k)
def ZaL(p:List Int × List Int):D:=.tuple [tupI p.1,tupI p.2]
theorem Zvh(ks:List (List Int)):Zkg (ks.map tupI)=some ks:=by
 induction ks with
 | nil=>rfl
 | cons k ks ih=>show(match ZaP (k.map dI)with | some ns=>(Zkg (ks.map tupI)).map (ns::·) | none=>none)=_;rw[Zce,ih];rfl
theorem Zse(ks:List (List Int))(h:ks.length<64)(hn:ks.length<2\/∀k∈ks,k≠[]):Zft (ks.map tupI)=some ((Zd8 ks).map tupI):=by
 unfold Zft;rw[if_pos (by rw[ZzP]; exact h)];cases ks with
 | nil=>simp[ZaP,sortI,Zd8,ofInts]
 | cons k ks =>
  have e:ZaP (ZDD tupI (k::ks))=none:=rfl;rw[e,Zvh];have e2:(decide ((ZDD tupI (k::ks)).length<2)||(k::ks).all λt=>!t.isEmpty)=true:=by
   rw[ZBd,ZzP];rcases hn with q | q
   ·exact .inl (by simpa using q)
   ·refine .inr (ZzY.mpr λt ht=>?_)
    have:=q t ht;cases t with
    | nil=>exact absurd rfl this
    | cons _ _=>rfl
  dsimp only;rw[if_pos e2];unfold ZfA;simp only[Zga]
theorem Zcs(ks:List (List Int)):(Zd8 ks).Perm ks:=ZCO ks _
theorem Zrl(w:Wk)(ls c:List Int)(hc:c.length<60):Zft ((ZaT (Zdh (ZA w ls) c)).map λp=>ZAJ (p.1.map ZaU))=some ((Zd8 ((Zdh (ZA w ls) c).map (·.1))).map tupI):=by
 have hg:=Zfh (ZA w ls) c;have e:((ZaT (Zdh (ZA w ls) c)).map λp=>ZAJ (p.1.map ZaU))=((Zdh (ZA w ls) c).map (·.1)).map tupI:=by unfold ZaT;rw[ZAe,ZAe];refine ZBv λp _=>?_;simp only[ZDj];unfold Zab tupI;rw[ZAe];rfl
 rw[e];have hsub:∀k∈(Zdh (ZA w ls) c).map (·.1),k∈c.map (ZA w ls):=λk hk=>(hg.mem k).mp hk;refine Zse _ ?_ ?_
 ·have:(Zdh (ZA w ls) c).map (·.1) ⊆ c.map (ZA w ls):=hsub
  have:=(ZBy hg.nd this);rw[ZzP,ZzP]at this;rw[ZzP];omega
 ·cases ls with
  | nil =>
   left
   have:(Zdh (ZA w []) c).map (·.1) ⊆ [[]]:=λk hk=>by obtain⟨s,_,e⟩:=Zz1.mp (hsub k hk);rw[<-e];simp[ZA]
   have:=(ZBy hg.nd this);simp at this ⊢;omega
  | cons l ls =>
   right
   intro k hk e;obtain⟨s,_,e'⟩:=Zz1.mp (hsub k hk);rw[e]at e';simp[ZA]at e'
theorem ZlN(w:Wk)(ls c:List Int)(e:EF)(r:HM.Env)(h:∀k∈(Zdh (ZA w ls) c).map (·.1),e (some (.pl (tupI k))::r)=some (.tuple [tupI k,.tuple ((c.filter λs=>ZA w ls s==k).map dI)])) :
  Zap ZN e r ((Zd8 ((Zdh (ZA w ls) c).map (·.1))).map tupI)=some ((Z5 w ls c).map ZaL):=by
 rw[Za0 tupI (λk=>.tuple [tupI k,.tuple ((c.filter λs=>ZA w ls s==k).map dI)])]
 ·unfold Z5
  rw[ZAe];rfl
 ·intro k hk
  exact h k ((Zcs _).mem_iff.mp hk)
theorem Zo8(w:Wk)(ls c:List Int)(k:List Int)(hk:k∈(Zdh (ZA w ls) c).map (·.1)):Zg (ZaT (Zdh (ZA w ls) c)) (Zab k)=some ((c.filter λs=>ZA w ls s==k).map dI):=by have hg:=Zfh (ZA w ls) c;rw[ZgQ,hg.look,if_pos ((hg.mem k).mp hk)];rfl
theorem Zq9(f:Int->List Int)(pre:List Int)(g:Gs)(h:Grp f pre g)(k:List Int)(p:List Int)(e:Zg g k=some p):p.length<=pre.length:=by
 rw[h.look]at e;split at e
 ·cases e; exact ZAu _ _
 ·cases e
theorem ZlZ(f:Int->List Int)(pre:List Int)(g:Gs)(h:Grp f pre g):g.length<=pre.length:=by have h2:g.map (·.1) ⊆ pre.map f:=λk hk=>(h.mem k).mp hk;have:=ZBy h.nd h2;simpa using this
theorem ZmT{w:Wk}(hv:Wk.V w){ls:List Int}(hl:Cr w.looks.length ls)(e2:Option B):∀(c pre:List Int) (g:Gs) (o:Option B),Grp (ZA w ls) pre g->(∀s∈c,0<=s/\s<(w.many:Int))->pre.length+c.length<1000 ->
  ∃o',ZaQ 4 Zey (c.map dI) [some (.pl w.d),some (.pl (tupI ls)),e2,some (.otl (ZaT g)),o]=some (.nx [some (.pl w.d),some (.pl (tupI ls)),e2,some (.otl (ZaT (c.foldl (λg s=>ZdW g (ZA w ls s) s) g))),o'])
 | [],pre,g,o,_,_,_=>⟨o,rfl⟩
 | s::c,pre,g,o,hg,hb,hn=>by
  rw[Zz8]at hn;have hs:=hb s (ZzT ..);have hlen:(ZaT g).length<1000000:=by have:=ZlZ _ _ _ hg;unfold ZaT;rw[ZzP]; omega
  have h1:Zg (ZbU (ZaT g) (Zab (ZA w ls s))) (Zab (ZA w ls s))=some (((Zg g (ZA w ls s)).getD []).map dI):=by rw[Zri,ZgQ,ZiD,if_pos rfl]; rfl
  have h2:(((Zg g (ZA w ls s)).getD []).map dI).length<1000000:=by
   rw[ZzP];cases e:Zg g (ZA w ls s)with
   | none=>simp
   | some p=>have:=Zq9 _ _ _ hg _ _ e;simp; omega
  have h2':((Zg g (ZA w ls s)).getD []).length<1000000:=by rwa [ZzP]at h2
  have e:Zey [some (.pl w.d),some (.pl (tupI ls)),e2,some (.otl (ZaT g)),some (.pl (dI s))]=some (.nx [some (.pl w.d),some (.pl (tupI ls)),e2,some (.otl (ZaT (ZdW g (ZA w ls s) s))),some (.pl (dI s))]):=by have ek:=Zsu hv hl hs.1 hs.2;simp[Zey,ek,ZaD,hlen,h1,h2'];rw[Zri,Zkh];rfl
  obtain⟨o',ih⟩:=ZmT hv hl e2 c (pre++[s]) (ZdW g (ZA w ls s) s) (some (.pl (dI s))) (hg.step s) (λx hx=>hb x (ZzU _ hx)) (by simp; omega);refine⟨o',?_⟩;rw[ZzZ,ZA3,<-ih];show(match Zey [some (.pl w.d),some (.pl (tupI ls)),e2,some (.otl (ZaT g)),some (.pl (dI s))]with | some (.nx r')=>_ | some (.ct r')=>_ | some (.bk r')=>_ | some (.rt d)=>_ | none=>_)=_;rw[e]
theorem Zhc{w:Wk}(hv:Wk.V w){ls:List Int}(hl:Cr w.looks.length ls){c:List Int}(hc:Cr w.many c):Zar [w.d,tupI ls,tupI c]=some (.list ((Z5 w ls c).map ZaL)):=by
 have m2:=hv.m2;have hlen:=hc.len;have hb:c.length<1000000:=by omega
 obtain⟨o',e⟩:=ZmT hv hl (some (.pl (tupI c))) c [] [] none ⟨ZBB,λk=>by simp[Ze7]⟩ hc.2 (by simp; omega);have hk:=Zrl w ls c (by omega);have hg:c.foldl (λg s=>ZdW g (ZA w ls s) s) []=Zdh (ZA w ls) c:=rfl;rw[hg]at e;have hn:(Zd8 ((Zdh (ZA w ls) c).map (·.1))).length<1000000:=by rw[(Zcs _).length_eq,ZzP];have:=ZlZ _ _ _ (Zfh (ZA w ls) c);omega
 simp[Zar,ZmK,hb];rw[show some (B.otl [])=some (B.otl (ZaT [])) from rfl,e];simp[hk,hn];rw[ZlN]
 ·simp
 ·intro k hk'
  simp[ZaD,Zo8 w ls c k hk']
end HG
namespace HG
open PySem HM
variable{ds:List D}{m n:Nat}
def nbD:Nat->D->Bool
 | _,.none=>true
 | _,.int _=>true
 | _,.str x=>PyData.canLay0 (.str x)
 | 0,_=>false
 | n+1,.list ds=>ds.all (nbD n)
 | n+1,.tuple ds=>ds.all (nbD n)
 | _,_=>false
theorem ZjX(h:∀d∈ds,d.canLay0=true):ZCx ds=true:=by
 induction ds with
 | nil=>rfl
 | cons d ds ih=>show(d.canLay0&&ZCx ds)=true;rw[h d (ZzT ..),ih λx hx=>h x (ZzU _ hx)];rfl
theorem ZkI(h:∀d∈ds,d.depth<=n):ZDy ds<=n:=by
 induction ds with
 | nil=>exact ZBq _
 | cons d ds ih=>show max d.depth (ZDy ds)<=n;have h1:=h d (ZzT ..);have h2:=ih λx hx=>h x (ZzU _ hx);omega
theorem Zj2:∀(n:Nat) (d:D),nbD n d=true->d.canLay0=true/\d.depth<=n
 | n,.none,_=>⟨rfl,by show 0<=n; omega⟩
 | n,.int _,_=>⟨rfl,by show 0<=n; omega⟩
 | n,.str x,h=>by refine⟨?_,by show 0<=n; omega⟩;cases n<;>exact h
 | 0,.bool _,h=>by cases h
 | 0,.list _,h=>by cases h
 | 0,.tuple _,h=>by cases h
 | 0,.dict _,h=>by cases h
 | n+1,.bool _,h=>by cases h
 | n+1,.dict _,h=>by cases h
 | n+1,.list ds,h=>by have h':ds.all (nbD n)=true:=h;have hh:=ZzY.mp h';refine⟨ZjX λd hd=>(Zj2 n d (hh d hd)).1,?_⟩;show ZDy ds+1<=n+1;have:=ZkI λd hd=>(Zj2 n d (hh d hd)).2;omega
 | n+1,.tuple ds,h=>by have h':ds.all (nbD n)=true:=h;have hh:=ZzY.mp h';refine⟨ZjX λd hd=>(Zj2 n d (hh d hd)).1,?_⟩;show ZDy ds+1<=n+1;have:=ZkI λd hd=>(Zj2 n d (hh d hd)).2;omega
theorem Ziz{d:D}(h:nbD n d=true)(hn:n<=60):Zao d=true:=by obtain⟨h1,h2⟩:=Zj2 n d h;unfold Zao;rw[h1,decide_eq_true (show d.depth<=60 by omega)];rfl
theorem ZlS(ih:∀d∈ds,∀e,(∃m,nbD m e=true)->(ZA1 d e=true↔d=e)):∀(es:List D),(∀e∈es,∃m,nbD m e=true)->(ZDR ds es=true↔ds=es):=by
 induction ds with
 | nil =>
  intro es _;cases es with
  | nil=>exact⟨λ_=>rfl,λ_=>rfl⟩
  | cons e es=>exact⟨(λh=>by cases h),(λh=>by cases h)⟩
 | cons d ds ihl =>
  intro es he;cases es with
  | nil=>exact⟨(λh=>by cases h),(λh=>by cases h)⟩
  | cons e es=>show((ZA1 d e&&ZDR ds es)=true)↔_;rw[ZAc,ih d (ZzT ..) e (he e (ZzT ..)),ihl (λx hx=>ih x (ZzU _ hx)) es (λx hx=>he x (ZzU _ hx)),List.cons.injEq]
theorem ZwG(h:nbD m (.list ds)=true):∀d∈ds,∃m,nbD m d=true:=by
 cases m with
 | zero=>cases h
 | succ m=>have h':ds.all (nbD m)=true:=h;exact λd hd=>⟨m,ZzY.mp h' d hd⟩
theorem Zvr(h:nbD m (.tuple ds)=true):∀d∈ds,∃m,nbD m d=true:=by
 cases m with
 | zero=>cases h
 | succ m=>have h':ds.all (nbD m)=true:=h;exact λd hd=>⟨m,ZzY.mp h' d hd⟩
theorem Ze4{b:Bool}(h:nbD m (.bool b)=true):False:=by cases m<;>cases h
theorem Zfg{b:List (D × D)}(h:nbD m (.dict b)=true):False:=by cases m<;>cases h
theorem Zmn:∀(n:Nat) (d e:D),nbD n d=true->(∃m,nbD m e=true)->(ZA1 d e=true↔d=e):=by
 intro n
 induction n with
 | zero =>
  intro d e hd ⟨m,he⟩;cases d<;>first | cases hd | skip
  all_goals cases e<;>first
   | exact(Ze4 he).elim
   | exact(Zfg he).elim
   | exact⟨λ_=>rfl,λ_=>rfl⟩
   | exact⟨(λh=>by cases h),(λh=>by cases h)⟩
   | (rename_i a b; show((a==b)=true)↔_; simp)
 | succ n ih =>
  intro d e hd ⟨m,he⟩;cases d with
  | bool _=>exact(Ze4 hd).elim
  | dict _=>exact(Zfg hd).elim
  | list ds =>
   cases e with
   | list es=>show(ZDR ds es=true)↔_;rw[ZlS (λd h e he=>ih d e (ZzY.mp (show ds.all (nbD n)=true from hd) d h) he) es (ZwG he)];simp
   | bool _=>exact(Ze4 he).elim
   | dict _=>exact(Zfg he).elim
   | _=>exact⟨(λh=>by cases h),(λh=>by cases h)⟩
  | tuple ds =>
   cases e with
   | tuple es=>show(ZDR ds es=true)↔_;rw[ZlS (λd h e he=>ih d e (ZzY.mp (show ds.all (nbD n)=true from hd) d h) he) es (Zvr he)];simp
   | bool _=>exact(Ze4 he).elim
   | dict _=>exact(Zfg he).elim
   | _=>exact⟨(λh=>by cases h),(λh=>by cases h)⟩
  | none=>cases e<;>first
   | exact(Ze4 he).elim
   | exact(Zfg he).elim
   | exact⟨λ_=>rfl,λ_=>rfl⟩
   | exact⟨(λh=>by cases h),(λh=>by cases h)⟩
  | int i=>cases e<;>first
   | exact(Ze4 he).elim
   | exact(Zfg he).elim
   | exact⟨(λh=>by cases h),(λh=>by cases h)⟩
   | (rename_i b; show((i==b)=true)↔_; simp)
  | str i=>cases e<;>first
   | exact(Ze4 he).elim
   | exact(Zfg he).elim
   | exact⟨(λh=>by cases h),(λh=>by cases h)⟩
   | (rename_i b; show((i==b)=true)↔_; simp)
theorem Zv7{d e:D}(hd:nbD n d=true)(he:nbD m e=true)(hn:n<=60)(hm:m<=60)[Decidable (d=e)]:gEq d e=some (.bool (decide (d=e))):=by
 unfold gEq;rw[Ziz hd hn,Ziz he hm,if_pos (by rfl)];congr 2;have h:=Zmn n d e hd ⟨m,he⟩;cases q:ZA1 d e with
 | true=>exact(decide_eq_true (h.mp q)).symm
 | false=>exact(decide_eq_false λz=>by rw[h.mpr z]at q; cases q).symm
theorem Zeg{d:D}(hd:nbD n d=true)(hn:n<=60):gEq d d=some (.bool true):=by unfold gEq;rw[Ziz hd hn,(Zmn n d d hd ⟨n,hd⟩).mpr rfl];rfl
theorem ZgP{d e:D}(hd:nbD n d=true)(he:nbD m e=true)(hn:n<=60)(hm:m<=60)(h:d≠e):gEq d e=some (.bool false):=by have:Decidable (d=e):=isFalse h;rw[Zv7 hd he hn hm,decide_eq_false h]
theorem Zeo(n:Nat)(ns:List Int):nbD (n+1) (tupI ns)=true:=by show(ns.map dI).all (nbD n)=true;rw[ZzY];intro d hd;obtain⟨i,_,rfl⟩:=Zz1.mp hd;cases n<;>rfl
theorem Zk1(n:Nat)(ns:List Int):nbD (n+1) (.list (ns.map dI))=true:=Zeo n ns
theorem ZzG(h:∀d∈ds,nbD n d=true):nbD (n+1) (.tuple ds)=true:=ZzY.mpr h
theorem ZxC(h:∀d∈ds,nbD n d=true):nbD (n+1) (.list ds)=true:=ZzY.mpr h
theorem ZdE(n:Nat)(i:Int):nbD n (.int i)=true:=by cases n<;>rfl
theorem Zv0(n:Nat):nbD n .none=true:=by cases n<;>rfl
end HG
namespace HG
open PySem HM
variable{c:List Int}{w:Wk}
def lkV(n:Nat)(c:Int):List Int:=((ZzX n).filter λ(k:Nat)=>decide (0<ZT (c+19*(k:Int)) 9857 4)).map λ(k:Nat)=>(k:Int)
theorem ZzH(n:Nat)(c:Int):Cr n (lkV n c):=ZiL n _
def Zvj(w:Wk)(c:List Int)(d:Int):D:=if Zad w c d then tupI (ZY w c d)else .none
theorem Zlx{w:Wk}(hv:Wk.V w){d:Int}(h0:0<=d)(h1:d<w.deeds.length)(e1:Option B):∀(c acc:List Int) (o:Option B),(∀s∈c,0<=s/\s<(w.many:Int))->acc.length+c.length*10<100000 ->
  (Zad w c d=true->∃o',ZaQ 4 Zbc (c.map dI) [some (.pl w.d),e1,some (.pl (.int d)),some (.ol (acc.map dI)),o]=some (.nx [some (.pl w.d),e1,some (.pl (.int d)),some (.ol ((acc++Zbg w c d).map dI)),o'])) /\
  (Zad w c d=false->ZaQ 4 Zbc (c.map dI) [some (.pl w.d),e1,some (.pl (.int d)),some (.ol (acc.map dI)),o]=some (.rt .none))
 | [],acc,o,_,_=>⟨λ_=>⟨o,by simp[Zbg]; rfl⟩,λh=>by simp[Zad]at h⟩
 | s::c,acc,o,hs,hl=>by
  rw[Zz8]at hl;have hb:=hs s (ZzT ..);have hr:=(ZpI hv h0 h1 hb.1 hb.2).len;have m2:=hv.m2;have hd:=Zmw h0 h1 (w:=w);have hrow:=ZoT hv h0 h1 hb.1 hb.2;have g1:atD [ZAx w.many,.tuple (w.deeds.map ZZ),.tuple (w.looks.map tupI),tupI w.beg,tupI w.goal] 1=some (.tuple (w.deeds.map ZZ)):=by simp
  have ec:Zad w (s::c) d=(decide (0<(ZbT w d s).length)&&Zad w c d):=rfl;have ef:Zbg w (s::c) d=ZbT w d s++Zbg w c d:=rfl;cases hz:ZbT w d s with
  | nil =>
   have e:Zbc [some (.pl w.d),e1,some (.pl (.int d)),some (.ol (acc.map dI)),some (.pl (dI s))]=some (.rt .none):=by rw[hz]at hrow;have e3:gEq (tupI []) (.tuple [])=some (.bool true):=Zeg (Zeo 0 []) (by decide);unfold Wk.d;simp[Zbc,hd,ZZ,hrow,-gEq];rw[e3]
   have ec':Zad w (s::c) d=false:=by rw[ec,hz]; rfl
   refine⟨λh=>(by rw[ec']at h; cases h),λ_=>?_⟩;rw[ZzZ];show(match Zbc [some (.pl w.d),e1,some (.pl (.int d)),some (.ol (acc.map dI)),some (.pl (dI s))]with | some (.nx r')=>_ | some (.ct r')=>_ | some (.bk r')=>_ | some (.rt d)=>_ | none=>_)=_;rw[e]
  | cons x xs =>
   have hlen:acc.length+(ZbT w d s).length<1000000:=by omega
   have e:Zbc [some (.pl w.d),e1,some (.pl (.int d)),some (.ol (acc.map dI)),some (.pl (dI s))]=some (.nx [some (.pl w.d),e1,some (.pl (.int d)),some (.ol ((acc++ZbT w d s).map dI)),some (.pl (dI s))]):=by rw[hz]at hrow hlen;rw[Zz8]at hlen;have e3:gEq (tupI (x::xs)) (.tuple [])=some (.bool false):=ZgP (Zeo 0 (x::xs)) (Zeo 0 []) (by decide) (by decide) (by simp);unfold Wk.d;simp[Zbc,hd,ZZ,hrow,hz,-gEq];rw[e3];simp[hd,ZZ,hrow,hlen]
   have ec':Zad w (s::c) d=Zad w c d:=by rw[ec,hz]; rfl
   obtain⟨i1,i2⟩:=Zlx hv h0 h1 e1 c (acc++ZbT w d s) (some (.pl (dI s))) (λx hx=>hs x (ZzU _ hx)) (by rw[ZAb]; omega);have e5:ZaQ 4 Zbc ((s::c).map dI) [some (.pl w.d),e1,some (.pl (.int d)),some (.ol (acc.map dI)),o]=ZaQ 4 Zbc (c.map dI) [some (.pl w.d),e1,some (.pl (.int d)),some (.ol ((acc++ZbT w d s).map dI)),some (.pl (dI s))]:=by rw[ZzZ];show(match Zbc [some (.pl w.d),e1,some (.pl (.int d)),some (.ol (acc.map dI)),some (.pl (dI s))]with | some (.nx r')=>_ | some (.ct r')=>_ | some (.bk r')=>_ | some (.rt d)=>_ | none=>_)=_;rw[e]
   rw[e5,ec',ef,<-ZA8];exact⟨i1,i2⟩
theorem Zr4(hv:Wk.V w)(h7:w.many<=7)(hc:Cr w.many c){d:Int}(h0:0<=d)(h1:d<w.deeds.length):ZcS [w.d,tupI c,.int d]=some (Zvj w c d):=by
 have m2:=hv.m2;have hlen:=hc.len;have hb:c.length<1000000:=by omega
 obtain⟨i1,i2⟩:=Zlx hv h0 h1 (some (.pl (tupI c))) c [] none hc.2 (by simp; omega);unfold Zvj;cases h:Zad w c d with
 | false=>have e:=i2 h;rw[ZB4]at e;simp[ZcS,Zh7,hb,e]
 | true =>
  obtain⟨o',e⟩:=i1 h;rw[ZB4,ZCQ]at e;have hf:ZrZ (Zbg w c d)=true:=ZzY.mpr λx hx=>by have:=ZtO hv hc h0 h1 x hx;rw[ZAc,decide_eq_true_eq,decide_eq_true_eq];omega
  simp[ZcS,Zh7,hb,e,Zce,hf,ZY,Zga]
theorem ZjD{w:Wk}(hv:Wk.V w){ls:List Int}(hl:Cr w.looks.length ls)(e2:Option B):∀(c pre:List Int) (g:Gs) (o o':Option B),Grp (ZA w ls) pre g->(∀s∈c,0<=s/\s<(w.many:Int))->pre.length+c.length<1000 ->
  ∃p p',ZaQ 4 Zck (c.map dI) [some (.pl w.d),some (.pl (tupI ls)),e2,some (.otl (ZaT g)),o,o']=some (.nx [some (.pl w.d),some (.pl (tupI ls)),e2,some (.otl (ZaT (c.foldl (λg s=>ZdW g (ZA w ls s) s) g))),p,p'])
 | [],pre,g,o,o',_,_,_=>⟨o,o',rfl⟩
 | s::c,pre,g,o,o',hg,hb,hn=>by
  rw[Zz8]at hn;have hs:=hb s (ZzT ..);have hlen:(ZaT g).length<1000000:=by have:=ZlZ _ _ _ hg;unfold ZaT;rw[ZzP]; omega
  have l2:=hv.l2;have hll:=hl.len;have hlb:ls.length<1000000:=by omega
  have ec:Zap ZN (eIx (bOf (eIx (bOf (eIx (Zo 1) (eC (.int 2)))) (Za 0))) (Za 5)) [some (.pl w.d),some (.pl (tupI ls)),e2,some (.otl (ZaT g)),some (.pl (dI s)),o'] (ls.map dI)=some ((ZA w ls s).map dI):=by
   rw[Za0 dI (λl=>dI (Zf9 w l s))]
   ·simp[ZA]
   ·intro l hl'
    have hb:=hl.2 l hl';unfold Wk.d;simp[Zro hb.1 hb.2,Zq1 hv hb.1 hb.2 hs.1 hs.2]
  have e:Zck [some (.pl w.d),some (.pl (tupI ls)),e2,some (.otl (ZaT g)),some (.pl (dI s)),o']=some (.nx [some (.pl w.d),some (.pl (tupI ls)),e2,some (.otl (ZaT (ZdW g (ZA w ls s) s))),some (.pl (dI s)),some (.pl (tupI (ZA w ls s)))]):=by
   have ek:=ZgQ g (ZA w ls s);have et:=ZaD (ZA w ls s);cases h:Zg g (ZA w ls s)with
   | none =>
    rw[h]at ek;have ea:ZbU g (ZA w ls s)=g++[(ZA w ls s,[])]:=by unfold ZbU; rw[h]
    have eb:ZaT g++[(Zab (ZA w ls s),[])]=ZaT (ZbU g (ZA w ls s)):=by rw[ea]; simp[ZaT]
    have h1:Zg (ZaT (ZbU g (ZA w ls s))) (Zab (ZA w ls s))=some []:=by rw[ZgQ,ZiD,if_pos rfl,h]; rfl
    simp[Zck,hlb,ec,et,ek,hlen];rw[eb,h1];simp[Zkh];rfl
   | some p =>
    rw[h]at ek;have ea:ZbU g (ZA w ls s)=g:=by unfold ZbU; rw[h]
    have hp:p.length<1000000:=by have:=Zq9 _ _ _ hg _ _ h; omega
    simp[Zck,hlb,ec,et,ek,hlen,hp,Zkh];unfold ZdW;rw[ea]
  obtain⟨p,p',ih⟩:=ZjD hv hl e2 c (pre++[s]) (ZdW g (ZA w ls s) s) (some (.pl (dI s))) (some (.pl (tupI (ZA w ls s)))) (hg.step s) (λx hx=>hb x (ZzU _ hx)) (by simp; omega);refine⟨p,p',?_⟩;rw[ZzZ,ZA3,<-ih];show(match Zck [some (.pl w.d),some (.pl (tupI ls)),e2,some (.otl (ZaT g)),some (.pl (dI s)),o']with | some (.nx r')=>_ | some (.ct r')=>_ | some (.bk r')=>_ | some (.rt d)=>_ | none=>_)=_;rw[e]
theorem Zpr(hv:Wk.V w){ls:List Int}(hl:Cr w.looks.length ls)(hc:Cr w.many c):ZbP [w.d,tupI ls,tupI c]=some (.list ((Z5 w ls c).map ZaL)):=by
 have m2:=hv.m2;have hlen:=hc.len;have hb:c.length<1000000:=by omega
 obtain⟨p,p',e⟩:=ZjD hv hl (some (.pl (tupI c))) c [] [] none none ⟨ZBB,λk=>by simp[Ze7]⟩ hc.2 (by simp; omega);have hk:=Zrl w ls c (by omega);have hg:c.foldl (λg s=>ZdW g (ZA w ls s) s) []=Zdh (ZA w ls) c:=rfl;rw[hg]at e;have hn:(Zd8 ((Zdh (ZA w ls) c).map (·.1))).length<1000000:=by rw[(Zcs _).length_eq,ZzP];have:=ZlZ _ _ _ (Zfh (ZA w ls) c);omega
 simp[ZbP,Zi7,hb];rw[show some (B.otl [])=some (B.otl (ZaT [])) from rfl,e];simp[hk,hn];rw[ZlN]
 ·simp
 ·intro k hk'
  simp[ZaD,Zo8 w ls c k hk']
theorem Zbs{d:Int}(h:d∈doV w c):0<=d/\d<w.deeds.length/\Zad w c d=true:=by unfold doV at h;obtain⟨k,hk,rfl⟩:=Zz1.mp h;obtain⟨h1,h2⟩:=ZAh.mp hk;have:=ZAi.mp h1;exact⟨by omega,by omega,h2⟩
end HG
namespace HG4
open PySem HM HG
def Zi8:SF :=
 (ZE (Zir (Za6 (Zaf (bOf (Zm Za3 (Zc (Zm ZbG (Zc (Za 0) Zi)) Zi)))))))
def Zca:List D->Option D:=fnOf 1 1 Zi8
end HG4
namespace HM
open PySem
theorem Zha{α:Type}{c:TF}{e:EF}{r:Env}(a b:α->D)(p:α->Bool)(f:α->D):∀(xs:List α),(∀x∈xs,c (some (.pl (a x))::some (.pl (b x))::r)=some (p x))->(∀x∈xs,p x=true->e (some (.pl (a x))::some (.pl (b x))::r)=some (f x)) ->
  Zdg c e r (xs.map λx=>.tuple [a x,b x])=some ((xs.filter p).map f)
 | [],_,_=>rfl
 | x::xs,h1,h2=>by
  have ih:=Zha a b p f xs (λy hy=>h1 y (ZzU _ hy)) (λy hy=>h2 y (ZzU _ hy));have hc:=h1 x (ZzT ..);rw[ZzZ];unfold Zdg;rw[hc];cases hp:p x with
  | true=>have he:=h2 x (ZzT ..) hp;dsimp only;rw[he];dsimp only;rw[ih,ZEh hp];rfl
  | false=>dsimp only;rw[ih,ZEi (by simp[hp])]
theorem ZO{P:Option Out->Prop}{a b:SF}{r r':Env}(h:a r=some (.nx r'))(k:P (b r')):P (Zu a b r):=by show P (match a r with | some (.nx r')=>b r' | some (.rt d)=>some (.rt d) | some (.bk r')=>some (.bk r') | some (.ct r')=>some (.ct r') | none=>none);rw[h];exact k
end HM
namespace HG4
open PySem HM HG
variable{x:Int}{c:List Int}{w:Wk}
def Zcy(w:Wk)(ls c:List Int)(s:Int):List Int:=c.filter λx=>ZA w ls x==ZA w ls s
theorem ZxF{n:Nat}(p:Int->Bool)(h:Cr n c):Cr n (c.filter p):=⟨h.1.filter p,λx hx=>h.2 x (ZAh.mp hx).1⟩
def alV(w:Wk):List Int:=(ZzX w.looks.length).map λ(k:Nat)=>(k:Int)
theorem ZhR(w:Wk):Cr w.looks.length (alV w):=by
 have:=ZiL w.looks.length λ_=>true
 rwa [ZBw.mpr λ_ _=>rfl]at this
theorem ZgJ{ls:List Int}{s:Int}:x∈Zcy w ls c s↔x∈c/\ZA w ls x=ZA w ls s:=by unfold Zcy;rw[ZAh,beq_iff_eq]
theorem ZmF{d:Int}:x∈ZY w c d↔∃s∈c,x∈ZbT w d s:=by
 unfold ZY;rw[(sortI_perm _).mem_iff,ZfD];unfold Zbg;rw[ZCm]
 constructor
 ·rintro (h | h)
  ·cases h
  ·exact h
 ·exact .inr
theorem Zpe(hv:Wk.V w):Zca [w.d]=some (tupI (alV w)):=by
 have l2:=hv.l2;have hok:okR (w.looks.length:Int)=true:=ZcM (by omega);have hb:w.looks.length<1000000:=by omega
 simp[Zca,Zi8,Ziw hv,Zfs,hok,Zae,hb,alV]
end HG4
namespace HM
open PySem
def Z2:Option Out->Option D
 | some (.nx _)=>some .none
 | some (.rt d)=>some d
 | _=>none
end HM
namespace HG4
open PySem HM HG
end HG4
namespace HG5
open PySem HM HG HG4
variable{c ls p:List Int}{n:Nat}{w:Wk}
def Zx(w:Wk)(ls c:List Int):List (List Int):=(Z5 w ls c).map (·.2)
theorem Zbk:p∈Zx w ls c↔∃s∈c,p=Zcy w ls c s:=by
 unfold Zx Z5;rw[ZAe,Zz1];have hg:=Zfh (ZA w ls) c
 constructor
 ·rintro ⟨k,hk,rfl⟩
  obtain⟨s,hs,e⟩:=Zz1.mp ((hg.mem k).mp ((Zcs _).mem_iff.mp hk));refine⟨s,hs,?_⟩;subst e;rfl
 ·rintro ⟨s,hs,rfl⟩
  exact⟨ZA w ls s,(Zcs _).mem_iff.mpr ((hg.mem _).mpr (Zz1.mpr ⟨s,hs,rfl⟩)),rfl⟩
theorem Zep(hc:Cr w.many c)(h:p∈Zx w ls c):Cr w.many p/\p≠[]/\∀x∈p,x∈c:=by obtain⟨s,hs,rfl⟩:=Zbk.mp h;exact⟨ZxF _ hc,ZC0 (ZgJ.mpr ⟨hs,rfl⟩),λx hx=>(ZgJ.mp hx).1⟩
theorem ZhH(w:Wk)(ls c:List Int):(Zx w ls c).Nodup:=by unfold Zx Z5;rw[ZAe];have hg:=Zfh (ZA w ls) c;have hn:(Zd8 ((Zdh (ZA w ls) c).map (·.1))).Nodup:=(Zcs _).nodup_iff.mpr hg.nd;rw[ZDS,ZDZ];refine List.Pairwise.imp_of_mem (λ{a b} ha hb hne e=>?_) (ZDS.mp hn);obtain⟨s,hs,es⟩:=Zz1.mp ((hg.mem a).mp ((Zcs _).mem_iff.mp ha));have h1:s∈c.filter λs=>ZA w ls s==a:=ZAh.mpr ⟨hs,beq_iff_eq.mpr es⟩;have e':(c.filter λs=>ZA w ls s==a)=c.filter λs=>ZA w ls s==b:=e;rw[e']at h1;have:=beq_iff_eq.mp (ZAh.mp h1).2;exact hne (es.symm.trans this)
theorem Zfj(h:c≠[]):Zx w ls c≠[]:=by
 cases c with
 | nil=>exact absurd rfl h
 | cons s c=>exact ZC0 (Zbk.mpr ⟨s,ZzT ..,rfl⟩)
def Zjz:Nat->List (List Int)
 | 0=>[[]]
 | n+1=>Zjz n++(Zjz n).map (·++[(n:Int)])
theorem Zpf:∀n,(Zjz n).length=2 ^ n
 | 0=>rfl
 | n+1=>by show(Zjz n++(Zjz n).map (·++[(n:Int)])).length=_;rw[ZAb,ZzP,Zpf n,Nat.pow_succ];omega
theorem Zk6:∀(n:Nat) (c:List Int),Cr n c->c∈Zjz n
 | 0,c,h=>by
  cases c with
  | nil=>exact Zz0.mpr rfl
  | cons x c=>have:=h.2 x (ZzT ..); omega
 | n+1,c,h=>by
  show c∈Zjz n++(Zjz n).map (·++[(n:Int)])
  by_cases hm:(n:Int)∈c
  ·-- the last is n
   have key:∀(c:List Int),c.Pairwise (· < ·)->(∀x∈c,0<=x/\x<((n+1:Nat):Int))->(n:Int)∈c->∃c',c=c'++[(n:Int)]/\c'.Pairwise (· < ·)/\∀x∈c',0<=x/\x<(n:Int):=by
    intro c
    induction c with
    | nil=>intro _ _ h; simp at h
    | cons x c ih =>
     intro hp hb hm;obtain⟨p1,p2⟩:=ZAK.mp hp
     by_cases hx:x=(n:Int)
     ·cases c with
      | nil=>exact⟨[],by rw[hx]; rfl,.nil,λy hy=>by simp at hy⟩
      | cons y c=>have h1:=p1 y (ZzT ..);have h2:=hb y (ZzU _ (ZzT ..));omega
     ·have hm':(n:Int)∈c:=by
       rcases Zz7.mp hm with e | e
       ·exact absurd e.symm hx
       ·exact e
      obtain⟨c',e,q1,q2⟩:=ih p2 (λy hy=>hb y (ZzU _ hy)) hm';refine⟨x::c',by rw[e]; rfl,ZAK.mpr ⟨λy hy=>p1 y (by rw[e]; exact ZAv _ hy),q1⟩,λy hy=>?_⟩;rcases Zz7.mp hy with e' | hy
      ·have h1:=p1 (n:Int) hm'
       have h2:=hb x (ZzT ..);rw[e'];omega
      ·exact q2 y hy
   obtain⟨c',e,q1,q2⟩:=key c h.1 h.2 hm;exact ZAg _ (Zz1.mpr ⟨c',Zk6 n c' ⟨q1,q2⟩,e.symm⟩)
  ·refine ZAv _ (Zk6 n c ⟨h.1,λx hx=>?_⟩)
   have h1:=h.2 x hx;have:x≠(n:Int):=λe=>hm (e▸hx);omega
theorem Zip{L:List (List Int)}(hn:L.Nodup)(h:∀c∈L,Cr n c):L.length<=2 ^ n:=by rw[<-Zpf n];exact ZBy hn λc hc=>Zk6 n c (h c hc)
def ZC(w:Wk)(c:List Int):Bool:=c.all λs=>w.goal.contains s
def Win(w:Wk)(ls:List Int):Nat->List Int->Bool
 | 0,c=>ZC w c
 | n+1,c=>ZC w c||(ZzX w.deeds.length).any λd=>Zad w c d&&(Zx w ls (ZY w c d)).all λp=>Win w ls n p
theorem ZoU{w:Wk}{ls:List Int}:∀(n:Nat) (c:List Int),Win w ls n c=true->Win w ls (n+1) c=true
 | 0,c,h=>by show(ZC w c||_)=true;rw[show ZC w c=true from h];rfl
 | n+1,c,h=>by
  have h':(ZC w c||(ZzX w.deeds.length).any λd=>Zad w c d&&(Zx w ls (ZY w c d)).all λp=>Win w ls n p)=true:=h;show(ZC w c||(ZzX w.deeds.length).any λd=>Zad w c d&&(Zx w ls (ZY w c d)).all λp=>Win w ls (n+1) p)=true;rw[ZBd]at h' ⊢;rcases h' with h' | h'
  ·exact .inl h'
  ·right
   obtain⟨d,hd,hq⟩:=ZAH.mp h';rw[ZAc]at hq;refine ZAH.mpr ⟨d,hd,?_⟩;rw[ZAc];exact⟨hq.1,ZzY.mpr λp hp=>ZoU n p (ZzY.mp hq.2 p hp)⟩
theorem ZfB{m:Nat}(h:n<=m)(q:Win w ls n c=true):Win w ls m c=true:=by
 induction h with
 | refl=>exact q
 | step _ ih=>exact ZoU _ _ ih
def ZgW(w:Wk)(ls:List Int)(L:List (List Int)):Prop:=∀c∈L,∀d:Nat,d<w.deeds.length->Zad w c d=true->∀p∈Zx w ls (ZY w c d),p∈L
theorem ZlG{w:Wk}{ls:List Int}{L:List (List Int)}(hL:ZgW w ls L){n:Nat}(h:∀c∈L,Win w ls (n+1) c=true->Win w ls n c=true):∀(m:Nat),∀c∈L,Win w ls m c=true->Win w ls n c=true
 | 0,c,_,q=>ZfB (ZBq n) q
 | m+1,c,hc,q=>by
  refine h c hc ?_;have q':(ZC w c||(ZzX w.deeds.length).any λd=>Zad w c d&&(Zx w ls (ZY w c d)).all λp=>Win w ls m p)=true:=q;show(ZC w c||(ZzX w.deeds.length).any λd=>Zad w c d&&(Zx w ls (ZY w c d)).all λp=>Win w ls n p)=true;rw[ZBd]at q' ⊢;rcases q' with q' | q'
  ·exact .inl q'
  ·right
   obtain⟨d,hd,hq⟩:=ZAH.mp q';rw[ZAc]at hq;refine ZAH.mpr ⟨d,hd,?_⟩;rw[ZAc];exact⟨hq.1,ZzY.mpr λp hp=>ZlG hL h m p (hL c hc d (ZAi.mp hd) hq.1 p hp) (ZzY.mp hq.2 p hp)⟩
theorem ZfS{α:Type}{p q:α->Bool}:∀{L:List α},(∀x∈L,p x=true->q x=true)->(∃x∈L,q x=true/\p x=false)->(L.filter p).length<(L.filter q).length
 | [],_,⟨x,hx,_⟩=>by simp at hx
 | y::L,h,⟨x,hx,h1,h2⟩=>by
  have le:∀{L:List α},(∀x∈L,p x=true->q x=true)->(L.filter p).length<=(L.filter q).length:=by
   intro L
   induction L with
   | nil=>intro _; exact Zz3 _
   | cons z L ih =>
    intro h;have:=ih λx hx=>h x (ZzU _ hx);have hz:=h z (ZzT ..);rw[ZA5,ZA5];cases hp:p z with
    | true=>rw[hz hp]; simpa using this
    | false =>
     cases q z
     ·simpa using this
     ·simp; omega
  have hL:=λx hx=>h x (ZzU y hx);have hy:=h y (ZzT ..);rw[ZA5,ZA5];rcases Zz7.mp hx with e | hx
  ·subst e
   rw[h2,h1];have:=le hL;simp; omega
  ·have:=ZfS hL ⟨x,hx,h1,h2⟩
   cases hp:p y with
   | true=>rw[hy hp]; simpa using this
   | false =>
    cases q y
    ·simpa using this
    ·simp; omega
end HG5
namespace HG5
open PySem HM HG
def Zn5:SF :=
 (ZE (ZeT (ZgZ (Za 0) .int) (Zup (ZgZ (Za 0) .bool))))
def ZcD:List D->Option D:=fnOf 1 1 Zn5
def Zi9:SF :=
 (ZE (op2 gEq (eOf (ZK (ZS (bOf (Za 1))) (tV (Zh0 (Za 0) (bOf (eIx (Zo 1) (eC (.int 4)))))) (Za 0))) (eOf (Zdj Zi))))
def Zbd:List D->Option D:=fnOf 2 2 Zi9
end HG5
namespace HG5
open PySem HM HG HG4
theorem Zvg{a b:List Int}(h:tupI a=tupI b):a=b:=by
 injection h with h
 have:=congrArg ZaP h;rw[Zce,Zce]at this;exact ZAz this
theorem Zm6(p:List Int):Zao (tupI p)=true:=Ziz (Zeo 0 p) (by decide)
theorem ZvY(a b:List Int):ZA1 (tupI a) (tupI b)=(a==b):=by have h:=Zmn 1 (tupI a) (tupI b) (Zeo 0 a) ⟨1,Zeo 0 b⟩;apply ZDw.mpr;rw[h,beq_iff_eq];exact⟨Zvg,λe=>by rw[e]⟩
theorem Zvf(L:List (List Int))(p:List Int):ZpW (L.map tupI) (tupI p)=some (L.contains p):=by
 unfold ZpW;have h1:(L.map tupI).all Zao=true:=ZzY.mpr λd hd=>by obtain⟨c,_,rfl⟩:=Zz1.mp hd;exact Zm6 c
 rw[Zm6,h1,if_pos (by rfl)];congr 1
 induction L with
 | nil=>rfl
 | cons c L ih=>rw[ZzZ,ZBJ,ZvY,List.contains_cons,ih (by rw[ZzZ,ZAV,ZAc]at h1;exact h1.2)];rw[show(c==p)=(p==c) from ZDw.mpr ⟨λh=>beq_iff_eq.mpr (beq_iff_eq.mp h).symm,λh=>beq_iff_eq.mpr (beq_iff_eq.mp h).symm⟩]
theorem ZgE{w:Wk}{c:List Int}{d:Int}(h0:c≠[])(hc:Zad w c d=true):ZY w c d≠[]:=by
 cases c with
 | nil=>exact absurd rfl h0
 | cons s c =>
  unfold Zad at hc;have h1:=ZzY.mp hc s (ZzT ..);have h2:0<(ZbT w d s).length:=by simpa using h1
  cases hr:ZbT w d s with
  | nil=>rw[hr]at h2; simp at h2
  | cons x xs=>exact ZC0 (ZmF.mpr ⟨s,ZzT ..,by rw[hr]; exact ZzT ..⟩)
def ZzL(w:Wk)(ls c:List Int)(L:List (List Int))(d:Nat):List (List Int):=if Zad w c d then L++(Zx w ls (ZY w c d)).filter (λp=>!L.contains p)else L
end HG5
namespace HG5
open PySem HM HG HG4
theorem Zo1{α:Type}(ns:List Int):gEq (.list (ns.map dI)) (.list [])=some (.bool ns.isEmpty):=by
 cases ns with
 | nil=>exact Zeg (Zk1 0 []) (by decide)
 | cons n ns=>exact ZgP (Zk1 0 (n::ns)) (Zk1 0 []) (by decide) (by decide) (by simp)
theorem Zuf(L:List (List Int)):gEq (.list (L.map tupI)) (.list [])=some (.bool L.isEmpty):=by
 have h:∀L:List (List Int),nbD 2 (.list (L.map tupI))=true:=λL=>ZxC λd hd=>by obtain⟨c,_,rfl⟩:=Zz1.mp hd;exact Zeo 0 c
 cases L with
 | nil=>exact Zeg (h []) (by decide)
 | cons c L=>exact ZgP (h (c::L)) (h []) (by decide) (by decide) (by simp)
theorem filter_empty{α:Type}(p:α->Bool)(L:List α):(L.filter λx=>!p x).isEmpty=L.all p:=by
 induction L with
 | nil=>rfl
 | cons x L ih =>
  rw[ZA5,ZAV];cases p x with
  | true=>simpa using ih
  | false=>rfl
theorem Zjw{w:Wk}(hv:Wk.V w){c:List Int}(hc:c.length<1000):Zbd [w.d,tupI c]=some (.bool (ZC w c)):=by
 have hb:c.length<1000000:=by omega
 have i0:ZcP (.pl w.d)=some [ZAx w.many,.tuple (w.deeds.map ZZ),.tuple (w.looks.map tupI),tupI w.beg,tupI w.goal]:=rfl;have e:∀r:HM.Env,r[0]?=some (some (.pl w.d))->Zap (tV (Zh0 (Za 0) (bOf (eIx (Zo 1) (eC (.int 4)))))) (Za 0) r (c.map dI)=some ((c.filter λs=>!w.goal.contains s).map dI):=λr r0=>by
  rw[ZbZ dI (λs=>!w.goal.contains s) dI]
  ·intro s _
   simp[r0,i0,Zpn,Zce,-ZcP,-ZBD];simp[Zpn,Zce,-ZBD]
  ·intro s _ _
   simp
 have g:=Zo1 (α:=Int) (c.filter λs=>!w.goal.contains s);rw[filter_empty (λs=>w.goal.contains s) c]at g;simp[Zbd,Zi9,hb,e,g,ZC,-gEq,-ZBD]
abbrev Tb:=List (List Int × Int)
def encM(M:Tb):List (List Ky × D):=M.map λp=>(Zab p.1,dI p.2)
theorem Zb7(M:Tb)(k:List Int):Zg (encM M) (Zab k)=(Zg M k).map dI:=by
 unfold Zg encM;rw[List.find?_map];have e:((λp:List Ky × D=>decide (p.1=Zab k))∘λp:List Int × Int=>(Zab p.1,dI p.2))=λp=>decide (p.1=k):=by
  funext p
  simp only[ZDj];exact decide_eq_decide.mpr (ZmB p.1 k)
 rw[e];cases M.find? λp=>decide (p.1=k)<;>rfl
theorem Ziv(M:Tb)(k:List Int)(v:Int):putD (encM M) (Zab k) (dI v)=encM (putD M k v):=by
 unfold putD;have e1:((encM M).any λp=>decide (p.1=Zab k))=M.any λp=>decide (p.1=k):=by
  unfold encM;rw[List.any_map];congr 1
  funext p
  simp only[ZDj];exact decide_eq_decide.mpr (ZmB p.1 k)
 rw[e1];split
 ·unfold encM
  rw[ZAe,ZAe];refine ZBv λp _=>?_;simp only[ZDj]
  by_cases h:p.1=k
  ·rw[if_pos h,if_pos (by rw[h])]
  ·rw[if_neg h,if_neg (λe=>h (ZgL e))]
 ·unfold encM
  rw[ZAq];rfl
theorem Zjs(k:List Int):Zg ([]:Tb) k=none:=rfl
theorem Zb4(x:List Int)(v:Int)(M:Tb)(k:List Int):Zg ((x,v)::M) k=if x=k then some v else Zg M k:=by
 unfold Zg;rw[ZAU]
 by_cases h:x=k<;>simp[h]
theorem ZfF(x k:List Int)(v:Int)(M:Tb):Zg (putD M x v) k=if x=k then some v else Zg M k:=by
 have rep:∀M:Tb,Zg (M.map λp=>if p.1=x then(p.1,v)else p) k=if x=k then(Zg M k).map (λ_=>v)else Zg M k:=by
  intro M
  induction M with
  | nil=>rw[ZB4,Zjs]; split<;>rfl
  | cons p M ih =>
   obtain⟨a,b⟩:=p;rw[ZzZ]
   by_cases ha:a=x
   ·rw[if_pos (show(a,b).1=x from ha),Zb4,Zb4,ih]
    show(if a=k then some v else _)=_
    by_cases hk:x=k
    ·rw[if_pos (by rw[ha,hk]),if_pos hk,if_pos (by rw[ha,hk])]; rfl
    ·rw[if_neg (by rw[ha]; exact hk),if_neg hk,if_neg hk,if_neg (by rw[ha]; exact hk)]
   ·rw[if_neg (show ¬(a,b).1=x from ha),Zb4,Zb4,ih]
    by_cases hk:a=k
    ·rw[if_pos hk,if_pos hk]
     have:x≠k:=λe=>ha (hk.trans e.symm);rw[if_neg this]
    ·rw[if_neg hk,if_neg hk]
 have app:∀M:Tb,Zg (M++[(x,v)]) k=match Zg M k with | some u=>some u | none=>if x=k then some v else none:=by
  intro M
  induction M with
  | nil=>rw[ZCQ,Zb4,Zjs]
  | cons p M ih =>
   obtain⟨a,b⟩:=p;rw[ZEd,Zb4,Zb4,ih]
   by_cases hk:a=k
   ·rw[if_pos hk,if_pos hk]
   ·rw[if_neg hk,if_neg hk]
 have has:∀M:Tb,(M.any λp=>decide (p.1=x))=(Zg M x).isSome:=by
  intro M
  induction M with
  | nil=>rfl
  | cons p M ih =>
   obtain⟨a,b⟩:=p;rw[ZBJ,Zb4,ih]
   by_cases ha:a=x<;>simp[ha]
 unfold putD;split
 ·rename_i h
  rw[rep]
  by_cases hk:x=k
  ·subst hk
   rw[has]at h;rw[if_pos rfl,if_pos rfl];obtain⟨u,hu⟩:=ZAt.mp h;rw[hu]; rfl
  ·rw[if_neg hk,if_neg hk]
 ·rename_i h
  rw[app]
  by_cases hk:x=k
  ·subst hk
   rw[has]at h;rw[if_pos rfl,if_pos rfl];cases hq:Zg M x with
   | none=>rfl
   | some u=>rw[hq]at h; exact absurd rfl h
  ·rw[if_neg hk,if_neg hk]
   cases Zg M k<;>rfl
theorem Zkj(x:List Int)(v:Int)(M:Tb):(putD M x v).length<=M.length+1:=by
 unfold putD;split
 ·rw[ZzP]; omega
 ·rw[ZAb]; exact Zz3 _
def Zv(M:Tb)(p:List Int):Bool:=(Zg M p).isSome
def ZfQ(w:Wk)(ls c:List Int)(M:Tb):Bool:=(ZzX w.deeds.length).any λd=>Zad w c d&&(Zx w ls (ZY w c d)).all λp=>Zv M p
end HG5
namespace HG5
open PySem HM HG HG4
variable{L:List (List Int)}{c ls:List Int}{w:Wk}
def ZcU(w:Wk)(ls:List Int)(t:Nat)(c:List Int):Option Int:=((ZzX (t+1)).find? λn=>Win w ls n c).map λ(n:Nat)=>(n:Int)
theorem ZcX{t:Nat}:(ZcU w ls t c).isSome=Win w ls t c:=by
 unfold ZcU;rw[ZBs];cases h:Win w ls t c with
 | true=>rw[ZD0]; exact⟨t,ZAi.mpr (by omega),h⟩
 | false =>
  cases q:(ZzX (t+1)).find? λn=>Win w ls n c with
  | none=>rfl
  | some n=>have h1:=List.find?_some q;have h2:=ZAi.mp (ZCS q);rw[ZfB (show n<=t by omega) h1]at h;cases h
theorem Zsn{t:Nat}:ZcU w ls (t+1) c=match ZcU w ls t c with
  | some k=>some k
  | none=>if Win w ls (t+1) c then some ((t+1:Nat):Int)else none:=by
 unfold ZcU;rw[List.range_succ (n:=t+1),ZDX];cases(ZzX (t+1)).find? λn=>Win w ls n c with
 | some n=>rfl
 | none=>show ZBC _ (Option.or none ([t+1].find? λn=>Win w ls n c))=_;rw[Option.none_or,ZAU];cases Win w ls (t+1) c<;>rfl
theorem ZlU{t:Nat}{k:Int}(h:ZcU w ls t c=some k):∃n:Nat,k=(n:Int)/\n<=t/\Win w ls n c=true/\∀m,m<n->Win w ls m c=false:=by
 unfold ZcU at h;obtain⟨n,hn,rfl⟩:=ZzR.mp h;refine⟨n,rfl,?_,List.find?_some (p:=λn=>Win w ls n c) hn,λm hm=>?_⟩
 ·have:=ZAi.mp (ZCS hn)
  omega
 ·cases q:Win w ls m c with
  | false=>rfl
  | true =>
   obtain⟨_,as,bs,e,hno⟩:=List.find?_eq_some_iff_append.mp hn;have hmem:m∈ZzX (t+1):=ZAi.mpr (by have:=ZAi.mp (ZCS hn);omega);have hp:(as++n::bs).Pairwise (· < ·):=by rw[<-e]; exact ZEx
   rw[e]at hmem;rcases ZAp.mp hmem with h1 | h1
   ·have:=hno m h1
    rw[q]at this;cases this
   ·rcases Zz7.mp h1 with h2 | h2
    ·omega
    ·have:=(ZAK.mp (List.pairwise_append.mp hp).2.1).1 m h2
     omega
structure Zik(w:Wk)(ls:List Int)(L:List (List Int))(t:Nat)(M:Tb):Prop where
 look:∀c,Zg M c=if c∈L then ZcU w ls t c else none
theorem Zem(v:Int)(k:List Int):∀(ms:List (List Int)) (M:Tb),Zg (ms.foldl (λM c=>putD M c v) M) k=if k∈ms then some v else Zg M k
 | [],M=>by simp
 | c::ms,M=>by
  rw[ZA3,Zem v k ms,ZfF]
  by_cases h1:k∈ms
  ·rw[if_pos h1,if_pos (ZzU _ h1)]
  ·rw[if_neg h1]
   by_cases h2:c=k
   ·rw[if_pos h2,if_pos (by rw[h2]; exact ZzT ..)]
   ·rw[if_neg h2,if_neg]
    intro h;rcases Zz7.mp h with e | e
    ·exact h2 e.symm
    ·exact h1 e
theorem ZjP(v:Int):∀(ms:List (List Int)) (M:Tb),(ms.foldl (λM c=>putD M c v) M).length<=M.length+ms.length
 | [],M=>Zz3 _
 | c::ms,M=>by rw[ZA3,Zz8];have:=ZjP v ms (putD M c v);have:=Zkj c v M;omega
def Zf3(w:Wk)(ls:List Int)(L:List (List Int))(M:Tb):List (List Int):=L.filter λc=>!Zv M c&&ZfQ w ls c M
theorem Zp6(hL:ZgW w ls L){t:Nat}{M:Tb}(T:Zik w ls L t M):Zik w ls L (t+1) ((Zf3 w ls L M).foldl (λM c=>putD M c ((t+1:Nat):Int)) M):=by
 have hhas:∀c∈L,Zv M c=Win w ls t c:=λc hc=>by unfold Zv;rw[T.look,if_pos hc,ZcX]
 refine⟨λc=>?_⟩;rw[Zem,T.look]
 by_cases hc:c∈L
 ·rw[if_pos hc,if_pos hc,Zsn]
  have hcan:ZfQ w ls c M=(ZzX w.deeds.length).any λd=>Zad w c d&&(Zx w ls (ZY w c d)).all λp=>Win w ls t p:=by
   unfold ZfQ;apply ZDw.mpr;rw[ZAH,ZAH]
   constructor
   ·rintro ⟨d,hd,hq⟩
    rw[ZAc]at hq;refine⟨d,hd,?_⟩;rw[ZAc];refine⟨hq.1,ZzY.mpr λp hp=>?_⟩;rw[<-hhas p (hL c hc d (ZAi.mp hd) hq.1 p hp)];exact ZzY.mp hq.2 p hp
   ·rintro ⟨d,hd,hq⟩
    rw[ZAc]at hq;refine⟨d,hd,?_⟩;rw[ZAc];refine⟨hq.1,ZzY.mpr λp hp=>?_⟩;rw[hhas p (hL c hc d (ZAi.mp hd) hq.1 p hp)];exact ZzY.mp hq.2 p hp
  have hmem:c∈Zf3 w ls L M↔(Win w ls t c=false/\ZfQ w ls c M=true):=by
   unfold Zf3;rw[ZAh,ZAc,hhas c hc]
   constructor
   ·rintro ⟨_,h1,h2⟩
    exact⟨by simpa using h1,h2⟩
   ·rintro ⟨h1,h2⟩
    exact⟨hc,by simp[h1],h2⟩
  cases hw:Win w ls t c with
  | true =>
   have hs:(ZcU w ls t c).isSome=true:=by rw[ZcX]; exact hw
   obtain⟨k,hk⟩:=ZAt.mp hs;rw[if_neg (λh=>by rw[hw]at hmem; cases(hmem.mp h).1),hk]
  | false =>
   have hs:ZcU w ls t c=none:=by
    have:=ZcX (w:=w) (ls:=ls) (t:=t) (c:=c);rw[hw]at this;cases q:ZcU w ls t c with
    | none=>rfl
    | some k=>rw[q]at this; cases this
   have hth:ZC w c=false:=by
    cases q:ZC w c with
    | false=>rfl
    | true=>have:Win w ls t c=true:=ZfB (ZBq t) (show Win w ls 0 c=true from q);rw[hw]at this;cases this
   have hwin:Win w ls (t+1) c=ZfQ w ls c M:=by rw[hcan];show(ZC w c||_)=_;rw[hth,ZEH]
   rw[hs];dsimp only;rw[hwin];cases hcw:ZfQ w ls c M with
   | true=>rw[if_pos (hmem.mpr ⟨hw,hcw⟩),if_pos rfl]
   | false=>rw[if_neg (λh=>by have:=(hmem.mp h).2; rw[hcw]at this; cases this)]; rfl
 ·rw[if_neg hc,if_neg hc,if_neg]
  intro h;exact hc (ZAh.mp h).1
def M0(w:Wk)(L:List (List Int)):Tb:=(L.filter λc=>ZC w c).foldl (λM c=>putD M c 0) []
theorem Zp8:Zik w ls L 0 (M0 w L):=by
 refine⟨λc=>?_⟩;unfold M0;rw[Zem,Zjs];have e:ZcU w ls 0 c=if ZC w c then some 0 else none:=by unfold ZcU;show ZBC _ (([0]:List Nat).find? λn=>Win w ls n c)=_;rw[ZAU];show ZBC _ (match Win w ls 0 c with | true=>some 0 | false=>_)=_;have:Win w ls 0 c=ZC w c:=rfl;rw[this];cases ZC w c<;>rfl
 rw[e]
 by_cases hc:c∈L
 ·rw[if_pos hc]
  cases ht:ZC w c with
  | true=>rw[if_pos (ZAh.mpr ⟨hc,ht⟩)]; rfl
  | false=>rw[if_neg (λh=>by have:=(ZAh.mp h).2; rw[ht]at this; cases this)]; rfl
 ·rw[if_neg hc,if_neg λh=>hc (ZAh.mp h).1]
end HG5
namespace HG5
open PySem HM HG HG4
def Zsf(w:Wk)(ls:List Int)(n:Nat):Prop:=∀p∈Zx w ls w.beg,Win w ls n p=true
def Few(w:Wk)(ls:List Int)(d:D):Prop:=(∃n:Nat,d=.int n/\Zsf w ls n/\∀m,m<n->¬Zsf w ls m)\/(d=.none/\∀n,¬Zsf w ls n)
end HG5
namespace HG5
open PySem HM HG
def Zqh:SF :=
 (ZE (eIx (Zo 0) (eC (.int 3))))
def Zbo:List D->Option D:=fnOf 1 1 Zqh
def ZrC:SF :=
 (ZE (eIx (Zo 0) (eC (.int 4))))
def ZdM:List D->Option D:=fnOf 1 1 ZrC
def Zkz:SF :=
 (ZE (ZiG (ZK (ZS (bOf (Za 1))) ZN (Zpy (Za 0) (bOf (Zm ZdM (Zc (Za 1) Zi)))))))
def ZbH:List D->Option D:=fnOf 2 2 Zkz
def Zja:SF :=
 (ZE (eOf (ZK (ZS (bOf (Za 0))) ZN (eIx (Zo 0) (eC (.int 1))))))
def ZQ:List D->Option D:=fnOf 1 1 Zja
def Zcb(ap:AP):SF :=
 (Zkc 3 (ZjM ZQ (Zc (eIx (Zo 5) (eC (.int 1))) Zi)))
def ZbD(ap:AP):SF :=
 (Zu (Zun 4 3)
  (sIf (tV (ZbW (Za 4) (Zo 2))) (Zu (ZhD 2 (Za 4) (ZgN ap 1 (Zc (Za 4) Zi)))
  (Zba 5 (ZS (bOf (ZaX (Zo 2) (Za 4)))) (Zcb ap))) Zay))
def Zdl(ap:AP):SF :=
 (Zu (ZW 2 fDt)
  (Zu (ZW 3 (ZhU (Zo 0)))
  (Zu (ZhT 100000 (tV (op2 gGt (Zaf (Zo 3)) (eC (.int 0)))) (ZbD ap))
  (ZeR 2 (ZE (Za 2))))))
def ZaO(ap:AP):List D->Option D:=fnOf 2 6 (Zdl ap)
def ZfG(ap:AP):SF :=
 (Zu (ZW 3 (ZK (ZS (bOf (Za 0))) ZN (ZgN ap 3 (Zc (Za 0) (Zc (Za 2) Zi)))))
  (ZeR 3 (ZE (Zf5 (ZK (ZS (bOf (Za 3))) (tV (op2 Zhh (Za 0) (eC .none))) (Za 0))))))
def ZbX(ap:AP):List D->Option D:=fnOf 3 4 (ZfG ap)
def Z8(ap:AP):SF :=
 (sIf (tV (ZbW (Za 4) (Zo 1))) (Zu (Z4 5 (Zm (ZbX ap) (Zc (ZaX (Zo 0) (Za 4)) (Zc (Za 1) (Zc (Za 2) Zi)))))
  (sIf (tV (op2 Zhh (Za 5) (eC .none))) (ZhD 3 (Za 4) (Za 5)) Zay)) Zay)
def ZbA(ap:AP):List D->Option (List (List Ky × D)):=newOf 3 6
 (Zk3 (ZW 3 fDt)
 (Zk3 (Zfu 0 (Zba 4 (Zbm 0) (Z8 ap)))
 (ZpA 3)))
def Zdw(ap:AP):SF :=
 (ZhD 3 (Za 6) (Za 4))
def Zdx(ap:AP):SF :=
 (Zu (ZeR 5 (Zba 6 (ZS (bOf (Za 5))) (Zdw ap)))
  (Zu (ZW 7 (ZjG (ZbA ap) (Zc (Za 1) (Zc (Zr7 (Zo 3)) (Zc (Za 2) Zi)))))
  (Zu (ZeR 7 (Zfu 7 (Z4 4 (Zf5 (ZK (Zbm 7) ZN (ZaX (Zo 8) (Za 0)))))))
  (ZeR 7 (Zfu 7 (ZW 5 (ZK (Zbm 7) (tV (op2 gEq (ZaX (Zo 8) (Za 0)) (Za 5))) (Za 0))))))))
def Zfl(ap:AP):SF :=
 (Zu (ZW 3 fDt)
  (Zu (Z4 4 (eC (.int 0)))
  (Zu (Zfu 1 (ZW 5 (ZK (Zbm 1) (tV (Zm ZbH (Zc (Za 1) (Zc (Za 0) Zi)))) (Za 0))))
  (Zu (ZhT 100000 (tV (op2 gGt (Zaf (Zo 5)) (eC (.int 0)))) (Zdx ap))
  (ZeR 3 (ZE (Za 3)))))))
def ZbI(ap:AP):List D->Option D:=fnOf 3 8 (Zfl ap)
def Zea:SF :=
 (Zu (ZW 2 (ZK (ZS (bOf (Zm ZQ (Zc (Za 0) Zi)))) (tV (Zo2 (Za 0) (Zo 2))) (ZaX (Zo 2) (Za 0))))
  (ZE (eIf (tV (op2 gEq (Zaf (Zo 2)) (Zaf (Zo 0)))) (Zfx (Zo 2)) (eC .none))))
def ZR:List D->Option D:=fnOf 2 3 Zea
def Zjb:SF :=
 (ZE (eOf (ZK (ZS (bOf (Zm Zcj (Zc (Za 0) (Zc (Za 2) Zi))))) ZN (Za9 (Zc (Za 0) (Zc (Zm Zar (Zc (Za 1) (Zc (Za 2) (Zc (Zm Zdt (Zc (Za 1) (Zc (Za 3) (Zc (Za 0) Zi)))) Zi)))) Zi))))))
def Zak:List D->Option D:=fnOf 3 3 Zjb
def ZeZ(ap:AP):SF :=
 (ZE (Zfe (ZaO ap) 1 [0,1] (Zm ZQ (Zc (Zm Zar (Zc (Za 0) (Zc (Za 1) (Zc (Za 2) Zi)))) Zi))))
def ZcE(ap:AP):List D->Option D:=fnOf 3 3 (ZeZ ap)
def Zhk:SF :=
 (Zu (Z4 2 (Zm ZR (Zc (eIx (Zo 0) (eC (.int 1))) (Zc (Za 1) Zi))))
  (ZE (eIf (tV (op2 Zfd (Za 2) (eC .none))) (eC .none) (op2 ZaE (Za 2) (eC (.int 1))))))
def Zda:List D->Option D:=fnOf 2 3 Zhk
def Zgj(ap:AP):SF :=
 (ZE (Zm (ZbI ap) (Zc (Za 0) (Zc (Za 1) (Zc (eC (fnD 0 [])) Zi)))))
def Zdy(ap:AP):List D->Option D:=fnOf 2 2 (Zgj ap)
def Zjc(ap:AP):SF :=
 (Zu (ZlW (Zm ZbG (Zc (Za 0) Zi)))
  (Zu (ZlW (Zm ZbC (Zc (Za 0) (Zc (Za 1) Zi))))
  (Zu (Z4 2 (Zm Zbo (Zc (Za 0) Zi)))
  (Zu (Z4 3 (Zm (Zdy ap) (Zc (Za 0) (Zc (Zm (ZcE ap) (Zc (Za 0) (Zc (Za 1) (Zc (Za 2) Zi)))) Zi))))
  (ZE (Zm ZR (Zc (Zm Zar (Zc (Za 0) (Zc (Za 1) (Zc (Za 2) Zi)))) (Zc (Za 3) Zi))))))))
def Zel(ap:AP):List D->Option D:=fnOf 2 4 (Zjc ap)
end HG5
namespace HG5
open PySem HM HG HG4
variable{c:List Int}{w:Wk}
theorem ZzO(w:Wk):ZcP (.pl w.d)=some [ZAx w.many,.tuple (w.deeds.map ZZ),.tuple (w.looks.map tupI),tupI w.beg,tupI w.goal]:=rfl
theorem ZhE(w:Wk):Zbo [w.d]=some (tupI w.beg):=rfl
theorem Zsq(w:Wk):ZdM [w.d]=some (tupI w.goal):=rfl
theorem Zvo{α:Type}(xs:List α)(p:α->Bool):ZeU (xs.map λx=>ZBk (p x))=some (xs.map p):=by
 have:=ZeX (xs.map p)
 rwa [ZAe]at this
theorem ZqL(hc:c.length<1000):ZbH [w.d,tupI c]=some (.bool (ZC w c)):=by
 have hb:c.length<1000000:=by omega
 have e:∀r:HM.Env,r[0]?=some (some (.pl w.d))->Zap ZN (Zpy (Za 0) (bOf (Zm ZdM (Zc (Za 1) Zi)))) r (c.map dI)=some (c.map λs=>ZBk (w.goal.contains s)):=λr r0=>by
  rw[Za0 dI (λs=>ZBk (w.goal.contains s))]
  ·intro s _
   simp[r0,Zsq,Zpn,Zce,-ZBD]
 simp[ZbH,Zkz,hb,e,Zvo,ZC,-ZBD]
theorem ZgT(g:Gs)(h:g.length<1000000):ZQ [.list (g.map ZaL)]=some (.list ((g.map (·.2)).map tupI)):=by
 have e:∀r:HM.Env,Zap ZN (eIx (Zo 0) (eC (.int 1))) r (g.map ZaL)=some ((g.map (·.2)).map tupI):=λr=>by
  rw[Za0 ZaL (λp=>tupI p.2),ZAe]
  ·rfl
  ·intro p _
   rfl
 simp[ZQ,Zja,h,e]
def Zk7(w:Wk)(ls c:List Int)(d:Int):D:=.tuple [dI d,.list ((Z5 w ls (ZY w c d)).map ZaL)]
def ZnP(w:Wk)(ls c:List Int):D:=.list ((doV w c).map (Zk7 w ls c))
theorem split_len{ls:List Int}:(Z5 w ls c).length<=c.length:=by unfold Z5;rw[ZzP,(Zcs _).length_eq,ZzP];exact ZlZ _ _ _ (Zfh (ZA w ls) c)
theorem Ze5(w:Wk)(c:List Int):(doV w c).length<=w.deeds.length:=by
 unfold doV;rw[ZzP];have:=ZAu (λ(d:Nat)=>Zad w c (d:Int)) (ZzX w.deeds.length)
 rwa [ZAN]at this
theorem Zms{d:Nat}(hd:d<w.deeds.length)(hc:Zad w c d=true):(d:Int)∈doV w c:=by unfold doV;exact Zz1.mpr ⟨d,ZAh.mpr ⟨ZAi.mpr hd,hc⟩,rfl⟩
section
variable{w:Wk}(hv:Wk.V w){ls:List Int}(hl:Cr w.looks.length ls)
include hv hl
theorem ZjW(hc:Cr w.many c):Zak [w.d,tupI ls,tupI c]=some (ZnP w ls c):=by
 have hdo:=ZnH hv hc;have hb:(doV w c).length<1000000:=by have:=Ze5 w c; have:=hv.d2; omega
 have e:∀r:HM.Env,r[0]?=some (some (.pl w.d))->r[1]?=some (some (.pl (tupI ls)))->r[2]?=some (some (.pl (tupI c))) ->
   Zap ZN (Za9 (Zc (Za 0) (Zc (Zm Zar (Zc (Za 1) (Zc (Za 2) (Zc (Zm Zdt (Zc (Za 1) (Zc (Za 3) (Zc (Za 0) Zi)))) Zi)))) Zi))) r ((doV w c).map dI)=some ((doV w c).map (Zk7 w ls c)):=λr r0 r1 r2=>by
  rw[Za0 dI (Zk7 w ls c)];intro d hd;obtain⟨d0,d1,_⟩:=Zbs hd;have h1:=ZsO hv hc d0 d1;have h2:=Zhc hv hl (ZdR hv hc d0 d1);simp[r0,r1,r2,h1,h2,Zk7]
 simp[Zak,Zjb,hdo,hb,e,ZnP]
end
end HG5
namespace HG5
open PySem HM HG HG4
variable{C:List (List Int)}{ds:List D}{p:List Int}{n:Nat}{wf:Wf}
abbrev Wy:=D × Gs
def wyD(y:Wy):D:=.tuple [y.1,.list (y.2.map ZaL)]
def wyP(y:Wy):List (List Int):=y.2.map (·.2)
abbrev Wf:=List Int->List Wy
inductive Zmx(wf:Wf)(B:List (List Int)):List Int->Prop where
 | beg {p:List Int} (h:p∈B):Zmx wf B p
 | step {c p:List Int} {y:Wy} (r:Zmx wf B c) (hy:y∈wf c) (h:p∈wyP y):Zmx wf B p
structure ZfR(wf:Wf)(Ok:List Int->Prop)(B C W:List (List Int)):Prop where
 nd:C.Nodup
 cr:∀c∈C,Ok c
 wr:∀c∈W,Ok c
 rc:∀c∈C,Zmx wf B c
 rw:∀c∈W,Zmx wf B c
 cl:∀c∈C,∀y∈wf c,∀p∈wyP y,p∈C\/p∈W
 bg:∀p∈B,p∈C\/p∈W
def Zw(wf:Wf)(C:List (List Int)):List (List Ky × D):=C.map λc=>(Zab c,.list ((wf c).map wyD))
theorem ZjN(wf:Wf)(C:List (List Int))(k:List Int):Zg (Zw wf C) (Zab k)=if k∈C then some (.list ((wf k).map wyD))else none:=by
 unfold Zg Zw
 induction C with
 | nil=>rfl
 | cons c C ih =>
  rw[ZzZ,ZAU]
  by_cases h:c=k
  ·subst h
   rw[if_pos (ZzT ..)];simp
  ·have h':decide ((Zab c,(ZEz ((wf c).map wyD))).1=Zab k)=false:=decide_eq_false λe=>h (ZgL e)
   rw[h'];dsimp only;rw[ih]
   by_cases q:k∈C
   ·rw[if_pos q,if_pos (ZzU _ q)]
   ·rw[if_neg q,if_neg λz=>by
     rcases Zz7.mp z with e | e
     ·exact h e.symm
     ·exact q e]
theorem ZuH{k:List Int}(h:k ∉ C):putD (Zw wf C) (Zab k) (.list ((wf k).map wyD))=Zw wf (C++[k]):=by
 unfold putD;rw[if_neg]
 ·unfold Zw
  rw[ZAq];rfl
 ·intro z
  obtain⟨p,hp,e⟩:=ZAH.mp z;unfold Zw at hp;obtain⟨c,hc,rfl⟩:=Zz1.mp hp;have e:=ZgL (of_decide_eq_true e);subst e;exact h hc
theorem ZmX(wf:Wf)(L:List (List Int)):((Zw wf L).map λp=>ZAJ (p.1.map ZaU))=L.map tupI:=by unfold Zw;rw[ZAe];refine ZBv λc _=>?_;show ZAJ ((c.map ZBL).map ZaU)=ZAJ (c.map dI);rw[ZAe];rfl
def Zmq(wf:Wf)(c:List Int):List (List Int):=(wf c).flatMap wyP
theorem ZfR.old{Ok:List Int->Prop}{B V:List (List Int)}(I:ZfR wf Ok B C (V++[p]))(hp:p∈C):ZfR wf Ok B C V:=by
 have key:∀q,q∈C\/q∈V++[p]->q∈C\/q∈V:=λq h=>by
  rcases h with h | h
  ·exact .inl h
  ·rcases ZAp.mp h with h | h
   ·exact .inr h
   ·rw[Zz0.mp h]; exact .inl hp
 exact⟨I.nd,I.cr,λc h=>I.wr c (ZAv _ h),I.rc,λc h=>I.rw c (ZAv _ h),λc hc y hy q hq=>key q (I.cl c hc y hy q hq),λq hq=>key q (I.bg q hq)⟩
structure ZoH(wf:Wf)(Ok:List Int->Prop):Prop where
 ok:∀c,Ok c->∀y∈wf c,∀p∈wyP y,Ok p
 ys:∀c,Ok c->(wf c).length<=10
 ps:∀c,Ok c->∀y∈wf c,y.2.length<=8
 cs:∀C:List (List Int),C.Nodup->(∀c∈C,Ok c)->C.length<=128
theorem ZfR.new{Ok:List Int->Prop}(O:ZoH wf Ok){B V:List (List Int)}(I:ZfR wf Ok B C (V++[p]))(hp:p ∉ C):ZfR wf Ok B (C++[p]) (V++Zmq wf p):=by
 have hpc:=I.wr p (ZAg _ (Zz0.mpr rfl));have hpr:=I.rw p (ZAg _ (Zz0.mpr rfl));have key:∀q,q∈C\/q∈V++[p]->q∈C++[p]\/q∈V++Zmq wf p:=λq h=>by
  rcases h with h | h
  ·exact .inl (ZAv _ h)
  ·rcases ZAp.mp h with h | h
   ·exact .inr (ZAv _ h)
   ·exact .inl (ZAg _ h)
 refine⟨?_,λc h=>?_,λc h=>?_,λc h=>?_,λc h=>?_,λc h y hy q hq=>?_,λq hq=>key q (I.bg q hq)⟩
 ·rw[ZCd]
  refine⟨I.nd,by simp,λx hx y hy e=>?_⟩;rw[Zz0.mp hy]at e;exact hp (e▸hx)
 ·rcases ZAp.mp h with h | h
  ·exact I.cr c h
  ·rw[Zz0.mp h]; exact hpc
 ·rcases ZAp.mp h with h | h
  ·exact I.wr c (ZAv _ h)
  ·obtain⟨y,hy,hq⟩:=ZCm.mp h
   exact O.ok p hpc y hy c hq
 ·rcases ZAp.mp h with h | h
  ·exact I.rc c h
  ·rw[Zz0.mp h]; exact hpr
 ·rcases ZAp.mp h with h | h
  ·exact I.rw c (ZAv _ h)
  ·obtain⟨y,hy,hq⟩:=ZCm.mp h
   exact .step hpr hy hq
 ·rcases ZAp.mp h with h | h
  ·exact key q (I.cl c h y hy q hq)
  ·rw[Zz0.mp h]at hy
   exact .inr (ZAg _ (ZCm.mpr ⟨y,hy,hq⟩))
theorem ZuF{Ok:List Int->Prop}(O:ZoH wf Ok){c:List Int}(hc:Ok c):(Zmq wf c).length<=80:=by
 have key:∀ys:List Wy,(∀y∈ys,y∈wf c)->(ys.flatMap wyP).length<=8*ys.length:=by
  intro ys
  induction ys with
  | nil=>intro _; exact Zz3 0
  | cons y ys ih =>
   intro h;rw[List.flatMap_cons,ZAb,Zz8];have h1:=ih λx hx=>h x (ZzU _ hx);have h2:=O.ps c hc y (h y (ZzT ..));have h3:(wyP y).length=y.2.length:=by unfold wyP; rw[ZzP]
   omega
 have h1:=key (wf c) λ_ h=>h;have h2:=O.ys c hc;unfold Zmq;omega
theorem ZtI(ap:AP)(e0 e1 e2 e4:Option B):∀(ys:List Wy) (W:List (List Int)) (o:Option B),(∀y∈ys,y.2.length<=8)->W.length+8*ys.length<900000 ->
  ∃o',ZaQ 5 (Zcb ap) (ys.map wyD) [e0,e1,e2,some (.ol (W.map tupI)),e4,o]=some (.nx [e0,e1,e2,some (.ol ((W++ys.flatMap wyP).map tupI)),e4,o'])
 | [],W,o,_,_=>⟨o,by rw[List.flatMap_nil,ZAE]; rfl⟩
 | y::ys,W,o,hds,hlen=>by
  rw[Zz8]at hlen;have hb:=hds y (ZzT ..);have hci:=ZgT y.2 (by omega);have hpl:(wyP y).length<=8:=by unfold wyP; rw[ZzP]; exact hb
  have body:Zcb ap [e0,e1,e2,some (.ol (W.map tupI)),e4,some (.pl (wyD y))]=some (.nx [e0,e1,e2,some (.ol ((W++wyP y).map tupI)),e4,some (.pl (wyD y))]):=by
   have h1:ZjM ZQ (Zc (eIx (Zo 5) (eC (.int 1))) Zi) [e0,e1,e2,some (.ol (W.map tupI)),e4,some (.pl (wyD y))]=some (.ol ((wyP y).map tupI)):=by unfold ZjM;show(match ZQ [.list (y.2.map ZaL)]with | some (.list ys)=>some (B.ol ys) | _=>none)=_;rw[hci];rfl
   unfold Zcb Zkc;rw[h1];show(if _ then _ else _)=_;rw[if_pos (by rw[ZzP,ZzP]; show _<1000000; omega),ZAq];rfl
  obtain⟨o',ih⟩:=ZtI ap e0 e1 e2 e4 ys (W++wyP y) (some (.pl (wyD y))) (λx hx=>hds x (ZzU _ hx)) (by rw[ZAb]; omega);refine⟨o',?_⟩;rw[List.flatMap_cons,<-ZA8,<-ih,ZzZ];show(match Zcb ap [e0,e1,e2,some (.ol (W.map tupI)),e4,some (.pl (wyD y))]with | some (.nx r')=>_ | some (.ct r')=>_ | some (.bk r')=>_ | some (.rt d)=>_ | none=>_)=_;rw[body]
theorem ZkJ(wf:Wf)(C:List (List Int))(p:List Int)(r:HM.Env)(i j:Nat)(h1:r[i]?=some (some (.pl (tupI p))))(h2:r[j]?=some (some (.ot (Zw wf C)))):tV (ZbW (Za i) (Zo j)) r=some (!decide (p∈C)):=by
 have hk:Za1 (tupI p)=some (Zab p):=ZaD p;have hlk:=ZjN wf C p
 by_cases hp:p∈C
 ·rw[if_pos hp]at hlk
  simp[h1,h2,hk,hlk,hp]
 ·rw[if_neg hp]at hlk
  simp[h1,h2,hk,hlk,hp]
theorem Zq2(t:Nat)(cs:List D):Zmi (fnD t cs)=some (t,cs):=rfl
section
variable{ap:AP}{wf:Wf}{Ok:List Int->Prop}(O:ZoH wf Ok){t:Nat}{cs:List D}(ha:∀c,Ok c->ap t cs [tupI c]=some (.list ((wf c).map wyD)))
include O ha
omit ha O in
theorem Zu0{V:List (List Int)}(e0 e1 o4 o5:Option B)(hp:p∈C) :
  ZbD ap [e0,e1,some (.ot (Zw wf C)),some (.ol ((V++[p]).map tupI)),o4,o5]=some (.nx [e0,e1,some (.ot (Zw wf C)),some (.ol (V.map tupI)),some (.pl (tupI p)),o5]):=by
 unfold ZbD;refine ZO (P:=λq=>q=_) (r':=[e0,e1,some (.ot (Zw wf C)),some (.ol (V.map tupI)),some (.pl (tupI p)),o5]) ?_ ?_
 ·rw[ZAq]
  simp
 ·have ht:=ZkJ wf C p [e0,e1,some (.ot (Zw wf C)),some (.ol (V.map tupI)),some (.pl (tupI p)),o5] 4 2 rfl rfl
  rw[decide_eq_true hp]at ht;unfold sIf;rw[ht];rfl
theorem ZuI{V:List (List Int)}(e0 o4 o5:Option B)(hp:p ∉ C)(hc:Ok p)(hC:C.length<1000)(hV:V.length<100000) :
  ∃o5',ZbD ap [e0,some (.pl (fnD t cs)),some (.ot (Zw wf C)),some (.ol ((V++[p]).map tupI)),o4,o5]=some (.nx [e0,some (.pl (fnD t cs)),some (.ot (Zw wf (C++[p]))),some (.ol ((V++Zmq wf p).map tupI)),some (.pl (tupI p)),o5']):=by
 have hdl:=O.ys p hc;obtain⟨o5',go⟩:=ZtI ap e0 (some (.pl (fnD t cs))) (some (.ot (Zw wf (C++[p])))) (some (.pl (tupI p))) (wf p) V o5 (λy hy=>O.ps p hc y hy) (by omega);refine⟨o5',?_⟩;unfold ZbD;refine ZO (P:=λq=>q=_) (r':=[e0,some (.pl (fnD t cs)),some (.ot (Zw wf C)),some (.ol (V.map tupI)),some (.pl (tupI p)),o5]) ?_ ?_
 ·rw[ZAq]
  simp
 ·have ht:=ZkJ wf C p [e0,some (.pl (fnD t cs)),some (.ot (Zw wf C)),some (.ol (V.map tupI)),some (.pl (tupI p)),o5] 4 2 rfl rfl
  rw[decide_eq_false hp]at ht;unfold sIf;rw[ht];show Zu _ _ _=_;have hk:Za1 (tupI p)=some (Zab p):=ZaD p;have hww:=ha p hc;have hcl:(Zw wf C).length<1000000:=by unfold Zw; rw[ZzP]; omega
  refine ZO (P:=λq=>q=_) (r':=[e0,some (.pl (fnD t cs)),some (.ot (Zw wf (C++[p]))),some (.ol (V.map tupI)),some (.pl (tupI p)),o5]) ?_ ?_
  ·rw[<-ZuH hp]
   have hv:ZgN ap 1 (Zc (Za 4) Zi) [e0,some (.pl (fnD t cs)),some (.ot (Zw wf C)),some (.ol (V.map tupI)),some (.pl (tupI p)),o5]=some (.list ((wf p).map wyD)):=by unfold ZgN;show(match Zmi (fnD t cs)with | some (t,cs)=>_ | none=>none)=_;rw[Zq2];exact hww
   unfold ZhD;rw[hv];show(match Za1 (tupI p)with | some y=>_ | none=>none)=_;rw[hk];dsimp only;rw[if_pos (show _<big from hcl)];rfl
  ·have hlk:=ZjN wf (C++[p]) p
   rw[if_pos (ZAg _ (Zz0.mpr rfl))]at hlk;have hi:ZS (bOf (ZaX (Zo 2) (Za 4))) [e0,some (.pl (fnD t cs)),some (.ot (Zw wf (C++[p]))),some (.ol (V.map tupI)),some (.pl (tupI p)),o5]=some ((wf p).map wyD):=by simp[hk,hlk]
   unfold Zba;rw[hi];dsimp only;rw[if_pos (by rw[ZzP]; show _<1000000; omega)];exact go
theorem Zfa(B:List (List Int))(e0:Option HM.B):∀(fuel:Nat) (C W:List (List Int)) (o4 o5:Option HM.B),ZfR wf Ok B C W->(128-C.length)*81+W.length<fuel->(128-C.length)*81+W.length<60000 ->
  ∃C' o4' o5',ZaV (tV (op2 gGt (Zaf (Zo 3)) (eC (.int 0)))) (ZbD ap) fuel [e0,some (.pl (fnD t cs)),some (.ot (Zw wf C)),some (.ol (W.map tupI)),o4,o5]=some (.nx [e0,some (.pl (fnD t cs)),some (.ot (Zw wf C')),some (.ol []),o4',o5'])/\ZfR wf Ok B C' []
 | 0,C,W,o4,o5,I,h,_=>by omega
 | fuel+1,C,W,o4,o5,I,h,hW=>by
  have hlen:=O.cs C I.nd I.cr
  by_cases hw:W=[]
  ·subst hw
   refine⟨C,o4,o5,?_,I⟩;unfold ZaV;have ht:(tV (op2 gGt (Zaf (Zo 3)) (eC (.int 0)))) [e0,some (.pl (fnD t cs)),some (.ot (Zw wf C)),some (.ol (([]:List (List Int)).map tupI)),o4,o5]=some false:=by simp
   rw[ht];rfl
  ·obtain⟨V,p,rfl⟩:∃V p,W=V++[p]:=⟨W.dropLast,W.getLast hw,(List.dropLast_concat_getLast hw).symm⟩
   rw[ZAb,ZBN]at h hW;have ht:(tV (op2 gGt (Zaf (Zo 3)) (eC (.int 0)))) [e0,some (.pl (fnD t cs)),some (.ot (Zw wf C)),some (.ol ((V++[p]).map tupI)),o4,o5]=some true:=by simp
   by_cases hp:p∈C
   ·obtain⟨C',o4',o5',g,J⟩:=Zfa B e0 fuel C V (some (.pl (tupI p))) o5 (I.old hp) (by omega) (by omega)
    refine⟨C',o4',o5',?_,J⟩;unfold ZaV;rw[ht];dsimp only;rw[Zu0 e0 _ o4 o5 hp];exact g
   ·have hpc:=I.wr p (ZAg _ (Zz0.mpr rfl))
    have J0:=I.new O hp;have hl2:=O.cs _ J0.nd J0.cr;rw[ZAb,ZBN]at hl2;have hbl:=ZuF O hpc;obtain⟨q5,e⟩:=ZuI O ha (V:=V) e0 o4 o5 hp hpc (by omega) (by omega);obtain⟨C',o4',o5',g,J⟩:=Zfa B e0 fuel (C++[p]) (V++Zmq wf p) (some (.pl (tupI p))) q5 J0 (by rw[ZAb,ZAb,ZBN]; omega) (by rw[ZAb,ZAb,ZBN]; omega);refine⟨C',o4',o5',?_,J⟩;unfold ZaV;rw[ht];dsimp only;rw[e];exact g
theorem ZlB{B:List (List Int)}(hB:∀c∈B,Ok c)(hl:B.length<=100):∃L,ZaO ap [.list (B.map tupI),fnD t cs]=some (.dict (Zn (Zw wf L)))/\ZfR wf Ok B L []:=by
 have I0:ZfR wf Ok B [] B:=⟨.nil,λc h=>(by simp at h),hB,λc h=>(by simp at h),λc h=>.beg h,λc h=>(by simp at h),λp h=>.inr h⟩;obtain⟨L,o4,o5,g,J⟩:=Zfa O ha B (some (.pl (.list (B.map tupI)))) 100000 [] B none none I0 (by simp; omega) (by simp; omega);refine⟨L,?_,J⟩;show Z2 (Zdl ap [some (.pl (.list (B.map tupI))),some (.pl (fnD t cs)),none,none,none,none])=_;have e:Zdl ap [some (.pl (.list (B.map tupI))),some (.pl (fnD t cs)),none,none,none,none]=some (.rt (.dict (Zn (Zw wf L)))):=by unfold Zdl;refine ZO (P:=λq=>q=_) (r':=[some (.pl (.list (B.map tupI))),some (.pl (fnD t cs)),some (.ot (Zw wf [])),none,none,none]) rfl ?_;refine ZO (P:=λq=>q=_) (r':=[some (.pl (.list (B.map tupI))),some (.pl (fnD t cs)),some (.ot (Zw wf [])),some (.ol (B.map tupI)),none,none]) rfl ?_;refine ZO (P:=λq=>q=_) g ?_;simp
 rw[e];rfl
end
theorem ZcL(n:Nat)(p:List Int):noF (n+1) (tupI p)=true:=by show(p.map dI).all (noF n)=true;rw[List.all_map];exact ZzY.mpr λx _=>by cases n<;>rfl
theorem ZwJ(n:Nat)(i:Int):noF n (.int i)=true:=by cases n<;>rfl
theorem ZdI(h:∀d∈ds,noF n d=true):noF (n+1) (.tuple ds)=true:=ZzY.mpr h
theorem ZpX(h:∀d∈ds,noF n d=true):noF (n+1) (.list ds)=true:=ZzY.mpr h
theorem Zu1(n:Nat)(p:List Int × List Int):noF (n+2) (ZaL p)=true:=ZdI λd hd=>by
 rcases Zz7.mp hd with e | hd
 ·subst e; exact ZcL n _
 ·rw[Zz0.mp hd]; exact ZcL n _
theorem ZxE{y:Wy}(h:noF (n+3) y.1=true):noF (n+4) (wyD y)=true:=ZdI λd hd=>by
 rcases Zz7.mp hd with e | hd
 ·subst e; exact h
 ·rw[Zz0.mp hd]
  exact ZpX λd hd=>by obtain⟨p,_,rfl⟩:=Zz1.mp hd;exact Zu1 n p
theorem ZvH{L:List (List Int)}(h:∀c∈L,∀y∈wf c,noF (n+3) y.1=true):noF (n+6) (.dict (Zn (Zw wf L)))=true:=by show(Zn (Zw wf L)).all _=true;refine ZzY.mpr λp hp=>?_;unfold Zn Zw at hp;rw[ZAe]at hp;obtain⟨c,hc,rfl⟩:=Zz1.mp hp;show noF (n+5) (.list ((wf c).map wyD))=true;exact ZpX λd hd=>by obtain⟨y,hy,rfl⟩:=Zz1.mp hd;exact ZxE (h c hc y hy)
theorem ZvG(w:Wk):noF 20 w.d=true:=by
 refine ZdI λd hd=>?_;have h:∀x:List (List Int),∀d∈x.map tupI,noF 17 d=true:=λx d hd=>by obtain⟨p,_,rfl⟩:=Zz1.mp hd;exact ZcL 16 p
 have hd:=Zz7.mp hd;rcases hd with e | hd
 ·subst e; rfl
 rcases Zz7.mp hd with e | hd
 ·subst e
  exact ZdI λd hd=>by obtain⟨x,_,rfl⟩:=Zz1.mp hd;exact ZdI (h x)
 rcases Zz7.mp hd with e | hd
 ·subst e
  exact ZdI λd hd=>by obtain⟨x,_,rfl⟩:=Zz1.mp hd;exact ZcL 17 x
 rcases Zz7.mp hd with e | hd
 ·subst e; exact ZcL 18 _
 ·rw[Zz0.mp hd]; exact ZcL 18 _
end HG5
namespace HG5
open PySem HM HG HG4
variable{cb:Cb}{c:List Int}{M:Tb}
def oI:Option Int->D
 | some k=>.int k
 | none=>.none
abbrev Cb:=Wy->Tb->Option Int
def Zbv(cb:Cb)(ys:List Wy)(M:Tb):Option Int:=(ys.filterMap λy=>cb y M).min?
def ZaJ(wf:Wf)(cb:Cb)(L:List (List Int))(M:Tb):Tb:=L.filterMap λc=>if Zv M c then none else(Zbv cb (wf c) M).map λk=>(c,k)
def ZbE(T:Tb):Option Int:=(T.map (·.2)).min?
def Ze9(T:Tb):List (List Int):=(T.filter λp=>some p.2==ZbE T).map (·.1)
def Zal(found:List (List Int))(k:Int)(M:Tb):Tb:=found.foldl (λM c=>putD M c k) M
inductive Zij(wf:Wf)(cb:Cb)(L:List (List Int)):Tb->Option Int->List (List Int)->Tb->Prop where
 | done {M:Tb} {k:Option Int}:Zij wf cb L M k [] M
 | step {M R:Tb} {k:Int} {found:List (List Int)} (hf:found≠[]) (h:Zij wf cb L (Zal found k M) (ZbE (ZaJ wf cb L (Zal found k M))) (Ze9 (ZaJ wf cb L (Zal found k M))) R):Zij wf cb L M (some k) found R
theorem Zpx:∀os:List (Option Int),ZaP ((os.filter ZCL).map oI)=some (os.filterMap id)
 | []=>rfl
 | none::os=>Zpx os
 | some k::os=>by show(ZaP ((os.filter ZCL).map oI)).map (k::·)=_;rw[Zpx os];rfl
theorem ZnG{ap:AP}{t:Nat}{cs:List D}{ys:List Wy}(hy:ys.length<1000)(ha:∀y∈ys,ap t cs [wyD y,.dict (Zn (encM M))]=some (oI (cb y M))) :
  ZbX ap [.list (ys.map wyD),.dict (Zn (encM M)),fnD t cs]=some (oI (Zbv cb ys M)):=by
 show Z2 (ZfG ap [some (.pl (.list (ys.map wyD))),some (.pl (.dict (Zn (encM M)))),some (.pl (fnD t cs)),none])=_;have hb:ys.length<big:=by show _<1000000; omega
 have e1:Zap ZN (ZgN ap 3 (Zc (Za 0) (Zc (Za 2) Zi))) [some (.pl (.list (ys.map wyD))),some (.pl (.dict (Zn (encM M)))),some (.pl (fnD t cs)),none] (ys.map wyD)=some ((ys.map λy=>cb y M).map oI):=by
  rw[Za0 wyD (λy=>oI (cb y M)),ZAe]
  ·rfl
  ·intro y h
   show(match Zmi (fnD t cs)with | some (t,cs)=>_ | none=>none)=_;rw[Zq2];exact ha y h
 have e2:Zap (tV (op2 Zhh (Za 0) (eC .none))) (Za 0) [some (.pl (.list (ys.map wyD))),some (.pl (.dict (Zn (encM M)))),some (.pl (fnD t cs)),some (.pl (.list ((ys.map λy=>cb y M).map oI)))] ((ys.map λy=>cb y M).map oI)=some (((ys.map λy=>cb y M).filter ZCL).map oI):=by
  rw[ZbZ oI ZCL oI]
  ·intro o _
   cases o<;>rfl
  ·intro o _ _
   rfl
 unfold ZfG;refine ZO (P:=λq=>Z2 q=_) (r':=[some (.pl (.list (ys.map wyD))),some (.pl (.dict (Zn (encM M)))),some (.pl (fnD t cs)),some (.ol ((ys.map λy=>cb y M).map oI))]) ?_ ?_
 ·unfold ZW ZK
  show ZBC _ (if(ys.map wyD).length<big then _ else _)=_;rw[if_pos (by rw[ZzP]; exact hb),e1];rfl
 ·show Z2 (ZBC Out.rt (Zf5 _ [some (.pl (.list (ys.map wyD))),some (.pl (.dict (Zn (encM M)))),some (.pl (fnD t cs)),some (.pl (.list ((ys.map λy=>cb y M).map oI)))]))=_
  have e3:ZK (ZS (bOf (Za 3))) (tV (op2 Zhh (Za 0) (eC .none))) (Za 0) [some (.pl (.list (ys.map wyD))),some (.pl (.dict (Zn (encM M)))),some (.pl (fnD t cs)),some (.pl (.list ((ys.map λy=>cb y M).map oI)))]=some (.ol (((ys.map λy=>cb y M).filter ZCL).map oI)):=by unfold ZK;show(if((ys.map λy=>cb y M).map oI).length<big then _ else none)=_;rw[if_pos (by rw[ZzP,ZzP]; exact hb),e2];rfl
  unfold Zf5;rw[e3];show Z2 (ZBC Out.rt (match ZaP (((ys.map λy=>cb y M).filter ZCL).map oI)with | some ns=>some (match ns.min? with | some i=>ZAx i | none=>.none) | none=>none))=_;rw[Zpx];show some (match((ys.map λy=>cb y M).filterMap id).min? with | some i=>ZAx i | none=>.none)=_;unfold Zbv;rw[List.filterMap_map];show some (match(ys.filterMap λy=>cb y M).min? with | some i=>ZAx i | none=>.none)=_;cases(ys.filterMap λy=>cb y M).min?<;>rfl
theorem ZuA{k:Int}(h:Zv M c=false):putD M c k=M++[(c,k)]:=by unfold putD;rw[if_neg];intro z;obtain⟨p,hp,e⟩:=ZAH.mp z;have e:=of_decide_eq_true e;unfold Zv Zg at h;rw[ZBs]at h;have:(M.find? λp=>decide (p.1=c)).isSome=true:=ZD0.mpr ⟨p,hp,decide_eq_true e⟩;rw[h]at this;cases this
theorem Zsm(M N:Tb)(c:List Int):Zv (M++N) c=(Zv M c||Zv N c):=by unfold Zv Zg;rw[ZDX,ZBs,ZBs,ZBs,Option.isSome_or]
theorem Zwm:Zv M c=true↔∃k,(c,k)∈M:=by
 unfold Zv Zg;rw[ZBs,ZD0]
 constructor
 ·rintro ⟨⟨c',k⟩,h,e⟩
  have e:=of_decide_eq_true e;exact⟨k,by rw[<-e]; exact h⟩
 ·rintro ⟨k,h⟩
  exact⟨_,h,decide_eq_true rfl⟩
theorem Zj9{wf:Wf}{L:List (List Int)}{k:Int}:(c,k)∈ZaJ wf cb L M↔c∈L/\Zv M c=false/\Zbv cb (wf c) M=some k:=by
 unfold ZaJ;rw[ZAD]
 constructor
 ·rintro ⟨c',h1,h2⟩
  split at h2
  ·cases h2
  ·rename_i hn
   obtain⟨k',h3,h4⟩:=ZzR.mp h2;cases h4;exact⟨h1,by simpa using hn,h3⟩
 ·rintro ⟨h1,h2,h3⟩
  exact⟨c,h1,by rw[h2,h3]; rfl⟩
section
variable{ap:AP}{wf:Wf}{L:List (List Int)}{t:Nat}{cs:List D}{cb:Cb}(hnd:L.Nodup)(hlen:L.length<=128)(hys:∀c∈L,(wf c).length<1000)(ha:∀c∈L,∀y∈wf c,∀M,ap t cs [wyD y,.dict (Zn (encM M))]=some (oI (cb y M)))
include hys ha
theorem Zq3{M:Tb}:∀(K:List (List Int)) (acc:Tb) (o4 o5:Option B),(∀c∈K,c∈L)->K.Nodup->(∀c∈K,Zv acc c=false)->ZbB o4=false->ZbB o5=false->acc.length+K.length<100000 ->
  ∃p4 p5,ZbB p4=false/\ZbB p5=false/\ZaQ 4 (Z8 ap) (K.map tupI) [some (.hd (Zn (Zw wf L))),some (.pl (.dict (Zn (encM M)))),some (.pl (fnD t cs)),some (.ot (encM acc)),o4,o5] =
   some (.nx [some (.hd (Zn (Zw wf L))),some (.pl (.dict (Zn (encM M)))),some (.pl (fnD t cs)),some (.ot (encM (acc++ZaJ wf cb K M))),p4,p5])
 | [],acc,o4,o5,_,_,_,h4,h5,_=>⟨o4,o5,h4,h5,by show some (Out.nx _)=_; rw[show ZaJ wf cb [] M=[] from rfl,ZAE]⟩
 | c::K,acc,o4,o5,hK,hn,hacc,h4,h5,hl=>by
  rw[Zz8]at hl;have hc:=hK c (ZzT ..);have hk:Za1 (tupI c)=some (Zab c):=ZaD c;have hlk:=Zb7 M c;have hlr:=ZjN wf L c;rw[if_pos hc]at hlr;have hlc:=ZnG (ap:=ap) (t:=t) (cs:=cs) (cb:=cb) (ys:=wf c) (M:=M) (hys c hc) λy hy=>ha c hc y hy M;have hcons:ZaJ wf cb (c::K) M=(if Zv M c then[]else match Zbv cb (wf c) M with | some k=>[(c,k)] | none=>[])++ZaJ wf cb K M:=by
   unfold ZaJ;rw[ZA6];cases Zv M c with
   | true=>rfl
   | false=>cases Zbv cb (wf c) M<;>rfl
  have step:∀(acc':Tb) (p5:Option B),ZbB p5=false->(∀x∈K,Zv acc' x=false)->acc'.length+K.length<100000->Z8 ap [some (.hd (Zn (Zw wf L))),some (.pl (.dict (Zn (encM M)))),some (.pl (fnD t cs)),some (.ot (encM acc)),some (.pl (tupI c)),o5] =
     some (.nx [some (.hd (Zn (Zw wf L))),some (.pl (.dict (Zn (encM M)))),some (.pl (fnD t cs)),some (.ot (encM acc')),some (.pl (tupI c)),p5])->acc'++ZaJ wf cb K M=acc++ZaJ wf cb (c::K) M ->
    ∃p4 p5,ZbB p4=false/\ZbB p5=false/\ZaQ 4 (Z8 ap) ((c::K).map tupI) [some (.hd (Zn (Zw wf L))),some (.pl (.dict (Zn (encM M)))),some (.pl (fnD t cs)),some (.ot (encM acc)),o4,o5] =
     some (.nx [some (.hd (Zn (Zw wf L))),some (.pl (.dict (Zn (encM M)))),some (.pl (fnD t cs)),some (.ot (encM (acc++ZaJ wf cb (c::K) M))),p4,p5]):=λacc' p5 hp5 hx hl' e eq=>by
   obtain⟨q4,q5,g4,g5,ih⟩:=Zq3 (M:=M) K acc' (some (.pl (tupI c))) p5 (λx hx=>hK x (ZzU _ hx)) (ZAT.mp hn).2 hx rfl hp5 hl';refine⟨q4,q5,g4,g5,?_⟩;rw[<-eq,<-ih,ZzZ];show(match Z8 ap [some (.hd (Zn (Zw wf L))),some (.pl (.dict (Zn (encM M)))),some (.pl (fnD t cs)),some (.ot (encM acc)),some (.pl (tupI c)),o5]with | some (.nx r')=>_ | some (.ct r')=>_ | some (.bk r')=>_ | some (.rt d)=>_ | none=>_)=_;rw[e]
  have hKa:∀x∈K,Zv acc x=false:=λx hx=>hacc x (ZzU _ hx);cases hq:Zg M c with
  | some k =>
   have hh:Zv M c=true:=by unfold Zv; rw[hq]; rfl
   rw[hq]at hlk;refine step acc o5 h5 hKa (by omega) ?_ (by rw[hcons,hh]; rfl);have ht:tV (ZbW (Za 4) (Zo 1)) [some (.hd (Zn (Zw wf L))),some (.pl (.dict (Zn (encM M)))),some (.pl (fnD t cs)),some (.ot (encM acc)),some (.pl (tupI c)),o5]=some false:=by simp[dec_enc,hk,hlk]
   unfold Z8 sIf;rw[ht];rfl
  | none =>
   have hh:Zv M c=false:=by unfold Zv; rw[hq]; rfl
   rw[hq]at hlk;have ht:tV (ZbW (Za 4) (Zo 1)) [some (.hd (Zn (Zw wf L))),some (.pl (.dict (Zn (encM M)))),some (.pl (fnD t cs)),some (.ot (encM acc)),some (.pl (tupI c)),o5]=some true:=by simp[dec_enc,hk,hlk]
   have hca:Zm (ZbX ap) (Zc (ZaX (Zo 0) (Za 4)) (Zc (Za 1) (Zc (Za 2) Zi))) [some (.hd (Zn (Zw wf L))),some (.pl (.dict (Zn (encM M)))),some (.pl (fnD t cs)),some (.ot (encM acc)),some (.pl (tupI c)),o5]=some (oI (Zbv cb (wf c) M)):=by
    have hg:ZaX (Zo 0) (Za 4) [some (.hd (Zn (Zw wf L))),some (.pl (.dict (Zn (encM M)))),some (.pl (fnD t cs)),some (.ot (encM acc)),some (.pl (tupI c)),o5]=some (.list ((wf c).map wyD)):=by simp[dec_enc,hk,hlr]
    unfold Zm Zc;rw[hg];exact hlc
   have hs5:Z4 5 (Zm (ZbX ap) (Zc (ZaX (Zo 0) (Za 4)) (Zc (Za 1) (Zc (Za 2) Zi)))) [some (.hd (Zn (Zw wf L))),some (.pl (.dict (Zn (encM M)))),some (.pl (fnD t cs)),some (.ot (encM acc)),some (.pl (tupI c)),o5]=some (.nx [some (.hd (Zn (Zw wf L))),some (.pl (.dict (Zn (encM M)))),some (.pl (fnD t cs)),some (.ot (encM acc)),some (.pl (tupI c)),some (.pl (oI (Zbv cb (wf c) M)))]):=by unfold Z4;rw[hca];rfl
   cases hle:Zbv cb (wf c) M with
   | none=>rw[hle]at hs5;refine step acc (some (.pl .none)) rfl hKa (by omega) ?_ (by rw[hcons,hh,hle]; rfl);unfold Z8 sIf;rw[ht];dsimp only;refine ZO (P:=λq=>q=_) hs5 ?_;rfl
   | some k =>
    rw[hle]at hs5;have hput:=ZuA (k:=k) (hacc c (ZzT ..));have hpe:=Ziv acc c k;have hal:(encM acc).length<1000000:=by unfold encM; rw[ZzP]; omega
    refine step (acc++[(c,k)]) (some (.pl (.int k))) rfl (λx hx=>?_) (by rw[ZAb,ZBN]; omega) ?_ (by rw[hcons,hh,hle,ZA8]; rfl)
    ·rw[Zsm,hKa x hx,ZEH]
     cases hb:Zv [(c,k)] x with
     | false=>rfl
     | true=>obtain⟨k',hm⟩:=Zwm.mp hb;cases Zz0.mp hm;exact absurd hx (ZAT.mp hn).1
    ·unfold Z8 sIf
     rw[ht];dsimp only;refine ZO (P:=λq=>q=_) hs5 ?_;have h2:tV (op2 Zhh (Za 5) (eC .none)) [some (.hd (Zn (Zw wf L))),some (.pl (.dict (Zn (encM M)))),some (.pl (fnD t cs)),some (.ot (encM acc)),some (.pl (tupI c)),some (.pl (oI (some k)))]=some true:=rfl;rw[h2,<-hput,<-hpe];show(match Za1 (tupI c)with | some y=>_ | none=>none)=_;rw[hk];show(if(encM acc).length<big then _ else none)=_;rw[if_pos (show _<big from hal)];rfl
include hnd hlen
theorem ZnJ(M:Tb):ZbA ap [.dict (Zn (Zw wf L)),.dict (Zn (encM M)),fnD t cs]=some (encM (ZaJ wf cb L M)):=by
 obtain⟨p4,p5,g4,g5,go⟩:=Zq3 hys ha (M:=M) L [] none none (λ_ h=>h) hnd (λ_ _=>rfl) rfl rfl (by simp; omega);have hw:Zbm 0 [some (.hd (Zn (Zw wf L))),some (.pl (.dict (Zn (encM M)))),some (.pl (fnD t cs)),some (.ot (encM [])),none,none]=some (L.map tupI):=by show(ZfX (Zn (Zw wf L))).map _=_;rw[dec_enc,<-ZmX wf L];rfl
 have hf:Zba 4 (Zbm 0) (Z8 ap) [some (.hd (Zn (Zw wf L))),some (.pl (.dict (Zn (encM M)))),some (.pl (fnD t cs)),some (.ot (encM [])),none,none]=some (.nx [some (.hd (Zn (Zw wf L))),some (.pl (.dict (Zn (encM M)))),some (.pl (fnD t cs)),some (.ot (encM (ZaJ wf cb L M))),p4,p5]):=by unfold Zba;rw[hw];dsimp only;rw[if_pos (by rw[ZzP]; show _<1000000; omega),go];rfl
 have hh:Zfu 0 (Zba 4 (Zbm 0) (Z8 ap)) [some (.pl (.dict (Zn (Zw wf L)))),some (.pl (.dict (Zn (encM M)))),some (.pl (fnD t cs)),some (.ot (encM [])),none,none]=some (.nx [some (.pl (.dict (Zn (Zw wf L)))),some (.pl (.dict (Zn (encM M)))),some (.pl (fnD t cs)),some (.ot (encM (ZaJ wf cb L M))),p4,p5]):=by
  show(match Zba 4 (Zbm 0) (Z8 ap) [some (.hd (Zn (Zw wf L))),some (.pl (.dict (Zn (encM M)))),some (.pl (fnD t cs)),some (.ot (encM [])),none,none]with | some (.nx r')=>_ | some (.rt d)=>_ | _=>none)=_;rw[hf];have a2:([none,some (B.pl (.dict (Zn (encM M)))),some (.pl (fnD t cs)),some (.ot (encM (ZaJ wf cb L M))),p4,p5]:HM.Env).all (λq=>!ZbB q)=true:=by simp only[ZAV,ZET,g4,g5];rfl
  show(if([none,some (B.pl (.dict (Zn (encM M)))),some (.pl (fnD t cs)),some (.ot (encM (ZaJ wf cb L M))),p4,p5]:HM.Env).all (λq=>!ZbB q)=true then _ else _)=_;rw[if_pos a2];rfl
 unfold ZbA newOf;rw[if_pos (show([PyData.dict (Zn (Zw wf L)),PyData.dict (Zn (encM M)),fnD t cs]:List D).length=3 from rfl)];show(match ZW 3 fDt [some (.pl (.dict (Zn (Zw wf L)))),some (.pl (.dict (Zn (encM M)))),some (.pl (fnD t cs)),none,none,none]with | some (.nx r')=>Zk3 (Zfu 0 (Zba 4 (Zbm 0) (Z8 ap))) (ZpA 3) r' | _=>none)=_;show Zk3 (Zfu 0 (Zba 4 (Zbm 0) (Z8 ap))) (ZpA 3) [some (.pl (.dict (Zn (Zw wf L)))),some (.pl (.dict (Zn (encM M)))),some (.pl (fnD t cs)),some (.ot (encM [])),none,none]=_;unfold Zk3;rw[hh];rfl
end
end HG5
namespace HG5
open PySem HM HG HG4
variable{cb:Cb}{M T:Tb}{wf:Wf}
theorem Zrn(ap:AP)(e0 e1 e2 e5 e7:Option B)(v:Int):∀(ms:List (List Int)) (M:Tb) (o:Option B),M.length+ms.length<100000->ZbB o=false ->
  ∃p,ZbB p=false/\ZaQ 6 (Zdw ap) (ms.map tupI) [e0,e1,e2,some (.ot (encM M)),some (.pl (dI v)),e5,o,e7]=some (.nx [e0,e1,e2,some (.ot (encM (Zal ms v M))),some (.pl (dI v)),e5,p,e7])
 | [],M,o,_,h=>⟨o,h,rfl⟩
 | c::ms,M,o,hlen,_=>by
  rw[Zz8]at hlen;have hml:(encM M).length<1000000:=by unfold encM; rw[ZzP]; omega
  have hk:Za1 (tupI c)=some (Zab c):=ZaD c;have hput:=Ziv M c v;have hpl:=Zkj c v M;have e:Zdw ap [e0,e1,e2,some (.ot (encM M)),some (.pl (dI v)),e5,some (.pl (tupI c)),e7]=some (.nx [e0,e1,e2,some (.ot (encM (putD M c v))),some (.pl (dI v)),e5,some (.pl (tupI c)),e7]):=by rw[<-hput];simp[Zdw,hk,hml]
  obtain⟨p,hp,ih⟩:=Zrn ap e0 e1 e2 e5 e7 v ms (putD M c v) (some (.pl (tupI c))) (by omega) rfl;refine⟨p,hp,?_⟩;show _=some (Out.nx [e0,e1,e2,some (.ot (encM (Zal ms v (putD M c v)))),some (.pl (dI v)),e5,p,e7]);rw[ZzZ,<-ih];show(match Zdw ap [e0,e1,e2,some (.ot (encM M)),some (.pl (dI v)),e5,some (.pl (tupI c)),e7]with | some (.nx r')=>_ | some (.ct r')=>_ | some (.bk r')=>_ | some (.rt d)=>_ | none=>_)=_;rw[e]
theorem ZmR(T:Tb):((encM T).map λp=>ZAJ (p.1.map ZaU))=(T.map (·.1)).map tupI:=by unfold encM;rw[ZAe,ZAe];refine ZBv λp _=>?_;show ZAJ ((p.1.map ZBL).map ZaU)=ZAJ (p.1.map dI);rw[ZAe];rfl
def NdT(T:Tb):Prop:=(T.map (·.1)).Nodup
theorem Zrp(h:NdT T){p:List Int × Int}(hp:p∈T):Zg T p.1=some p.2:=by
 induction T with
 | nil=>simp at hp
 | cons q T ih =>
  obtain⟨c,k⟩:=q;rw[Zb4];unfold NdT at h;rw[ZzZ,ZAT]at h;rcases Zz7.mp hp with e | e
  ·subst e; rw[if_pos rfl]
  ·rw[if_neg λz=>h.1 (by rw[z]; exact Zz1.mpr ⟨p,e,rfl⟩)]
   exact ih h.2 e
theorem ZxP:∀{L:List (List Int)},L.Nodup->NdT (ZaJ wf cb L M):=by
 intro L h;unfold NdT;have:((ZaJ wf cb L M).map (·.1)).Sublist L:=by
  unfold ZaJ;rw[List.map_filterMap]
  clear h
  induction L with
  | nil=>exact .slnil
  | cons c L ih =>
   rw[ZA6];cases Zv M c with
   | true=>exact ih.cons c
   | false=>cases Zbv cb (wf c) M with
    | none=>exact ih.cons c
    | some k=>exact ih.cons₂ c
 exact h.sublist this
theorem Zrw{L:List (List Int)}:(ZaJ wf cb L M).length<=L.length:=ZEe ..
section
variable{T:Tb}(hT:NdT T)(hl:T.length<100000)
include hT hl
theorem ZsJ(r:HM.Env)(h7:r[7]?=some (some (.hd (Zn (encM T))))):ZK (Zbm 7) ZN (ZaX (Zo 8) (Za 0)) r=some (.ol ((T.map (·.2)).map dI)):=by
 have hw:Zbm 7 r=some ((T.map (·.1)).map tupI):=by unfold Zbm;rw[h7];show(ZfX (Zn (encM T))).map _=_;rw[dec_enc,<-ZmR T];rfl
 have hg:Zap ZN (ZaX (Zo 8) (Za 0)) r ((T.map (·.1)).map tupI)=some ((T.map (·.2)).map dI):=by rw[ZAe,ZAe];have:=Za0 (e:=ZaX (Zo 8) (Za 0)) (r:=r) (λp:List Int × Int=>tupI p.1) (λp=>dI p.2) T (λp hp=>by have hk:Za1 (tupI p.1)=some (Zab p.1):=ZaD p.1;have hlk:=Zb7 T p.1;rw[Zrp hT hp]at hlk;simp[h7,dec_enc,hk,hlk]);exact this
 unfold ZK;rw[hw];dsimp only;rw[if_pos (by rw[ZzP,ZzP]; show _<1000000; omega),hg];rfl
theorem Zs8{k:Option Int}(r:HM.Env)(h7:r[7]?=some (some (.hd (Zn (encM T)))))(h4:r[4]?=some (some (.pl (oI k)))):ZK (Zbm 7) (tV (op2 gEq (ZaX (Zo 8) (Za 0)) (Za 5))) (Za 0) r=some (.ol (((T.filter λp=>some p.2==k).map (·.1)).map tupI)):=by
 have hw:Zbm 7 r=some ((T.map (·.1)).map tupI):=by unfold Zbm;rw[h7];show(ZfX (Zn (encM T))).map _=_;rw[dec_enc,<-ZmR T];rfl
 have hg:Zap (tV (op2 gEq (ZaX (Zo 8) (Za 0)) (Za 5))) (Za 0) r ((T.map (·.1)).map tupI)=some (((T.filter λp=>some p.2==k).map (·.1)).map tupI):=by
  rw[ZAe,ZAe];have:=ZbZ (c:=tV (op2 gEq (ZaX (Zo 8) (Za 0)) (Za 5))) (e:=Za 0) (r:=r) (λp:List Int × Int=>tupI p.1) (λp=>some p.2==k) (λp=>tupI p.1) T (λp hp=>by
   have hk:Za1 (tupI p.1)=some (Zab p.1):=ZaD p.1;have hlk:=Zb7 T p.1;rw[Zrp hT hp]at hlk;have h1:ZaX (Zo 8) (Za 0) (some (.pl (tupI p.1))::r)=some (.int p.2):=by simp[h7,dec_enc,hk,hlk]
   have h2:Za 5 (some (B.pl (tupI p.1))::r)=some (oI k):=by simp[h4]
   unfold tV op2;rw[h1,h2];cases k with
   | none=>show(match gEq (.int p.2) .none with | some (.bool b)=>some b | _=>none)=_;rw[ZgP (ZdE 1 _) (Zv0 1) (by decide) (by decide) (by simp)];rfl
   | some k =>
    show(match gEq (.int p.2) (.int k)with | some (.bool b)=>some b | _=>none)=_
    by_cases e:p.2=k
    ·rw[e,Zeg (ZdE 1 _) (by decide)]
     simp
    ·rw[ZgP (ZdE 1 _) (ZdE 1 _) (by decide) (by decide) (by simpa using e)]
     simp[e]) (λp _ _=>by simp)
  exact this
 unfold ZK;rw[hw];dsimp only;rw[if_pos (by rw[ZzP,ZzP]; show _<1000000; omega),hg];rfl
end
section
variable{w:Wk}(hv:Wk.V w){ap:AP}{wf:Wf}{L:List (List Int)}{t:Nat}{cs:List D}{cb:Cb}(hnd:L.Nodup)(hlen:L.length<=128)(hcr:∀c∈L,Cr w.many c)(hys:∀c∈L,(wf c).length<1000)(ha:∀c∈L,∀y∈wf c,∀M,ap t cs [wyD y,.dict (Zn (encM M))]=some (oI (cb y M)))
include hnd hlen hys ha
theorem Zsb{k:Int}{found:List (List Int)}{o6 o7:Option B}(h6:ZbB o6=false)(h7:ZbB o7=false)(hf:found.length<=128)(hM:M.length<50000) :
  ∃p6 p7,ZbB p6=false/\ZbB p7=false/\Zdx ap [some (.pl w.d),some (.pl (.dict (Zn (Zw wf L)))),some (.pl (fnD t cs)),some (.ot (encM M)),some (.pl (dI k)),some (.ol (found.map tupI)),o6,o7] =
   some (.nx [some (.pl w.d),some (.pl (.dict (Zn (Zw wf L)))),some (.pl (fnD t cs)),some (.ot (encM (Zal found k M))),some (.pl (oI (ZbE (ZaJ wf cb L (Zal found k M))))),some (.ol ((Ze9 (ZaJ wf cb L (Zal found k M))).map tupI)),p6,p7]):=by
 obtain⟨p6,hp6,e1⟩:=Zrn ap (some (.pl w.d)) (some (.pl (.dict (Zn (Zw wf L))))) (some (.pl (fnD t cs))) (some (.pl (.list (found.map tupI)))) o7 k found M o6 (by omega) h6;generalize hM':Zal found k M=M' at *;have hnx:=ZnJ hnd hlen hys ha M';have hT:NdT (ZaJ wf cb L M'):=ZxP hnd;have hTl:(ZaJ wf cb L M').length<100000:=by have:=Zrw (wf:=wf) (cb:=cb) (L:=L) (M:=M'); omega
 generalize hO:ZaJ wf cb L M'=T at *;refine⟨p6,some (.pl (.dict (Zn (encM T)))),hp6,rfl,?_⟩;unfold Zdx;refine ZO (P:=λq=>q=_) (r':=[some (.pl w.d),some (.pl (.dict (Zn (Zw wf L)))),some (.pl (fnD t cs)),some (.ot (encM M')),some (.pl (dI k)),some (.pl (.list (found.map tupI))),p6,o7]) ?_ ?_
 ·unfold ZeR ZlR Zba
  have hfb:found.length<1000000:=by omega
  simp[hfb];exact e1
 ·refine ZO (P:=λq=>q=_) (r':=[some (.pl w.d),some (.pl (.dict (Zn (Zw wf L)))),some (.pl (fnD t cs)),some (.ot (encM M')),some (.pl (dI k)),some (.pl (.list (found.map tupI))),p6,some (.ot (encM T))]) ?_ ?_
  ·have hcl:ZjG (ZbA ap) (Zc (Za 1) (Zc (Zr7 (Zo 3)) (Zc (Za 2) Zi))) [some (.pl w.d),some (.pl (.dict (Zn (Zw wf L)))),some (.pl (fnD t cs)),some (.ot (encM M')),some (.pl (dI k)),some (.pl (.list (found.map tupI))),p6,o7]=some (.ot (encM T)):=by
    unfold ZjG;show(match ZbA ap [.dict (Zn (Zw wf L)),.dict (Zn (encM M')),fnD t cs]with | some kvs=>if kvs.all (λp=>ZlI p.2)then some (B.ot kvs)else none | none=>none)=_;rw[hnx];have hfl:(encM T).all (λp=>ZlI p.2)=true:=by unfold encM;rw[List.all_map];exact ZzY.mpr λp _=>rfl
    dsimp only;rw[if_pos hfl]
   unfold ZW;rw[hcl];rfl
  ·have a1:∀x4 x5:D,([some (B.pl w.d),some (.pl (.dict (Zn (Zw wf L)))),some (.pl (fnD t cs)),some (.ot (encM M')),some (.pl x4),some (.pl x5),p6,some (.pl (.dict (Zn (encM T))))]:HM.Env).all (λq=>!ZbB q)=true:=λx4 x5=>by
    simp only[ZAV,ZET,hp6];rfl
   have a2:∀x4:D,∀x5:B,ZbB (some x5)=false->([some (B.pl w.d),some (.pl (.dict (Zn (Zw wf L)))),some (.pl (fnD t cs)),some (.ot (encM M')),some (.pl x4),some x5,p6,none]:HM.Env).all (λq=>!ZbB q)=true:=λx4 x5 hx=>by simp only[ZAV,ZET,hp6,hx];rfl
   have hv1:=ZsJ hT hTl [some (.pl w.d),some (.pl (.dict (Zn (Zw wf L)))),some (.pl (fnD t cs)),some (.ot (encM M')),some (.pl (dI k)),some (.pl (.list (found.map tupI))),p6,some (.hd (Zn (encM T)))] rfl;have hm1:Z4 4 (Zf5 (ZK (Zbm 7) ZN (ZaX (Zo 8) (Za 0)))) [some (.pl w.d),some (.pl (.dict (Zn (Zw wf L)))),some (.pl (fnD t cs)),some (.ot (encM M')),some (.pl (dI k)),some (.pl (.list (found.map tupI))),p6,some (.hd (Zn (encM T)))]=some (.nx [some (.pl w.d),some (.pl (.dict (Zn (Zw wf L)))),some (.pl (fnD t cs)),some (.ot (encM M')),some (.pl (oI (ZbE T))),some (.pl (.list (found.map tupI))),p6,some (.hd (Zn (encM T)))]):=by
    have:Zf5 (ZK (Zbm 7) ZN (ZaX (Zo 8) (Za 0))) [some (.pl w.d),some (.pl (.dict (Zn (Zw wf L)))),some (.pl (fnD t cs)),some (.ot (encM M')),some (.pl (dI k)),some (.pl (.list (found.map tupI))),p6,some (.hd (Zn (encM T)))]=some (oI (ZbE T)):=by unfold Zf5;rw[hv1];show(match ZaP ((T.map (·.2)).map dI)with | some ns=>some (match ns.min? with | some i=>ZAx i | none=>.none) | none=>none)=_;rw[Zce];show some (match(T.map (·.2)).min? with | some i=>ZAx i | none=>.none)=_;unfold ZbE;cases(T.map (·.2)).min?<;>rfl
    unfold Z4;rw[this];rfl
   refine ZO (P:=λq=>q=_) (r':=[some (.pl w.d),some (.pl (.dict (Zn (Zw wf L)))),some (.pl (fnD t cs)),some (.ot (encM M')),some (.pl (oI (ZbE T))),some (.pl (.list (found.map tupI))),p6,some (.pl (.dict (Zn (encM T))))]) ?_ ?_
   ·show(if([some (B.pl w.d),some (.pl (.dict (Zn (Zw wf L)))),some (.pl (fnD t cs)),some (.ot (encM M')),some (.pl (dI k)),some (.pl (.list (found.map tupI))),p6,some (.pl (.dict (Zn (encM T))))]:HM.Env).all (λq=>!ZbB q)=true then _ else _)=_
    rw[if_pos (a1 _ _)];show(match Z4 4 _ [some (.pl w.d),some (.pl (.dict (Zn (Zw wf L)))),some (.pl (fnD t cs)),some (.ot (encM M')),some (.pl (dI k)),some (.pl (.list (found.map tupI))),p6,some (.hd (Zn (encM T)))]with | some (.nx r')=>_ | some (.rt d)=>_ | _=>none)=_;rw[hm1];show(if([some (B.pl w.d),some (.pl (.dict (Zn (Zw wf L)))),some (.pl (fnD t cs)),some (.ot (encM M')),some (.pl (oI (ZbE T))),some (.pl (.list (found.map tupI))),p6,none]:HM.Env).all (λq=>!ZbB q)=true then _ else _)=_;rw[if_pos (a2 _ _ rfl)];rfl
   ·have hk1:=Zs8 hT hTl (k:=ZbE T) [some (.pl w.d),some (.pl (.dict (Zn (Zw wf L)))),some (.pl (fnD t cs)),some (.ot (encM M')),some (.pl (oI (ZbE T))),some (.pl (.list (found.map tupI))),p6,some (.hd (Zn (encM T)))] rfl rfl
    have hm2:ZW 5 (ZK (Zbm 7) (tV (op2 gEq (ZaX (Zo 8) (Za 0)) (Za 5))) (Za 0)) [some (.pl w.d),some (.pl (.dict (Zn (Zw wf L)))),some (.pl (fnD t cs)),some (.ot (encM M')),some (.pl (oI (ZbE T))),some (.pl (.list (found.map tupI))),p6,some (.hd (Zn (encM T)))]=some (.nx [some (.pl w.d),some (.pl (.dict (Zn (Zw wf L)))),some (.pl (fnD t cs)),some (.ot (encM M')),some (.pl (oI (ZbE T))),some (.ol ((Ze9 T).map tupI)),p6,some (.hd (Zn (encM T)))]):=by unfold ZW;rw[hk1];rfl
    show(if([some (B.pl w.d),some (.pl (.dict (Zn (Zw wf L)))),some (.pl (fnD t cs)),some (.ot (encM M')),some (.pl (oI (ZbE T))),some (.pl (.list (found.map tupI))),p6,some (.pl (.dict (Zn (encM T))))]:HM.Env).all (λq=>!ZbB q)=true then _ else _)=_;rw[if_pos (a1 _ _)];show(match ZW 5 _ [some (.pl w.d),some (.pl (.dict (Zn (Zw wf L)))),some (.pl (fnD t cs)),some (.ot (encM M')),some (.pl (oI (ZbE T))),some (.pl (.list (found.map tupI))),p6,some (.hd (Zn (encM T)))]with | some (.nx r')=>_ | some (.rt d)=>_ | _=>none)=_;rw[hm2];show(if([some (B.pl w.d),some (.pl (.dict (Zn (Zw wf L)))),some (.pl (fnD t cs)),some (.ot (encM M')),some (.pl (oI (ZbE T))),some (.ol ((Ze9 T).map tupI)),p6,none]:HM.Env).all (λq=>!ZbB q)=true then _ else _)=_;rw[if_pos (a2 _ _ rfl)];rfl
omit hnd hlen hys ha in
theorem ZuS{c:List Int}(h:c∈Ze9 (ZaJ wf cb L M)):c∈L/\Zv M c=false:=by obtain⟨⟨c',k⟩,h1,rfl⟩:=Zz1.mp h;have:=Zj9.mp (ZAh.mp h1).1;exact⟨this.1,this.2.1⟩
omit hnd hlen hys ha in
theorem Ztw(h:Ze9 T≠[]):∃k,ZbE T=some k:=by
 cases hq:ZbE T with
 | some k=>exact⟨k,rfl⟩
 | none=>refine absurd ?_ h;unfold ZbE at hq;rw[ZCF]at hq;have:=ZCP.mp hq;subst this;rfl
theorem ZjA:∀(fuel n:Nat) (M:Tb) (k:Option Int) (found:List (List Int)) (o6 o7:Option B),ZbB o6=false->ZbB o7=false->(∀c∈found,c∈L/\Zv M c=false)->found.length<=128->M.length<=128*n->n<=(L.filter λc=>Zv M c).length->130<=n+fuel->(found≠[]->∃i,k=some i) ->
  ∃R p4 p5 p6 p7,ZaV (tV (op2 gGt (Zaf (Zo 5)) (eC (.int 0)))) (Zdx ap) fuel [some (.pl w.d),some (.pl (.dict (Zn (Zw wf L)))),some (.pl (fnD t cs)),some (.ot (encM M)),some (.pl (oI k)),some (.ol (found.map tupI)),o6,o7]=some (.nx [some (.pl w.d),some (.pl (.dict (Zn (Zw wf L)))),some (.pl (fnD t cs)),some (.ot (encM R)),p4,p5,p6,p7])/\Zij wf cb L M k found R
 | 0,n,M,k,found,o6,o7,_,_,_,_,_,ht,hfu,_=>by have:=ZAu (λc=>Zv M c) L;omega
 | fuel+1,n,M,k,found,o6,o7,h6,h7,hfo,hfl,hM,ht,hfu,hks=>by
  have htl:=ZAu (λc=>Zv M c) L
  by_cases hf:found=[]
  ·subst hf
   refine⟨M,some (.pl (oI k)),some (.ol []),o6,o7,?_,.done⟩;unfold ZaV;have e:(tV (op2 gGt (Zaf (Zo 5)) (eC (.int 0)))) [some (.pl w.d),some (.pl (.dict (Zn (Zw wf L)))),some (.pl (fnD t cs)),some (.ot (encM M)),some (.pl (oI k)),some (.ol (([]:List (List Int)).map tupI)),o6,o7]=some false:=by simp
   rw[e];rfl
  ·obtain⟨i,rfl⟩:=hks hf
   have e:(tV (op2 gGt (Zaf (Zo 5)) (eC (.int 0)))) [some (.pl w.d),some (.pl (.dict (Zn (Zw wf L)))),some (.pl (fnD t cs)),some (.ot (encM M)),some (.pl (oI (some i))),some (.ol (found.map tupI)),o6,o7]=some true:=by have:0<found.length:=ZDB.mpr hf;simp;omega
   obtain⟨p6,p7,g6,g7,ht1⟩:=Zsb hnd hlen hys ha (w:=w) (M:=M) (k:=i) (found:=found) h6 h7 hfl (by omega);have hml:(Zal found i M).length<=M.length+found.length:=ZjP i found M;have hlk:∀k,Zg (Zal found i M) k=if k∈found then some i else Zg M k:=λk=>Zem i k found M
   have hcnt:(L.filter λc=>Zv M c).length<(L.filter λc=>Zv (Zal found i M) c).length:=by
    refine ZfS (λx _ hx=>?_) ?_
    ·unfold Zv at hx ⊢
     rw[hlk];split
     ·rfl
     ·exact hx
    ·obtain⟨c,cs,rfl⟩:=ZDT hf
     refine⟨c,(hfo c (ZzT ..)).1,?_,(hfo c (ZzT ..)).2⟩;unfold Zv;rw[hlk,if_pos (ZzT ..)];rfl
   have hol:(Ze9 (ZaJ wf cb L (Zal found i M))).length<=128:=by
    have h1:(Ze9 (ZaJ wf cb L (Zal found i M))).length<=(ZaJ wf cb L (Zal found i M)).length:=by unfold Ze9;rw[ZzP];exact ZAu ..
    have h2:=Zrw (wf:=wf) (cb:=cb) (L:=L) (M:=Zal found i M);omega
   obtain⟨R,q4,q5,q6,q7,g,J⟩:=ZjA fuel (n+1) (Zal found i M) (ZbE (ZaJ wf cb L (Zal found i M))) (Ze9 (ZaJ wf cb L (Zal found i M))) p6 p7 g6 g7 (λc hc=>ZuS hc) hol (by omega) (by omega) (by omega) Ztw;refine⟨R,q4,q5,q6,q7,?_,.step hf J⟩;unfold ZaV;rw[e];dsimp only;show(match Zdx ap [some (.pl w.d),some (.pl (.dict (Zn (Zw wf L)))),some (.pl (fnD t cs)),some (.ot (encM M)),some (.pl (dI i)),some (.ol (found.map tupI)),o6,o7]with | some (.nx r')=>_ | some (.ct r')=>_ | some (.bk r')=>_ | some (.rt d)=>_ | none=>_)=_;rw[ht1];exact g
include hv hcr
theorem ZkD:∃R,ZbI ap [w.d,.dict (Zn (Zw wf L)),fnD t cs]=some (.dict (Zn (encM R)))/\Zij wf cb L [] (some 0) (L.filter λc=>ZC w c) R:=by
 have hlb:L.length<1000000:=by omega
 have hfl:(L.filter λc=>ZC w c).length<=128:=ZAR (ZAu _ _) hlen;obtain⟨R,p4,p5,p6,p7,g,J⟩:=ZjA hnd hlen hys ha (w:=w) 100000 0 [] (some 0) (L.filter λc=>ZC w c) none none rfl rfl (λc hc=>⟨(ZAh.mp hc).1,rfl⟩) hfl (by simp) (ZBq _) (by omega) λ_=>⟨0,rfl⟩;refine⟨R,?_,J⟩;have hw:Zbm 1 [some (.pl w.d),some (.hd (Zn (Zw wf L))),some (.pl (fnD t cs)),some (.ot (encM [])),some (.pl (dI 0)),none,none,none]=some (L.map tupI):=by show(ZfX (Zn (Zw wf L))).map _=_;rw[dec_enc,<-ZmX wf L];rfl
 have hgo:∀r:HM.Env,r[0]?=some (some (.pl w.d))->Zap (tV (Zm ZbH (Zc (Za 1) (Zc (Za 0) Zi)))) (Za 0) r (L.map tupI)=some ((L.filter λc=>ZC w c).map tupI):=λr r0=>by
  rw[ZbZ tupI (λc=>ZC w c) tupI]
  ·intro c hc
   have:=ZqL (w:=w) (c:=c) (by have:=(hcr c hc).len; have:=hv.m2; omega);simp[r0,this]
  ·intro c _ _
   simp
 have hc:ZK (Zbm 1) (tV (Zm ZbH (Zc (Za 1) (Zc (Za 0) Zi)))) (Za 0) [some (.pl w.d),some (.hd (Zn (Zw wf L))),some (.pl (fnD t cs)),some (.ot (encM [])),some (.pl (dI 0)),none,none,none]=some (.ol ((L.filter λc=>ZC w c).map tupI)):=by unfold ZK;rw[hw];dsimp only;rw[if_pos (by rw[ZzP]; exact hlb),hgo _ rfl];rfl
 have hh:Zfu 1 (ZW 5 (ZK (Zbm 1) (tV (Zm ZbH (Zc (Za 1) (Zc (Za 0) Zi)))) (Za 0))) [some (.pl w.d),some (.pl (.dict (Zn (Zw wf L)))),some (.pl (fnD t cs)),some (.ot (encM [])),some (.pl (dI 0)),none,none,none]=some (.nx [some (.pl w.d),some (.pl (.dict (Zn (Zw wf L)))),some (.pl (fnD t cs)),some (.ot (encM [])),some (.pl (dI 0)),some (.ol ((L.filter λc=>ZC w c).map tupI)),none,none]):=by show(match ZW 5 _ [some (.pl w.d),some (.hd (Zn (Zw wf L))),some (.pl (fnD t cs)),some (.ot (encM [])),some (.pl (dI 0)),none,none,none]with | some (.nx r')=>_ | some (.rt d)=>_ | _=>none)=_;unfold ZW;rw[hc];rfl
 show Z2 (Zfl ap [some (.pl w.d),some (.pl (.dict (Zn (Zw wf L)))),some (.pl (fnD t cs)),none,none,none,none,none])=_;have e:Zfl ap [some (.pl w.d),some (.pl (.dict (Zn (Zw wf L)))),some (.pl (fnD t cs)),none,none,none,none,none]=some (.rt (.dict (Zn (encM R)))):=by unfold Zfl;refine ZO (P:=λq=>q=_) (r':=[some (.pl w.d),some (.pl (.dict (Zn (Zw wf L)))),some (.pl (fnD t cs)),some (.ot (encM [])),none,none,none,none]) rfl ?_;refine ZO (P:=λq=>q=_) (r':=[some (.pl w.d),some (.pl (.dict (Zn (Zw wf L)))),some (.pl (fnD t cs)),some (.ot (encM [])),some (.pl (dI 0)),none,none,none]) rfl ?_;refine ZO (P:=λq=>q=_) hh ?_;refine ZO (P:=λq=>q=_) g ?_;simp
 rw[e];rfl
end
end HG5
namespace HG5
open PySem HM HG
end HG5
namespace HG5
open PySem HM HG HG4
variable{ps:List (List Int)}{b c:List Int}{M R:Tb}
inductive Zpq(w:Wk)(ls b:List Int):List Int->Prop where
 | beg {p:List Int} (h:p∈Zx w ls b):Zpq w ls b p
 | step {c p:List Int} {d:Nat} (r:Zpq w ls b c) (hd:d<w.deeds.length) (hc:Zad w c d=true) (h:p∈Zx w ls (ZY w c d)):Zpq w ls b p
def Zmc(w:Wk)(ls c:List Int)(d:Int):Wy:=(dI d,Z5 w ls (ZY w c d))
def wfV(w:Wk)(ls:List Int):Wf:=λc=>(doV w c).map (Zmc w ls c)
abbrev ZrU(w:Wk)(ls:List Int)(L:List (List Int)):List (List Ky × D):=Zw (wfV w ls) L
theorem ZsV(w:Wk)(ls c:List Int):ZnP w ls c=.list ((wfV w ls c).map wyD):=by unfold ZnP wfV;rw[ZAe];rfl
theorem ZzF(w:Wk)(ls c:List Int)(d:Int):wyP (Zmc w ls c d)=Zx w ls (ZY w c d):=rfl
abbrev OkC(w:Wk)(c:List Int):Prop:=Cr w.many c/\c≠[]
structure ApD(ap:AP):Prop where
 d0:∀ds,ap 0 [] ds=Zda ds
 l1:∀cs ds,ap 1 cs ds=Zhe 1 2 (Zm Zak (Zc (Za 1) (Zc (Za 2) (Zc (Za 0) Zi)))) cs ds
section
variable{w:Wk}(hv:Wk.V w)(h7:w.many<=7){ls:List Int}(hl:Cr w.looks.length ls)
include hv h7
theorem Zyu:ZoH (wfV w ls) (OkC w):=by
 refine⟨λc hc y hy p hp=>?_,λc hc=>?_,λc hc y hy=>?_,λC hn hC=>?_⟩
 ·obtain⟨d,hd,rfl⟩:=Zz1.mp hy
  obtain⟨d0,d1,_⟩:=Zbs hd;have:=Zep (ZdR hv hc.1 d0 d1) (show p∈Zx w ls (ZY w c d) from hp);exact⟨this.1,this.2.1⟩
 ·unfold wfV
  rw[ZzP];have:=Ze5 w c;have:=hv.d2;omega
 ·obtain⟨d,hd,rfl⟩:=Zz1.mp hy
  obtain⟨d0,d1,_⟩:=Zbs hd;have:=split_len (w:=w) (ls:=ls) (c:=ZY w c d);have:=(ZdR hv hc.1 d0 d1).len;show(Z5 w ls (ZY w c d)).length<=8;omega
 ·have h1:=Zip hn λc hc=>(hC c hc).1
  have h2:2 ^ w.many<=2 ^ 7:=ZDz (by decide) h7;have h3:2 ^ 7=128:=rfl;omega
omit hv h7 in
theorem Zw1(r:Zmx (wfV w ls) (Zx w ls b) c):Zpq w ls b c:=by
 induction r with
 | beg h=>exact .beg h
 | @step c p y _ hy hp ih=>obtain⟨d,hd,rfl⟩:=Zz1.mp hy;obtain⟨d0,d1,d2⟩:=Zbs hd;have e:((d.toNat:Nat):Int)=d:=ZCp d0;exact .step (d:=d.toNat) ih (by omega) (by rw[e]; exact d2) (by rw[e]; exact hp)
include hl
theorem Zml{ap:AP}(A:ApD ap)(hb:Cr w.many b):∃L,ZcE ap [w.d,tupI ls,tupI b]=some (.dict (Zn (ZrU w ls L)))/\L.Nodup/\L.length<=128/\(∀c∈L,Cr w.many c/\c≠[])/\(∀c∈L,Zpq w ls b c)/\ZgW w ls L/\∀p∈Zx w ls b,p∈L:=by
 have hp:=Zhc hv hl hb;have hsl:=split_len (w:=w) (ls:=ls) (c:=b);have hbl:=hb.len;have hci:=ZgT (Z5 w ls b) (by omega);have hpl:(Zx w ls b).length<=100:=by unfold Zx; rw[ZzP]; omega
 have O:=Zyu hv h7 (ls:=ls);have ha:∀c,OkC w c->ap 1 [w.d,tupI ls] [tupI c]=some (.list ((wfV w ls c).map wyD)):=λc hc=>by rw[A.l1,<-ZsV];unfold Zhe;rw[if_pos ⟨rfl,rfl,by rw[ZAV,ZcL 19]; rfl⟩];exact ZjW hv hl hc.1
 obtain⟨L,e,J⟩:=ZlB O ha (B:=Zx w ls b) (λc h=>⟨(Zep hb h).1,(Zep hb h).2.1⟩) hpl;refine⟨L,?_,J.nd,O.cs L J.nd J.cr,J.cr,λc hc=>Zw1 (J.rc c hc),λc hc d hd can p hp=>?_,λp hp=>?_⟩
 ·show Z2 (ZeZ ap [some (.pl w.d),some (.pl (tupI ls)),some (.pl (tupI b))])=_
  have h1:Zm ZQ (Zc (Zm Zar (Zc (Za 0) (Zc (Za 1) (Zc (Za 2) Zi)))) Zi) [some (.pl w.d),some (.pl (tupI ls)),some (.pl (tupI b))]=some (.list ((Zx w ls b).map tupI)):=by unfold Zm Zc;show(match(match Zar [w.d,tupI ls,tupI b]with | some x=>(Zi _).map (x::·) | none=>none)with | some ds=>ZQ ds | none=>none)=_;rw[hp];exact hci
  have hn1:[w.d,tupI ls].all (noF 20)=true:=by rw[ZAV,ZAV,ZvG,ZcL 19];rfl
  have hn2:noF 20 (.dict (Zn (ZrU w ls L)))=true:=ZvH (n:=14) λc _ y hy=>by obtain⟨d,_,rfl⟩:=Zz1.mp hy;exact ZwJ _ _
  unfold ZeZ ZE Zfe;rw[h1];show Z2 (ZBC Out.rt (if[w.d,tupI ls].all (noF 20)=true then(match ZaO ap [.list ((Zx w ls b).map tupI),fnD 1 [w.d,tupI ls]]with | some d=>if noF 20 d=true then some d else none | none=>none)else none))=_;rw[if_pos hn1,e];dsimp only;rw[if_pos hn2];rfl
 ·rcases J.cl c hc (Zmc w ls c d) (Zz1.mpr ⟨(d:Int),Zms hd can,rfl⟩) p hp with h | h
  ·exact h
  ·simp at h
 ·rcases J.bg p hp with h | h
  ·exact h
  ·simp at h
end
def ZaR(ps:List (List Int))(M:Tb):Option Int:=if ps.all (Zv M)then(ps.filterMap λp=>Zg M p).max? else none
def cbD:Cb:=λy M=>(ZaR (wyP y) M).map (·+1)
theorem ZiV{α β:Type}{f:α->Option β}:∀{xs:List α},((xs.filterMap f).length=xs.length↔xs.all (λx=>(f x).isSome)=true)
 | []=>by simp
 | x::xs=>by
  have ih:=ZiV (f:=f) (xs:=xs);have hl:(xs.filterMap f).length<=xs.length:=ZEe f xs;rw[ZA6,ZAV];cases h:f x with
  | none=>simp; omega
  | some y=>simpa using ih
theorem Zei{g:Gs}(hg:g.length<1000)(h0:g≠[]):ZR [.list (g.map ZaL),.dict (Zn (encM M))]=some (oI (ZaR (g.map (·.2)) M)):=by
 have hci:=ZgT g (by omega);have hlen:((g.map (·.2)).map tupI).length<big:=by rw[ZzP,ZzP]; show _<1000000; omega
 have h1:ZS (bOf (Zm ZQ (Zc (Za 0) Zi))) [some (.pl (.list (g.map ZaL))),some (.pl (.dict (Zn (encM M)))),none]=some ((g.map (·.2)).map tupI):=by unfold ZS bOf;show(match ZBC B.pl (ZQ [.list (g.map ZaL)])with | some x=>ZcP x | none=>none)=_;rw[hci];rfl
 have h2:Zap (tV (Zo2 (Za 0) (Zo 2))) (ZaX (Zo 2) (Za 0)) [some (.pl (.list (g.map ZaL))),some (.pl (.dict (Zn (encM M)))),none] ((g.map (·.2)).map tupI)=some (((g.map (·.2)).filterMap λp=>Zg M p).map dI):=by
  rw[ZbZ tupI (Zv M) (λp=>dI ((Zg M p).getD 0))]
  ·congr 1
   generalize g.map (·.2)=ps
   induction ps with
   | nil=>rfl
   | cons p ps ih =>
    rw[ZA5,ZA6];unfold Zv at ih ⊢;cases hq:Zg M p with
    | none=>rw[if_neg (by simp)]; exact ih
    | some k=>rw[if_pos (by rfl),ZzZ,ZzZ,ih,hq]; rfl
  ·intro p _
   have hk:Za1 (tupI p)=some (Zab p):=ZaD p;simp[dec_enc,hk,Zb7,Zv]
  ·intro p _ hp
   have hk:Za1 (tupI p)=some (Zab p):=ZaD p;unfold Zv at hp;obtain⟨k,hk'⟩:=ZAt.mp hp;have hlk:=Zb7 M p;rw[hk']at hlk;simp[dec_enc,hk,hlk,hk']
 have hfl:=ZiV (f:=λp=>Zg M p) (xs:=g.map (·.2));rw[ZzP]at hfl;have hall:(g.map (·.2)).all (λx=>(Zg M x).isSome)=(g.map (·.2)).all (Zv M):=rfl;rw[hall]at hfl;generalize hN:(g.map (·.2)).filterMap (λp=>Zg M p)=ns at *;show Z2 (Zea [some (.pl (.list (g.map ZaL))),some (.pl (.dict (Zn (encM M)))),none])=_;unfold Zea;refine ZO (P:=λq=>Z2 q=_) (r':=[some (.pl (.list (g.map ZaL))),some (.pl (.dict (Zn (encM M)))),some (.ol (ns.map dI))]) ?_ ?_
 ·unfold ZW ZK
  rw[h1];dsimp only;rw[if_pos hlen,h2];rfl
 ·have h3:op2 gEq (Zaf (Zo 2)) (Zaf (Zo 0)) [some (.pl (.list (g.map ZaL))),some (.pl (.dict (Zn (encM M)))),some (.ol (ns.map dI))]=some (.bool (decide (ns.length=g.length))):=by
   show gEq (.int ((ns.map dI).length:Int)) (.int ((g.map ZaL).length:Int))=_;rw[ZzP,ZzP]
   by_cases e:ns.length=g.length
   ·rw[e,Zeg (ZdE 1 _) (by decide)]
    simp
   ·rw[ZgP (ZdE 1 _) (ZdE 1 _) (by decide) (by decide) (λz=>e (by injection z with z; omega))]
    simp[e]
  have h4:Zfx (Zo 2) [some (.pl (.list (g.map ZaL))),some (.pl (.dict (Zn (encM M)))),some (.ol (ns.map dI))]=ns.max?.map λi=>ZAx i:=by show(match ZaP (ns.map dI)with | some ns=>ns.max?.map λi=>ZAx i | none=>none)=_;rw[Zce]
  unfold ZE eIf tV;rw[h3];unfold ZaR;rw[hN]
  by_cases e:ns.length=g.length
  ·rw[if_pos (hfl.mp e),decide_eq_true e]
   show Z2 (ZBC Out.rt (Zfx (Zo 2) _))=_;rw[h4];have hne:ns≠[]:=λz=>by rw[z]at e;exact h0 (ZBV e.symm)
   cases hq:ns.max? with
   | none=>rw[ZCG]at hq; exact absurd hq hne
   | some m=>rfl
  ·rw[if_neg λz=>e (hfl.mpr z),decide_eq_false e]
   rfl
theorem ZqI{y:Wy}(hy:y.2.length<1000)(h0:y.2≠[])(M:Tb):Zda [wyD y,.dict (Zn (encM M))]=some (oI (cbD y M)):=by
 have h:=Zei hy h0 (M:=M);have h':ZR [.list (y.2.map ZaL),.dict (Zn (encM M))]=some (oI (ZaR (wyP y) M)):=h;show Z2 (Zhk [some (.pl (wyD y)),some (.pl (.dict (Zn (encM M)))),none])=_;unfold Zhk cbD;refine ZO (P:=λq=>Z2 q=_) (r':=[some (.pl (wyD y)),some (.pl (.dict (Zn (encM M)))),some (.pl (oI (ZaR (wyP y) M)))]) ?_ ?_
 ·unfold Z4 Zm
  show ZBC _ (ZR [.list (y.2.map ZaL),.dict (Zn (encM M))])=_;rw[h'];rfl
 ·cases ZaR (wyP y) M<;>rfl
def ZjR(w:Wk)(ls:List Int)(L:List (List Int))(M:Tb):Prop:=∃t,Zik w ls L t M/\Zf3 w ls L M=[]
theorem ZlK{m:Int}(h:ZaR ps M=some m):(∀p∈ps,∃k,Zg M p=some k/\k<=m)/\∃p∈ps,Zg M p=some m:=by
 unfold ZaR at h;split at h
 ·rename_i ha
  obtain⟨m1,m2⟩:=ZDo.mp h;refine⟨λp hp=>?_,?_⟩
  ·have hh:=ZzY.mp ha p hp
   unfold Zv at hh;obtain⟨k,hk⟩:=ZAt.mp hh;exact⟨k,hk,m2 _ (ZAD.mpr ⟨p,hp,hk⟩)⟩
  ·obtain⟨p,hp,e⟩:=ZAD.mp m1
   exact⟨p,hp,e⟩
 ·cases h
theorem ZlJ(h0:ps≠[])(h:ZaR ps M=none):ps.all (Zv M)=false:=by
 cases hq:ps.all (Zv M)with
 | false=>rfl
 | true=>unfold ZaR at h;rw[hq,if_pos rfl,ZCG]at h;obtain⟨p,r,rfl⟩:=ZDT h0;have hh:=ZzY.mp hq p (ZzT ..);unfold Zv at hh;obtain⟨k,hk⟩:=ZAt.mp hh;rw[ZA6,hk]at h;cases h
section
variable{w:Wk}{ls:List Int}{L:List (List Int)}(hL:ZgW w ls L)(hne:∀c∈L,c≠[])
include hL hne
theorem ZrT{t:Nat}(T:Zik w ls L t M)(hc:c∈L)(hn:Zv M c=false):Zbv cbD (wfV w ls c) M=if ZfQ w ls c M then some ((t+1:Nat):Int)else none:=by
 have known:∀{p:List Int} {k:Int},Zg M p=some k->∃n:Nat,k=(n:Int)/\n<=t/\Win w ls n p=true:=λ{p k} h=>by
  rw[T.look]at h;split at h
  ·obtain⟨n,h1,h2,h3,_⟩:=ZlU h
   exact⟨n,h1,h2,h3⟩
  ·cases h
 have val:∀y∈wfV w ls c,∀k,cbD y M=some k->k=((t+1:Nat):Int)/\ZfQ w ls c M=true:=λy hy k hk=>by
  obtain⟨d,hd,rfl⟩:=Zz1.mp hy;obtain⟨d0,d1,d2⟩:=Zbs hd;have e:((d.toNat:Nat):Int)=d:=ZCp d0;obtain⟨m,h1,h2⟩:=ZzR.mp hk;have h1:ZaR (Zx w ls (ZY w c d)) M=some m:=h1;obtain⟨w1,p,hp,w2⟩:=ZlK h1;obtain⟨n,rfl,hnt,_⟩:=known w2;refine⟨?_,ZAH.mpr ⟨d.toNat,ZAi.mpr (by omega),?_⟩⟩
  ·subst h2
   by_cases hlt:n<t
   ·-- then the crowd would be known already
    have hw:Win w ls (n+1) c=true:=by show(ZC w c||_)=true;rw[ZBd];refine .inr (ZAH.mpr ⟨d.toNat,ZAi.mpr (by omega),?_⟩);rw[e,d2,ZEK];refine ZzY.mpr λq hq=>?_;obtain⟨k,k1,k2⟩:=w1 q hq;obtain⟨n',rfl,_,hw'⟩:=known k1;exact ZfB (by omega) hw'
    have:Zv M c=true:=by unfold Zv;rw[T.look,if_pos hc,ZcX];exact ZfB (by omega) hw
    rw[hn]at this;cases this
   ·show(n:Int)+1=_
    omega
  ·rw[e,d2,ZEK]
   refine ZzY.mpr λq hq=>?_;obtain⟨k,k1,_⟩:=w1 q hq;unfold Zv;rw[k1];rfl
 have all_eq:∀k∈(wfV w ls c).filterMap (λy=>cbD y M),k=((t+1:Nat):Int)/\ZfQ w ls c M=true:=λk hk=>by obtain⟨y,hy,e⟩:=ZAD.mp hk;exact val y hy k e
 unfold Zbv;cases hcan:ZfQ w ls c M with
 | false =>
  have:(wfV w ls c).filterMap (λy=>cbD y M)=[]:=List.eq_nil_iff_forall_not_mem.mpr λk hk=>by have:=(all_eq k hk).2;rw[hcan]at this;cases this
  rw[this];rfl
 | true =>
  obtain⟨d,hd,hq⟩:=ZAH.mp hcan;rw[ZAc]at hq;have hd':=ZAi.mp hd;have hy:Zmc w ls c (d:Int)∈wfV w ls c:=Zz1.mpr ⟨(d:Int),Zms hd' hq.1,rfl⟩;have hpn:Zx w ls (ZY w c d)≠[]:=Zfj (ZgE (hne c hc) hq.1);have hk:∃k,cbD (Zmc w ls c d) M=some k:=by
   unfold cbD;cases hw:ZaR (wyP (Zmc w ls c d)) M with
   | none=>have:=ZlJ hpn hw;rw[show(Zx w ls (ZY w c d)).all (Zv M)=true from hq.2]at this;cases this
   | some m=>exact⟨m+1,rfl⟩
  obtain⟨k,hk⟩:=hk;have hm:k∈(wfV w ls c).filterMap (λy=>cbD y M):=ZAD.mpr ⟨_,hy,hk⟩;cases hmin:((wfV w ls c).filterMap λy=>cbD y M).min? with
  | none=>rw[ZCF]at hmin; rw[hmin]at hm; simp at hm
  | some m=>have:=(ZB9.mp hmin).1;rw[(all_eq m this).1];rfl
theorem Zub{t:Nat}(T:Zik w ls L t M):ZaJ (wfV w ls) cbD L M=(Zf3 w ls L M).map λc=>(c,((t+1:Nat):Int)):=by
 unfold ZaJ Zf3;have key:∀K:List (List Int),(∀c∈K,c∈L)->(K.filterMap λc=>if Zv M c then none else(Zbv cbD (wfV w ls c) M).map λk=>(c,k))=(K.filter λc=>!Zv M c&&ZfQ w ls c M).map λc=>(c,((t+1:Nat):Int)):=by
  intro K
  induction K with
  | nil=>intro _; rfl
  | cons c K ih =>
   intro hK;have ih:=ih λx hx=>hK x (ZzU _ hx);rw[ZA6,ZA5];cases hh:Zv M c with
   | true=>simpa using ih
   | false =>
    have hle:=ZrT hL hne T (hK c (ZzT ..)) hh;rw[hle];cases hcan:ZfQ w ls c M with
    | false=>simpa [hcan]using ih
    | true=>simpa [hcan]using ih
 exact key L λ_ h=>h
theorem Zwy{k:Option Int}{found:List (List Int)}(r:Zij (wfV w ls) cbD L M k found R):∀t:Nat,(found=[]->Zik w ls L t M/\Zf3 w ls L M=[])->(found≠[]->k=some (t:Int)/\Zik w ls L t (Zal found t M))->ZjR w ls L R:=by
 induction r with
 | done=>intro t h _; exact⟨t,h rfl⟩
 | @step M R k found hf _ ih =>
  intro t _ h;obtain⟨hk,T⟩:=h hf;cases hk;have ho:=Zub hL hne T;have hmin:∀ms:List (List Int),Ze9 (ms.map λc=>(c,((t+1:Nat):Int)))=ms/\(ms≠[]->ZbE (ms.map λc=>(c,((t+1:Nat):Int)))=some ((t+1:Nat):Int)):=λms=>by
   cases ms with
   | nil=>exact⟨rfl,λz=>absurd rfl z⟩
   | cons c ms =>
    have hO:ZbE ((c::ms).map λc=>(c,((t+1:Nat):Int)))=some ((t+1:Nat):Int):=by unfold ZbE;rw[ZAe];refine ZB9.mpr ⟨Zz1.mpr ⟨c,ZzT ..,rfl⟩,λb hb=>?_⟩;obtain⟨c',_,rfl⟩:=Zz1.mp hb;exact Int.le_refl _
    refine⟨?_,λ_=>hO⟩;unfold Ze9;rw[hO];have:∀xs:List (List Int),((xs.map λc=>(c,((t+1:Nat):Int))).filter λp=>some p.2==some ((t+1:Nat):Int)).map (·.1)=xs:=by
     intro xs
     induction xs with
     | nil=>rfl
     | cons x xs ih=>simp at ih ⊢; exact ih
    exact this _
  obtain⟨m1,m2⟩:=hmin (Zf3 w ls L (Zal found t M));rw[ho,m1]at ih;refine ih (if Zf3 w ls L (Zal found t M)=[]then t else t+1) (λe=>?_) λe=>?_
  ·rw[if_pos e]
   exact⟨T,e⟩
  ·rw[if_neg e]
   exact⟨m2 e,Zp6 hL T⟩
theorem Zud(hv:Wk.V w)(r:Zij (wfV w ls) cbD L [] (some 0) (L.filter λc=>ZC w c) R):ZjR w ls L R:=by
 refine Zwy hL hne r 0 (λe=>?_) λ_=>⟨rfl,Zp8⟩;have T:Zik w ls L 0 (M0 w L):=Zp8;have e0:M0 w L=[]:=by unfold M0; rw[e]; rfl
 rw[e0]at T;refine⟨T,ZEy.mpr λc hc h=>?_⟩;rw[ZAc]at h;obtain⟨d,hd,hq⟩:=ZAH.mp h.2;rw[ZAc]at hq;obtain⟨p,hp⟩:=ZBf _ (Zfj (w:=w) (ls:=ls) (ZgE (hne c hc) hq.1));have:=ZzY.mp hq.2 p hp;cases this
end
theorem Zpu{w:Wk}(hv:Wk.V w){ap:AP}(A:ApD ap){ls:List Int}{L:List (List Int)}(hnd:L.Nodup)(hcr:∀c∈L,Cr w.many c/\c≠[])(hlen:L.length<=128)(hL:ZgW w ls L):∃M,Zdy ap [w.d,.dict (Zn (ZrU w ls L))]=some (.dict (Zn (encM M)))/\ZjR w ls L M:=by
 have hys:∀c∈L,(wfV w ls c).length<1000:=λc hc=>by unfold wfV;rw[ZzP];have:=Ze5 w c;have:=hv.d2;omega
 obtain⟨R,e,r⟩:=ZkD hv (ap:=ap) (wf:=wfV w ls) (t:=0) (cs:=[]) (cb:=cbD) hnd hlen (λc hc=>(hcr c hc).1) hys λc hc y hy M=>by
  rw[A.d0];obtain⟨d,hd,rfl⟩:=Zz1.mp hy;obtain⟨d0,d1,d2⟩:=Zbs hd;refine ZqI ?_ ?_ M
  ·have:=split_len (w:=w) (ls:=ls) (c:=ZY w c d)
   have:=(ZdR hv (hcr c hc).1 d0 d1).len;have:=hv.m2;show(Z5 w ls (ZY w c d)).length<1000;omega
  ·exact λz=>Zfj (w:=w) (ls:=ls) (ZgE (hcr c hc).2 d2) (by unfold Zx; rw[show Z5 w ls (ZY w c d)=[] from z]; rfl)
 refine⟨R,?_,Zud hL (λc hc=>(hcr c hc).2) hv r⟩;show Z2 (Zgj ap [some (.pl w.d),some (.pl (.dict (Zn (ZrU w ls L))))])=_;unfold Zgj ZE Zm;show Z2 (ZBC Out.rt (ZbI ap [w.d,.dict (Zn (Zw (wfV w ls) L)),fnD 0 []]))=_;rw[e];rfl
end HG5
namespace HG5
open PySem HM HG HG4
variable{L:List (List Int)}{c ls:List Int}{M:Tb}{w:Wk}
theorem ZjR.cost(F:ZjR w ls L M){k:Int}(h:Zg M c=some k):c∈L/\∃n:Nat,k=(n:Int)/\Win w ls n c=true/\∀m,m<n->Win w ls m c=false:=by
 obtain⟨t,T,_⟩:=F;rw[T.look]at h;split at h
 ·rename_i hc
  obtain⟨n,h1,_,h2,h3⟩:=ZlU h;exact⟨hc,n,h1,h2,h3⟩
 ·cases h
theorem ZjR.all(hL:ZgW w ls L)(F:ZjR w ls L M)(hc:c∈L){n:Nat}(h:Win w ls n c=true):Zv M c=true:=by
 obtain⟨t,T,hm⟩:=F;have T':=Zp6 hL T;rw[hm]at T';have st:∀c∈L,Win w ls (t+1) c=true->Win w ls t c=true:=λc hc q=>by have e1:=T.look c;have e2:=T'.look c;rw[if_pos hc]at e1 e2;have e3:ZcU w ls t c=ZcU w ls (t+1) c:=e1.symm.trans e2;rw[<-ZcX,e3,ZcX];exact q
 have:=ZlG hL st n c hc h;unfold Zv;rw[T.look,if_pos hc,ZcX];exact this
def Zzt(w:Wk)(ls:List Int)(P:List (List Int))(d:D):Prop:=(∃n:Nat,d=.int n/\(∀p∈P,Win w ls n p=true)/\∀m,m<n->¬∀p∈P,Win w ls m p=true)\/(d=.none/\∀n,¬∀p∈P,Win w ls n p=true)
theorem Zvb(hL:ZgW w ls L)(F:ZjR w ls L M){g:Gs}(hg:g.length<1000)(h0:g≠[])(hp:∀p∈g.map (·.2),p∈L):∃d,ZR [.list (g.map ZaL),.dict (Zn (encM M))]=some d/\Zzt w ls (g.map (·.2)) d:=by
 rw[Zei hg h0];refine⟨_,rfl,?_⟩;have hne:g.map (·.2)≠[]:=λe=>h0 (ZCP.mp e);cases hq:ZaR (g.map (·.2)) M with
 | none=>refine .inr ⟨rfl,λn hn=>?_⟩;have h1:=ZlJ hne hq;have:(g.map (·.2)).all (Zv M)=true:=ZzY.mpr λp h=>F.all hL (hp p h) (hn p h);rw[h1]at this;cases this
 | some m =>
  obtain⟨w1,p,hpm,w2⟩:=ZlK hq;obtain⟨_,n,rfl,k3,k4⟩:=F.cost w2;refine .inl ⟨n,rfl,λq hq'=>?_,λj hj hw=>?_⟩
  ·obtain⟨k,a1,a2⟩:=w1 q hq'
   obtain⟨_,n',rfl,a3,_⟩:=F.cost a1;exact ZfB (by omega) a3
  ·have:=hw p hpm
   rw[k4 j hj]at this;cases this
section
variable{w:Wk}(hv:Wk.V w)(h7:w.many<=7){ls:List Int}(hl:Cr w.looks.length ls)
include hv h7 hl
theorem Zte{ap:AP}(A:ApD ap):∃d,Zel ap [w.d,tupI ls]=some d/\Few w ls d:=by obtain⟨L,hco,hnd,hlen,hcr,_,hL,hbg⟩:=Zml hv h7 hl A hv.bc;obtain⟨M,hde,F⟩:=Zpu hv A hnd hcr hlen hL;have hpa:=Zhc hv hl hv.bc;have hsl:=split_len (w:=w) (ls:=ls) (c:=w.beg);have hbl:=hv.bc.len;have hsn:Z5 w ls w.beg≠[]:=λe=>Zfj (w:=w) (ls:=ls) hv.b1 (by unfold Zx; rw[e]; rfl);obtain⟨d,hm,fw⟩:=Zvb hL F (g:=Z5 w ls w.beg) (by omega) hsn hbg;refine⟨d,?_,fw⟩;have hc1:=Ziw hv;have hc2:=Zla hv hl;have hb:=ZhE w;show Z2 (Zjc ap [some (.pl w.d),some (.pl (tupI ls)),none,none])=_;simp[Zjc,hc1,hc2,hb,hco,hde,hpa,hm,Z2]
end
end HG5
namespace HG23
open PySem HM
open HG
open HG4
open HG5
def Zg3:SF :=
 (ZE (ZeT (Zm Zaq (Zc (Za 0) (Zc (Za 1) (Zc (Za 1) Zi)))) (ZiG (ZK (ZS (bOf (Za 0))) ZN (Zm Zat (Zc (Za 0) (Zc (eC (.int 1)) (Zc (eC (.int 20)) Zi))))))))
def Zbr:List D->Option D:=fnOf 2 2 Zg3
def ZdS:SF :=
 (Zu (sIf (Zej (tV (Zm Zaq (Zc (Za 1) (Zc (eC (.int 2)) (Zc (eC (.int 2)) Zi)))))) ZjV Zay)
  (Zu (sIf (tOr (Zej (tV (Zm Zbr (Zc (eIx (Zo 1) (eC (.int 0))) (Zc (Zaf (bOf (Zm Za2 (Zc (Za 0) Zi)))) Zi))))) (Zej (tV (Zm Zbr (Zc (eIx (Zo 1) (eC (.int 1))) (Zc (Zaf (bOf (Zm Za3 (Zc (Za 0) Zi)))) Zi)))))) ZjV Zay)
  (ZE (Za 1))))
def Zb0:List D->Option D:=fnOf 2 2 ZdS
def Zez:SF :=
 (ZE (eOf (ZdH (ZS (bOf (Zm Zak (Zc (Za 0) (Zc (Za9 Zi) (Zc (Za 2) Zi)))))) ZN (Za9 (Zc (Za9 (Zc (eC (.str (ZAX "do"))) (Zc (Za 0) (Zc (eIx (bOf (eIx (Zo 3) (eC (.int 0)))) (Za 0)) Zi)))) (Zc (Za 1) Zi))))))
def Zco:List D->Option D:=fnOf 3 3 Zez
def ZeA:SF :=
 (Zu (ZW 3 (ZdH (ZnS (eIx (Zo 1) (eC (.int 1)))) ZN (Za9 (Zc (Za9 (Zc (eC (.str (ZAX "look"))) (Zc (Za 0) (Zc (Za 1) Zi)))) (Zc (Zm Zar (Zc (Za 2) (Zc (Za9 (Zc (Za 0) Zi)) (Zc (Za 4) Zi)))) Zi)))))
  (ZeR 3 (ZE (eOf (ZK (ZS (bOf (Za 3))) (tV (op2 gGt (Zaf (bOf (eIx (Zo 0) (eC (.int 1))))) (eC (.int 1)))) (Za 0))))))
def Zcp:List D->Option D:=fnOf 3 4 ZeA
def ZhO:SF :=
 (ZE (eOf (Zss (bOf (Zm Zco (Zc (Za 0) (Zc (Za 1) (Zc (Za 2) Zi))))) (bOf (Zm Zcp (Zc (Za 0) (Zc (Za 1) (Zc (Za 2) Zi))))))))
def ZaN:List D->Option D:=fnOf 3 3 ZhO
def Zhl:SF :=
 (Zu (Z4 2 (Zm ZR (Zc (eIx (Zo 0) (eC (.int 1))) (Zc (Za 1) Zi))))
  (ZE (eIf (tV (op2 Zfd (Za 2) (eC .none))) (eC .none) (op2 ZaE (Za 2) (eIx (bOf (eIx (Zo 0) (eC (.int 0)))) (eC (.int 2)))))))
def Zdb:List D->Option D:=fnOf 2 3 Zhl
def Zdz(ap:AP):SF :=
 (ZE (Zfe (ZaO ap) 6 [0,1] (eOf (Zdj (Zc (Zm Zbo (Zc (Za 0) Zi)) Zi)))))
def Zbj(ap:AP):List D->Option D:=fnOf 2 2 (Zdz ap)
def Zhm(ap:AP):SF :=
 (Zu (ZlW (Zm ZbG (Zc (Za 0) Zi)))
  (Zu (ZlW (Zm Zb0 (Zc (Za 0) (Zc (Za 1) Zi))))
  (Zu (Z4 2 (Zm (ZbI ap) (Zc (Za 0) (Zc (Zm (Zbj ap) (Zc (Za 0) (Zc (Za 1) Zi))) (Zc (eC (fnD 5 [])) Zi)))))
  (ZE (ZlL (Zo 2) (Zm Zbo (Zc (Za 0) Zi)))))))
def ZdZ(ap:AP):List D->Option D:=fnOf 2 3 (Zhm ap)
def ZfH:SF :=
 (Zu (Z4 2 (Zan (ZK (Za6 (Zaf (bOf (eIx (Zo 0) (eC (.int 1)))))) ZN (op2 ZaE (eC (.int 1)) (Zm ZI (Zc (op2 ZaE (Za 2) (op2 Zcv (eC (.int 37)) (Za 0))) (Zc (eC (.int 9817)) (Zc (eC (.int 9)) Zi))))))))
  (Zu (Z4 3 (Zan (ZK (Za6 (Zaf (bOf (eIx (Zo 0) (eC (.int 2)))))) ZN (op2 ZaE (eC (.int 1)) (Zm ZI (Zc (op2 ZaE (op2 ZaE (Za 2) (op2 Zcv (eC (.int 41)) (Za 0))) (eC (.int 7))) (Zc (eC (.int 9811)) (Zc (eC (.int 9)) Zi))))))))
  (ZE (Za9 (Zc (Za 2) (Zc (Za 3) Zi))))))
def Zc1:List D->Option D:=fnOf 2 4 ZfH
def ZeB:SF :=
 (Zu (ZW 7 (ZdH (ZS (bOf (Zm ZbP (Zc (Za 0) (Zc (Za9 (Zc (Za 6) Zi)) (Zc (Za 2) Zi)))))) ZN (Za 1)))
  (sIf (tV (op2 gGt (Zaf (Zo 7)) (eC (.int 1)))) (ZeR 7 (Zdf 3 (Za9 (Zc (eIx (bOf (eIx (Zo 1) (eC (.int 1)))) (Za 6)) (Zc (Za 7) Zi))))) Zay))
def ZeC:SF :=
 (Zu (Z4 5 (Zm ZcS (Zc (Za 0) (Zc (Za 2) (Zc (Za 4) Zi)))))
  (sIf (tV (op2 Zhh (Za 5) (eC .none))) (Zdf 3 (Za9 (Zc (eIx (bOf (eIx (Zo 1) (eC (.int 0)))) (Za 4)) (Zc (eOf (Zdj (Zc (Za 5) Zi))) Zi)))) Zay))
def Zhn:SF :=
 (Zu (ZW 3 (Zdj Zi))
  (Zu (Zba 4 (Za6 (Zaf (bOf (eIx (Zo 0) (eC (.int 1)))))) ZeC)
  (Zu (Zba 6 (Za6 (Zaf (bOf (eIx (Zo 0) (eC (.int 2)))))) ZeB)
  (ZeR 3 (ZE (Za 3))))))
def Zb5:List D->Option D:=fnOf 3 8 Zhn
def Zd2:SF :=
 (sIf (tV (op2 gEq (eOf (ZK (ZS (bOf (Za 5))) (tV (ZbW (Za 0) (Zo 7))) (Za 0))) (eOf (Zdj Zi)))) (Zu (Z4 9 (op2 ZaE (Za 4) (Zfx (ZK (ZS (bOf (Za 5))) ZN (ZaX (Zo 7) (Za 0))))))
  (sIf (tOr (tV (op2 Zfd (Za 8) (eC .none))) (tV (op2 gLt (Za 9) (eIx (Zo 8) (eC (.int 0)))))) (Z4 8 (Za9 (Zc (Za 9) (Zc (Za 7) Zi)))) Zay)) Zay)
def Zc2:SF :=
 (sIf (tV (ZbW (Za 7) (Zo 6))) (ZiO 4 5 (ZS (bOf (Zm Zb5 (Zc (Za 0) (Zc (Za 1) (Zc (Za 7) Zi)))))) Zd2) Zay)
def Zby:SF :=
 (Zu (Z4 8 (eC .none))
  (Zu (ZeR 2 (Zba 7 (ZS (bOf (Za 2))) Zc2))
  (Zu (sIf (tV (op2 Zfd (Za 8) (eC .none))) (ZeR 6 (ZE (Za 6))) Zay)
  (ZhD 6 (eIx (Zo 8) (eC (.int 1))) (eIx (Zo 8) (eC (.int 0)))))))
def Zbf:SF :=
 (sIf (tV (Zm Zbd (Zc (Za 0) (Zc (Za 7) Zi)))) (ZhD 6 (Za 7) (eC (.int 0))) Zay)
def ZfI:SF :=
 (ZW 2 (ZmG (Zo 2) (ZK (ZS (bOf (Za 5))) (tV (ZhV (Za 0) (Zo 3))) (Za 0))))
def Zd3:SF :=
 (Zu (ZiO 4 5 (ZS (bOf (Zm Zb5 (Zc (Za 0) (Zc (Za 1) (Zc (eIx (Zo 2) (Za 3)) Zi)))))) ZfI)
  (Z4 3 (op2 ZaE (Za 3) (eC (.int 1)))))
def Zgk:SF :=
 (Zu (ZW 2 (Zdj (Zc (eIx (Zo 0) (eC (.int 3))) Zi)))
  (Zu (Z4 3 (eC (.int 0)))
  (Zu (ZhT 100000 (tV (op2 gLt (Za 3) (Zaf (Zo 2)))) Zd3)
  (Zu (ZW 6 fDt)
  (Zu (ZeR 2 (Zba 7 (ZS (bOf (Za 2))) Zbf))
  (ZhT 100000 (tV (eC (.bool true))) Zby))))))
def ZdA:List D->Option D:=fnOf 2 10 Zgk
def Zn6(ap:AP):SF :=
 (Zu (Z4 1 (Zm Zbb (Zc (Za 0) (Zc (eC (.int 1)) Zi))))
  (Zu (Z4 2 (Zm Zc1 (Zc (Za 1) (Zc (Zm Zam (Zc (Za 0) (Zc (eC (.int 0)) Zi))) Zi))))
  (Zu (Z4 3 (Zm (ZdZ ap) (Zc (Za 1) (Zc (Za 2) Zi))))
  (Zu (Z4 4 (ZlL (bOf (Zm ZdA (Zc (Za 1) (Zc (Za 2) Zi)))) (eIx (Zo 1) (eC (.int 3)))))
  (Zu (sIf (tV (op2 gNe (op2 Zfd (Za 3) (eC .none)) (op2 Zfd (Zm (Zel ap) (Zc (Za 1) (Zc (Zm Zca (Zc (Za 1) Zi)) Zi))) (eC .none)))) (ZE (eC (.bool false))) Zay)
  (Zu (sIf (tV (op2 Zfd (Za 4) (eC .none))) (ZE (op2 Zfd (Za 3) (eC .none))) Zay)
  (ZE (ZeT (Zm ZcD (Zc (Za 3) Zi)) (ZeT (op2 gEq (Za 3) (Za 4)) (op2 gEq (op2 gEq (Za 3) (eC (.int 0))) (Zm Zbd (Zc (Za 1) (Zc (eIx (Zo 1) (eC (.int 3))) Zi)))))))))))))
def Zgl(ap:AP):List D->Option D:=fnOf 1 5 (Zn6 ap)
def ap:AP:=λt cs ds=>match t with
 | 0=>if cs.isEmpty then Zda ds else none
 | 1=>Zhe 1 2 (Zm Zak (Zc (Za 1) (Zc (Za 2) (Zc (Za 0) Zi)))) cs ds
 | 5=>if cs.isEmpty then Zdb ds else none
 | 6=>Zhe 1 2 (Zm ZaN (Zc (Za 1) (Zc (Za 2) (Zc (Za 0) Zi)))) cs ds
 | _=>none
end HG23
namespace HG23
open PySem HM
open HG
open HG4
open HG5
variable{cb:Cb}{L ps:List (List Int)}{c:List Int}{ys:List Wy}{m n:Nat}{M R:Tb}{wf:Wf}{w:Wk}{y:Wy}
def prY(y:Wy):Int:=match y.1 with
 | .tuple [_,_,.int k]=>k
 | _=>1
def cbP:Cb:=λy M=>(ZaR (wyP y) M).map (·+prY y)
inductive Buy(w:Wk)(wf:Wf):Nat->List Int->Prop where
 | there {n:Nat} {c:List Int} (h:ZC w c=true):Buy w wf n c
 | way {n k:Nat} {c:List Int} {y:Wy} (hy:y∈wf c) (hk:prY y=(k:Int)) (h1:1<=k) (hp:∀p∈wyP y,Buy w wf n p):Buy w wf (n+k) c
theorem Buy.le(h:Buy w wf n c):∀{m:Nat},n<=m->Buy w wf m c:=by
 induction h with
 | there h=>intro m _; exact .there h
 | @way n k c y hy hk h1 _ ih =>
  intro m hm;have:=Buy.way (n:=m-k) hy hk h1 λp hp=>ih p hp (m:=m-k) (by omega)
  rwa [show m-k+k=m by omega]at this
def Zd9(w:Wk)(wf:Wf)(c:List Int)(n:Nat):Prop:=Buy w wf n c/\∀m,m<n->¬Buy w wf m c
theorem Zd9.unique(h1:Zd9 w wf c n)(h2:Zd9 w wf c m):n=m:=by
 rcases Nat.lt_trichotomy n m with h | h | h
 ·exact absurd h1.1 (h2.2 n h)
 ·exact h
 ·exact absurd h2.1 (h1.2 m h)
theorem Zd9.min(h1:Zd9 w wf c n)(h:Buy w wf m c):n<=m:=by apply ZCk;intro q;exact h1.2 m q h
def Zkf(wf:Wf)(L:List (List Int)):Prop:=∀c∈L,∀y∈wf c,∀p∈wyP y,p∈L
structure Gd(wf:Wf)(L:List (List Int)):Prop where
 cl:Zkf wf L
 ne:∀c∈L,∀y∈wf c,wyP y≠[]
 pr:∀c∈L,∀y∈wf c,∃k:Nat,prY y=(k:Int)/\1<=k
structure ZjY(w:Wk)(wf:Wf)(L:List (List Int))(M:Tb):Prop where
 ok:∀c k,Zg M c=some k->c∈L/\∃n:Nat,k=(n:Int)/\Zd9 w wf c n
 th:∀c∈L,ZC w c=true->Zv M c=true
theorem Zux{n:Int}(h0:ps≠[])(h:∀p∈ps,∃k,Zg M p=some k/\k<=n):∃k,ZaR ps M=some k/\k<=n:=by
 unfold ZaR;have hall:ps.all (Zv M)=true:=ZzY.mpr λp hp=>by obtain⟨k,hk,_⟩:=h p hp;unfold Zv;rw[hk];rfl
 rw[if_pos hall];cases hm:(ps.filterMap λp=>Zg M p).max? with
 | none=>rw[ZCG]at hm;obtain⟨p,hp⟩:=ZBf _ h0;obtain⟨k,hk,_⟩:=h p hp;have:k∈ps.filterMap λp=>Zg M p:=ZAD.mpr ⟨p,hp,hk⟩;rw[hm]at this;simp at this
 | some k=>refine⟨k,rfl,?_⟩;have hk:=List.max?_mem hm;obtain⟨p,hp,e⟩:=ZAD.mp hk;obtain⟨k',hk',hle⟩:=h p hp;rw[e]at hk';cases hk';exact hle
theorem Zuc{k:Int}(h:ZaR ps M=some k):(∃p∈ps,Zg M p=some k)/\∀p∈ps,∃v,Zg M p=some v/\v<=k:=by
 unfold ZaR at h;split at h
 ·rename_i hall
  have hk:=List.max?_mem h;obtain⟨p,hp,e⟩:=ZAD.mp hk;refine⟨⟨p,hp,e⟩,λq hq=>?_⟩;have:=ZzY.mp hall q hq;unfold Zv at this;obtain⟨v,hv⟩:=ZAt.mp this;refine⟨v,hv,?_⟩;have:=(ZDo.mp h).2;exact this v (ZAD.mpr ⟨q,hq,hv⟩)
 ·cases h
section
variable{w:Wk}{wf:Wf}{L:List (List Int)}(G:Gd wf L){M:Tb}(T:ZjY w wf L M)
include T
theorem ZxA{k:Int}(hc:c∈L)(hy:y∈wf c)(G:Gd wf L)(h:cbP y M=some k):∃n:Nat,k=(n:Int)/\Buy w wf n c:=by unfold cbP at h;obtain⟨v,hv,rfl⟩:=ZzR.mp h;obtain⟨⟨p,hp,ep⟩,hall⟩:=Zuc hv;obtain⟨q,hq,h1⟩:=G.pr c hc y hy;obtain⟨_,n,rfl,_⟩:=T.ok p v ep;refine⟨n+q,by rw[hq]; omega,.way hy hq h1 λp' hp'=>?_⟩;obtain⟨v',hv',hle⟩:=hall p' hp';obtain⟨_,n',rfl,hl⟩:=T.ok p' v' hv';exact hl.1.le (by omega)
include G
theorem Zx9{x:List Int}(h:Buy w wf n x):x∈L->Zv M x=false->∃x'∈L,Zv M x'=false/\∃y∈wf x',∃k,cbP y M=some k/\k<=(n:Int):=by
 induction h with
 | there h=>intro hx hn; rw[T.th _ hx h]at hn; cases hn
 | @way n k c y hy hk h1 hp ih =>
  intro hx hn
  by_cases hall:∀p∈wyP y,Zv M p=true
  ·refine⟨c,hx,hn,y,hy,?_⟩
   obtain⟨v,hv,hle⟩:=Zux (M:=M) (n:=(n:Int)) (G.ne c hx y hy) λp hp'=>by have:=hall p hp';unfold Zv at this;obtain⟨v,hv⟩:=ZAt.mp this;obtain⟨_,m,rfl,hl⟩:=T.ok p v hv;have:=hl.min (hp p hp');exact⟨_,hv,by omega⟩
   refine⟨v+prY y,by unfold cbP; rw[hv]; rfl,by rw[hk]; omega⟩
  ·obtain⟨p,hp',hn'⟩:∃p∈wyP y,Zv M p=false:=by
    apply Classical.byContradiction;intro z;refine hall λp hp'=>?_;cases q:Zv M p with
    | true=>rfl
    | false=>exact absurd ⟨p,hp',q⟩ z
   obtain⟨x',hx',hn'',y',hy',k',hk',hle⟩:=ih p hp' (G.cl c hx y hy p hp') hn';exact⟨x',hx',hn'',y',hy',k',hk',by omega⟩
theorem ZlP{k:Int}(hc:c∈L)(hn:Zv M c=false)(hy:y∈wf c)(h:cbP y M=some k)(hmin:∀x∈L,Zv M x=false->∀y∈wf x,∀v,cbP y M=some v->k<=v):∃n:Nat,k=(n:Int)/\Zd9 w wf c n:=by obtain⟨n,rfl,hb⟩:=ZxA T hc hy G h;refine⟨n,rfl,hb,λm hm hb'=>?_⟩;obtain⟨x,hx,hn',y',hy',v,hv,hle⟩:=Zx9 G T hb' hc hn;have:=hmin x hx hn' y' hy' v hv;omega
theorem Zq5(hno:∀x∈L,Zv M x=false->∀y∈wf x,cbP y M=none)(hc:c∈L)(hb:Buy w wf n c):Zv M c=true:=by
 cases hn:Zv M c with
 | true=>rfl
 | false=>obtain⟨x,hx,hn',y,hy,v,hv,_⟩:=Zx9 G T hb hc hn;rw[hno x hx hn' y hy]at hv;cases hv
end
theorem Zwh(T:ZjY w wf L M)(hc:c∈L)(h:Zd9 w wf c n):ZjY w wf L (putD M c (n:Int)):=by
 refine⟨λx k hk=>?_,λx hx ht=>?_⟩
 ·rw[ZfF]at hk
  split at hk
  ·rename_i e
   cases hk;subst e;exact⟨hc,n,rfl,h⟩
  ·exact T.ok x k hk
 ·unfold Zv
  rw[ZfF];split
  ·rfl
  ·exact T.th x hx ht
structure Zlc(w:Wk)(wf:Wf)(L:List (List Int))(M:Tb):Prop where
 tab:ZjY w wf L M
 all:∀c∈L,∀n,Buy w wf n c->Zv M c=true
theorem Zlc.at_(F:Zlc w wf L M)(hc:c∈L):(∃n:Nat,Zg M c=some (n:Int)/\Zd9 w wf c n)\/(Zg M c=none/\∀n,¬Buy w wf n c):=by
 cases hq:Zg M c with
 | some k=>obtain⟨_,n,rfl,h⟩:=F.tab.ok c k hq;exact .inl ⟨n,rfl,h⟩
 | none=>refine .inr ⟨rfl,λn hb=>?_⟩;have:=F.all c hc n hb;unfold Zv at this;rw[hq]at this;cases this
theorem ZlA{k:Int}(h:Zbv cb ys M=some k):(∃y∈ys,cb y M=some k)/\∀y∈ys,∀v,cb y M=some v->k<=v:=by unfold Zbv at h;have h1:=List.min?_mem h;obtain⟨y,hy,e⟩:=ZAD.mp h1;refine⟨⟨y,hy,e⟩,λy' hy' v hv=>?_⟩;exact(ZB9.mp h).2 v (ZAD.mpr ⟨y',hy',hv⟩)
theorem ZlD(h:Zbv cb ys M=none):∀y∈ys,cb y M=none:=λy hy=>by unfold Zbv at h;rw[ZCF,List.filterMap_eq_nil_iff]at h;exact h y hy
theorem ZwF{k:Int}(h:ZbE (ZaJ wf cb L M)=some k):∀x∈L,Zv M x=false->∀y∈wf x,∀v,cb y M=some v->k<=v:=λx hx hn y hy v hv=>by
 unfold ZbE at h;have h2:=(ZB9.mp h).2;cases hl:Zbv cb (wf x) M with
 | none=>rw[ZlD hl y hy]at hv; cases hv
 | some u=>have:=h2 u (Zz1.mpr ⟨(x,u),Zj9.mpr ⟨hx,hn,hl⟩,rfl⟩);have:=(ZlA hl).2 y hy v hv;omega
theorem ZuT(G:Gd wf L){k:Option Int}{found:List (List Int)}(r:Zij wf cbP L M k found R) :
  (∀c v,Zg M c=some v->c∈L/\∃n:Nat,v=(n:Int)/\Zd9 w wf c n)->(∀c∈L,ZC w c=true->Zv M c=true\/c∈found)->(∀c∈found,c∈L/\∃n:Nat,k=some (n:Int)/\Zd9 w wf c n)->(found=[]->∀x∈L,Zv M x=false->∀y∈wf x,cbP y M=none)->Zlc w wf L R:=by
 induction r with
 | done=>intro h1 h2 _ h4;have T:ZjY w wf L _:=⟨h1,λc hc ht=>(h2 c hc ht).elim id λz=>by simp at z⟩;exact⟨T,λc hc n hb=>Zq5 G T (h4 rfl) hc hb⟩
 | @step M R k found hf _ ih =>
  intro h1 h2 h3 _;have hlk:∀c,Zg (Zal found k M) c=if c∈found then some k else Zg M c:=λc=>Zem k c found M
  have T:ZjY w wf L (Zal found k M):=by
   refine⟨λc v hv=>?_,λc hc ht=>?_⟩
   ·rw[hlk]at hv
    split at hv
    ·rename_i hm
     obtain⟨hc,n,e,hl⟩:=h3 c hm;cases hv;exact⟨hc,n,ZAz e,hl⟩
    ·exact h1 c v hv
   ·unfold Zv
    rw[hlk];split
    ·rfl
    ·rename_i hm
     exact(h2 c hc ht).elim (λz=>z) λz=>absurd z hm
  refine ih T.ok (λc hc ht=>.inl (T.th c hc ht)) (λc hc=>?_) λhe x hx hn y hy=>?_
  ·obtain⟨⟨c',v⟩,h5,rfl⟩:=Zz1.mp hc
   obtain⟨h6,h7⟩:=ZAh.mp h5;obtain⟨hcL,hn,hl⟩:=Zj9.mp h6;have h7:=beq_iff_eq.mp h7;obtain⟨⟨y,hy,hcb⟩,_⟩:=ZlA hl;obtain⟨n,rfl,hL⟩:=ZlP G T hcL hn hy hcb (ZwF h7.symm);exact⟨hcL,n,h7.symm,hL⟩
  ·cases hl:Zbv cbP (wf x) (Zal found k M)with
   | none=>exact ZlD hl y hy
   | some u =>
    have hm:(x,u)∈ZaJ wf cbP L (Zal found k M):=Zj9.mpr ⟨hx,hn,hl⟩;cases ho:ZbE (ZaJ wf cbP L (Zal found k M))with
    | none=>unfold ZbE at ho;rw[ZCF]at ho;rw[ZCP.mp ho]at hm;simp at hm
    | some v=>have hv:=ho;unfold ZbE at ho;obtain⟨q,hq,e⟩:=Zz1.mp (List.min?_mem ho);have:q.1∈Ze9 (ZaJ wf cbP L (Zal found k M)):=Zz1.mpr ⟨q,ZAh.mpr ⟨hq,by rw[hv,e]; exact beq_self_eq_true _⟩,rfl⟩;rw[he]at this;simp at this
theorem Zs4(G:Gd wf L)(r:Zij wf cbP L [] (some 0) (L.filter λc=>ZC w c) R):Zlc w wf L R:=by
 refine ZuT G r (λc v hv=>by cases hv) (λc hc ht=>.inr (ZAh.mpr ⟨hc,ht⟩)) (λc hc=>?_) λ_ x hx _ y hy=>?_
 ·obtain⟨h1,h2⟩:=ZAh.mp hc
  exact⟨h1,0,rfl,.there h2,λm hm=>by omega⟩
 ·unfold cbP ZaR
  rw[if_neg]
  ·rfl
  ·intro h
   obtain⟨p,hp⟩:=ZBf _ (G.ne x hx y hy);have:=ZzY.mp h p hp;cases this
end HG23
namespace HG23
open PySem HM
open HG
open HG4
open HG5
variable{l:Int}{c xs:List Int}
theorem ZgI{I:IF}{c:TF}{e:EF}{r:HM.Env}{ds ys:List D}(hI:I r=some ds)(hl:ds.length<1000000)(hg:Zap c e r ds=some ys):ZK I c e r=some (.ol ys):=by unfold ZK;rw[hI];dsimp only;rw[if_pos (show ds.length<big from hl),hg];rfl
structure Pr where
 ds:List Int
 ls:List Int
def Pr.d(p:Pr):D:=.tuple [tupI p.ds,tupI p.ls]
structure Pr.V(p:Pr)(w:Wk):Prop where
 dl:p.ds.length=w.deeds.length
 ll:p.ls.length=w.looks.length
 db:∀x∈p.ds,1<=x/\x<=20
 lb:∀x∈p.ls,1<=x/\x<=20
def dP(p:Pr)(d:Int):Int:=p.ds[d.toNat]?.getD 1
def lP(p:Pr)(l:Int):Int:=p.ls[l.toNat]?.getD 1
theorem ZjJ{i:Int}(h0:0<=i)(h1:i<xs.length):atD (xs.map dI) i=some (.int (xs[i.toNat]?.getD 1))/\(xs[i.toNat]?.getD 1)∈xs:=by
 have e:((i.toNat:Nat):Int)=i:=ZCp h0;have hn:i.toNat<xs.length:=by omega
 have:=ZdQ (ds:=xs.map dI) (j:=i.toNat) (d:=.int xs[i.toNat]) (by simp[hn]);rw[e]at this;rw[this,Zz2 hn];exact⟨rfl,ZBl hn⟩
def doY(w:Wk)(p:Pr)(c:List Int)(d:Int):Wy:=(.tuple [.str (ZAX "do"),.int d,.int (dP p d)],Z5 w [] (ZY w c d))
def Zax(w:Wk)(p:Pr)(c:List Int)(l:Int):Wy:=(.tuple [.str (ZAX "look"),.int l,.int (lP p l)],Z5 w [l] c)
def wfB(w:Wk)(p:Pr):Wf:=λc=>(doV w c).map (doY w p c)++((alV w).map (Zax w p c)).filter λy=>decide (1<y.2.length)
theorem Zpd(w:Wk)(p:Pr)(c:List Int)(d:Int):prY (doY w p c d)=dP p d:=rfl
theorem Zlb(w:Wk)(p:Pr)(c:List Int)(l:Int):prY (Zax w p c l)=lP p l:=rfl
theorem ZxL(n:Nat):Cr n []:=⟨.nil,λx hx=>by simp at hx⟩
theorem ZtK{n:Nat}(h0:0<=l)(h1:l<n):Cr n [l]:=⟨List.pairwise_singleton ..,λx hx=>by rw[Zz0.mp hx]; exact⟨h0,h1⟩⟩
theorem Zvu{w:Wk}(h:l∈alV w):0<=l/\l<(w.looks.length:Int):=(ZhR w).2 l h
section
variable{w:Wk}(hv:Wk.V w){p:Pr}(hp:p.V w)
include hp
theorem Zxn{d:Int}(h0:0<=d)(h1:d<w.deeds.length):1<=dP p d/\dP p d<=20:=hp.db _ (ZjJ h0 (by rw[hp.dl]; exact h1)).2
theorem Zxw(h0:0<=l)(h1:l<w.looks.length):1<=lP p l/\lP p l<=20:=hp.lb _ (ZjJ h0 (by rw[hp.ll]; exact h1)).2
theorem Zm5(h:∀x∈xs,1<=x/\x<=20)(hl:xs.length<1000):Zbr [tupI xs,.int xs.length]=some (.bool true):=by
 have h1:=ZdK (tupI xs) xs.length xs.length;have hr:Zdk (tupI xs) xs.length xs.length=true:=by show(decide ((xs.length:Int)<=((xs.map dI).length:Int))&&decide (((xs.map dI).length:Int)<=(xs.length:Int)))=true;rw[ZzP];simp
 rw[hr]at h1;have hb:xs.length<1000000:=by omega
 have hc:Zap ZN (Zm Zat (Zc (Za 0) (Zc (eC (.int 1)) (Zc (eC (.int 20)) Zi)))) [some (.pl (tupI xs)),some (.pl (.int xs.length))] (xs.map dI)=some (xs.map λ_=>.bool true):=by rw[Za0 dI (λ_=>.bool true)];intro x hx;have:=ZeS (.int x) 1 20;have hb:=h x hx;rw[show ZgO (.int x) 1 20=true by show(decide (1<=x)&&decide (x<=20))=true; rw[decide_eq_true hb.1,decide_eq_true hb.2]; rfl]at this;exact this
 have hbs:ZeU (xs.map λ_=>ZBk true)=some (xs.map λ_=>true):=by
  have:=ZeX (xs.map λ_=>true)
  rwa [ZAe]at this
 have ha:(xs.map λ_=>true).all id=true:=by simp
 simp[Zbr,Zg3,h1,hb,hc,hbs,ha]
include hv
theorem Zkp:Zb0 [w.d,p.d]=some p.d:=by
 have h1:=ZdK p.d 2 2;have hr:Zdk p.d 2 2=true:=rfl;rw[hr]at h1;have h2:=Zm5 hp hp.db (by rw[hp.dl]; have:=hv.d2; omega);have h3:=Zm5 hp hp.lb (by rw[hp.ll]; have:=hv.l2; omega);rw[hp.dl]at h2;rw[hp.ll]at h3;have e0:∀r:HM.Env,r[1]?=some (some (.pl p.d))->eIx (Zo 1) (eC (.int 0)) r=some (tupI p.ds):=λr h=>by simp[h,Pr.d]
 have e1:∀r:HM.Env,r[1]?=some (some (.pl p.d))->eIx (Zo 1) (eC (.int 1)) r=some (tupI p.ls):=λr h=>by simp[h,Pr.d]
 show Z2 (ZdS [some (.pl w.d),some (.pl p.d)])=_;unfold ZdS;refine ZO (P:=λq=>Z2 q=_) (r':=[some (.pl w.d),some (.pl p.d)]) (by simp[h1]) ?_;refine ZO (P:=λq=>Z2 q=_) (r':=[some (.pl w.d),some (.pl p.d)]) ?_ rfl;have a0:=e0 [some (.pl w.d),some (.pl p.d)] rfl;have a1:=e1 [some (.pl w.d),some (.pl p.d)] rfl;generalize eIx (Zo 1) (eC (.int 0))=E0 at a0 ⊢;generalize eIx (Zo 1) (eC (.int 1))=E1 at a1 ⊢;simp[a0,a1,Zfy,Zfs,h2,h3]
theorem ZlO(hc:Cr w.many c):Zco [w.d,p.d,tupI c]=some (.list (((doV w c).map (doY w p c)).map wyD)):=by
 have h1:=ZjW hv (ls:=[]) (ZxL _) hc;have h1':Zak [w.d,.tuple [],tupI c]=some (.list ((doV w c).map (Zk7 w [] c))):=h1;have hb:(doV w c).length<1000000:=by have:=Ze5 w c; have:=hv.d2; omega
 have hg:Zdg ZN (Za9 (Zc (Za9 (Zc (eC (.str (ZAX "do"))) (Zc (Za 0) (Zc (eIx (bOf (eIx (Zo 3) (eC (.int 0)))) (Za 0)) Zi)))) (Zc (Za 1) Zi))) [some (.pl w.d),some (.pl p.d),some (.pl (tupI c))] ((doV w c).map (Zk7 w [] c))=some ((doV w c).map λd=>wyD (doY w p c d)):=by
  have:=Zha (c:=ZN) (e:=Za9 (Zc (Za9 (Zc (eC (.str (ZAX "do"))) (Zc (Za 0) (Zc (eIx (bOf (eIx (Zo 3) (eC (.int 0)))) (Za 0)) Zi)))) (Zc (Za 1) Zi))) (r:=[some (.pl w.d),some (.pl p.d),some (.pl (tupI c))]) dI (λd=>ZEz ((Z5 w [] (ZY w c d)).map ZaL)) (λ_=>true) (λd=>wyD (doY w p c d)) (doV w c) (λ_ _=>rfl) λd hd _=>by obtain⟨d0,d1,_⟩:=Zbs hd;have ha:=(ZjJ (xs:=p.ds) d0 (by rw[hp.dl]; exact d1)).1;have ha':eIx (bOf (eIx (Zo 3) (eC (.int 0)))) (Za 0) (some (.pl (dI d))::some (.pl (ZEz ((Z5 w [] (ZY w c d)).map ZaL)))::[some (.pl w.d),some (.pl p.d),some (.pl (tupI c))])=some (.int (dP p d)):=ha;generalize eIx (bOf (eIx (Zo 3) (eC (.int 0)))) (Za 0)=E at ha' ⊢;simp[ha'];rfl
  rw[ZBw.mpr λ_ _=>rfl]at this;exact this
 show Z2 (Zez [some (.pl w.d),some (.pl p.d),some (.pl (tupI c))])=_;have hi:ZS (bOf (Zm Zak (Zc (Za 0) (Zc (Za9 Zi) (Zc (Za 2) Zi))))) [some (.pl w.d),some (.pl p.d),some (.pl (tupI c))]=some ((doV w c).map (Zk7 w [] c)):=by simp[h1']
 unfold Zez ZE eOf ZdH;rw[hi];dsimp only;rw[if_pos (by rw[ZzP]; exact hb),hg,ZAe];rfl
omit hp hv in
theorem Zo0(f:Nat->Int):∀(n k:Nat) (xs:List Int),xs.length=n->(∀i,i<n->xs[i]?=some (f (k+i)))->ZiF k (xs.map dI)=(List.range' k n).map λ(j:Nat)=>ZAJ [dI (j:Int),dI (f j)]
 | 0,k,xs,h,_=>by rw[ZBV h]; rfl
 | n+1,k,x::xs,h,hx=>by
  have h0:=hx 0 (by omega);have ih:=Zo0 f n (k+1) xs (by simpa using h) λi hi=>by have:=hx (i+1) (by omega);rw[show k+1+i=k+(i+1) by omega,<-this];rfl
  rw[ZzZ,List.range'_succ,ZzZ,<-ih];have:x=f k:=by simpa using h0
  rw[this];rfl
 | n+1,k,[],h,_=>by simp at h
theorem Zlz(hc:Cr w.many c):Zcp [w.d,p.d,tupI c]=some (.list ((((alV w).map (Zax w p c)).filter λy=>decide (1<y.2.length)).map wyD)):=by
 have hl2:=hv.l2;have hen:ZiF 0 (p.ls.map dI)=(alV w).map λl=>ZAJ [dI l,dI (lP p l)]:=by
  rw[Zo0 (λj=>lP p (j:Int)) w.looks.length 0 p.ls hp.ll λi hi=>?_]
  ·unfold alV
   rw[ZAe,List.range_eq_range'];rfl
  ·rw[Nat.zero_add]
   unfold lP;rw[ZA9,Zz2 (by rw[hp.ll]; exact hi)];rfl
 have hal:(alV w).length<1000000:=by have:=(ZhR w).len; omega
 have hi:ZnS (eIx (Zo 1) (eC (.int 1))) [some (.pl w.d),some (.pl p.d),some (.pl (tupI c)),none]=some ((alV w).map λl=>ZAJ [dI l,dI (lP p l)]):=by rw[<-hen];rfl
 have hg:Zdg ZN (Za9 (Zc (Za9 (Zc (eC (.str (ZAX "look"))) (Zc (Za 0) (Zc (Za 1) Zi)))) (Zc (Zm Zar (Zc (Za 2) (Zc (Za9 (Zc (Za 0) Zi)) (Zc (Za 4) Zi)))) Zi))) [some (.pl w.d),some (.pl p.d),some (.pl (tupI c)),none] ((alV w).map λl=>ZAJ [dI l,dI (lP p l)])=some (((alV w).map (Zax w p c)).map wyD):=by
  have:=Zha (c:=ZN) (e:=Za9 (Zc (Za9 (Zc (eC (.str (ZAX "look"))) (Zc (Za 0) (Zc (Za 1) Zi)))) (Zc (Zm Zar (Zc (Za 2) (Zc (Za9 (Zc (Za 0) Zi)) (Zc (Za 4) Zi)))) Zi))) (r:=[some (.pl w.d),some (.pl p.d),some (.pl (tupI c)),none]) dI (λl=>dI (lP p l)) (λ_=>true) (λl=>wyD (Zax w p c l)) (alV w) (λ_ _=>rfl) λl hl _=>by obtain⟨l0,l1⟩:=Zvu hl;have ha:Zar [w.d,.tuple [dI l],tupI c]=some (.list ((Z5 w [l] c).map ZaL)):=Zhc hv (ZtK l0 l1) hc;simp[ha];rfl
  rw[ZBw.mpr λ_ _=>rfl]at this;rw[ZAe];exact this
 have hy:∀y∈(alV w).map (Zax w p c),y.2.length<1000:=λy hy=>by obtain⟨l,_,rfl⟩:=Zz1.mp hy;have:=split_len (w:=w) (ls:=[l]) (c:=c);have:=hc.len;have:=hv.m2;show(Z5 w [l] c).length<1000;omega
 have hf:Zap (tV (op2 gGt (Zaf (bOf (eIx (Zo 0) (eC (.int 1))))) (eC (.int 1)))) (Za 0) [some (.pl w.d),some (.pl p.d),some (.pl (tupI c)),some (.pl (.list (((alV w).map (Zax w p c)).map wyD)))] (((alV w).map (Zax w p c)).map wyD)=some ((((alV w).map (Zax w p c)).filter λy=>decide (1<y.2.length)).map wyD):=by refine ZbZ wyD (λy=>decide (1<y.2.length)) wyD _ (λy _=>?_) λy _ _=>rfl;show some (decide (((1:Int))<(((y.2.map ZaL).length:Nat):Int)))=_;rw[ZzP];congr 1;rw[decide_eq_decide];omega
 show Z2 (ZeA [some (.pl w.d),some (.pl p.d),some (.pl (tupI c)),none])=_;unfold ZeA;refine ZO (P:=λq=>Z2 q=_) (r':=[some (.pl w.d),some (.pl p.d),some (.pl (tupI c)),some (.ol (((alV w).map (Zax w p c)).map wyD))]) ?_ ?_
 ·unfold ZW ZdH
  rw[hi];dsimp only;rw[if_pos (by rw[ZzP]; exact hal),hg];rfl
 ·show Z2 (ZE (eOf (ZK (ZS (bOf (Za 3))) _ (Za 0))) [some (.pl w.d),some (.pl p.d),some (.pl (tupI c)),some (.pl (.list (((alV w).map (Zax w p c)).map wyD)))])=_
  have hq:=ZgI (I:=ZS (bOf (Za 3))) (r:=[some (.pl w.d),some (.pl p.d),some (.pl (tupI c)),some (.pl (.list (((alV w).map (Zax w p c)).map wyD)))]) rfl (by rw[ZzP,ZzP]; exact hal) hf;unfold ZE eOf;rw[hq];rfl
theorem ZmC(hc:Cr w.many c):ZaN [w.d,p.d,tupI c]=some (.list ((wfB w p c).map wyD)):=by
 have h1:=ZlO hv hp hc;have h2:=Zlz hv hp hc;have hb:(doV w c).length<1000:=by have:=Ze5 w c; have:=hv.d2; omega
 have hal:(alV w).length<1000:=by have:=(ZhR w).len; have:=hv.l2; omega
 have hfl:=ZAu (λy:Wy=>decide (1<y.2.length)) ((alV w).map (Zax w p c));rw[ZzP]at hfl;unfold wfB;rw[ZAq];generalize hA:((doV w c).map (doY w p c)).map wyD=A at h1 ⊢;generalize hB:(((alV w).map (Zax w p c)).filter λy=>decide (1<y.2.length)).map wyD=B at h2 ⊢;have lA:A.length<1000:=by rw[<-hA,ZzP,ZzP]; exact hb
 have lB:B.length<1000:=by rw[<-hB,ZzP]; omega
 have hz:A.length+B.length<1000000:=by omega
 simp[ZaN,ZhO,h1,h2,hz]
end
end HG23
namespace HG23
open PySem HM
open HG
open HG4
open HG5
variable{c:List Int}{y:Wy}
theorem Zfb{w:Wk}{p:Pr}(h:y∈wfB w p c):(∃d∈doV w c,y=doY w p c d)\/∃l∈alV w,y=Zax w p c l/\1<y.2.length:=by
 rcases ZAp.mp h with h | h
 ·obtain⟨d,hd,rfl⟩:=Zz1.mp h
  exact .inl ⟨d,hd,rfl⟩
 ·obtain⟨h1,h2⟩:=ZAh.mp h
  obtain⟨l,hl,rfl⟩:=Zz1.mp h1;exact .inr ⟨l,hl,rfl,of_decide_eq_true h2⟩
theorem Zo5(w:Wk)(p:Pr)(c:List Int)(d:Int):wyP (doY w p c d)=Zx w [] (ZY w c d):=rfl
theorem Zva(w:Wk)(p:Pr)(c:List Int)(l:Int):wyP (Zax w p c l)=Zx w [l] c:=rfl
structure ApB(ap:AP):Prop where
 d:ApD ap
 p5:∀ds,ap 5 [] ds=Zdb ds
 l6:∀cs ds,ap 6 cs ds=Zhe 1 2 (Zm ZaN (Zc (Za 1) (Zc (Za 2) (Zc (Za 0) Zi)))) cs ds
def Chp(w:Wk)(p:Pr)(d:D):Prop:=(∃n:Nat,d=.int n/\Zd9 w (wfB w p) w.beg n)\/(d=.none/\∀n,¬Buy w (wfB w p) n w.beg)
section
variable{w:Wk}(hv:Wk.V w)(h7:w.many<=7){p:Pr}(hp:p.V w)
include hv h7
omit hv h7 in
theorem ZmU(h:y∈wfB w p c):∃a b k,y.1=.tuple [a,b,.int k]/\noF 17 y.1=true:=by
 rcases Zfb h with⟨d,_,rfl⟩ | ⟨l,_,rfl,_⟩
 ·exact⟨_,_,_,rfl,rfl⟩
 ·exact⟨_,_,_,rfl,rfl⟩
theorem Ztq:ZoH (wfB w p) (OkC w):=by
 refine⟨λc hc y hy q hq=>?_,λc hc=>?_,λc hc y hy=>?_,λC hn hC=>?_⟩
 ·rcases Zfb hy with⟨d,hd,rfl⟩ | ⟨l,hl,rfl,_⟩
  ·obtain⟨d0,d1,_⟩:=Zbs hd
   have:=Zep (ZdR hv hc.1 d0 d1) (show q∈Zx w [] (ZY w c d) from hq);exact⟨this.1,this.2.1⟩
  ·have:=Zep hc.1 (show q∈Zx w [l] c from hq)
   exact⟨this.1,this.2.1⟩
 ·unfold wfB
  rw[ZAb,ZzP];have h1:=Ze5 w c;have h2:=hv.d2;have h3:=ZAu (λy:Wy=>decide (1<y.2.length)) ((alV w).map (Zax w p c));rw[ZzP]at h3;have h4:=(ZhR w).len;have h5:=hv.l2;omega
 ·rcases Zfb hy with⟨d,hd,rfl⟩ | ⟨l,hl,rfl,_⟩
  ·obtain⟨d0,d1,_⟩:=Zbs hd
   have:=split_len (w:=w) (ls:=[]) (c:=ZY w c d);have:=(ZdR hv hc.1 d0 d1).len;show(Z5 w [] (ZY w c d)).length<=8;omega
  ·have:=split_len (w:=w) (ls:=[l]) (c:=c)
   have:=hc.1.len;show(Z5 w [l] c).length<=8;omega
 ·have h1:=Zip hn λc hc=>(hC c hc).1
  have h2:2 ^ w.many<=2 ^ 7:=ZDz (by decide) h7;have h3:2 ^ 7=128:=rfl;omega
omit hv h7 in
theorem ZtC(hc:c≠[])(hy:y∈wfB w p c):wyP y≠[]:=by
 rcases Zfb hy with⟨d,hd,rfl⟩ | ⟨l,hl,rfl,h1⟩
 ·exact Zfj (ZgE hc (Zbs hd).2.2)
 ·intro z
  have:(wyP (Zax w p c l)).length=(Zax w p c l).2.length:=by unfold wyP; rw[ZzP]
  rw[z]at this;rw[<-this]at h1;cases h1
include hp
omit hv h7 in
theorem ZxU(hy:y∈wfB w p c):∃k:Nat,prY y=(k:Int)/\1<=k:=by
 rcases Zfb hy with⟨d,hd,rfl⟩ | ⟨l,hl,rfl,h1⟩
 ·obtain⟨d0,d1,_⟩:=Zbs hd
  have:=Zxn hp d0 d1;exact⟨(dP p d).toNat,by rw[Zpd]; omega,by omega⟩
 ·obtain⟨l0,l1⟩:=Zvu hl
  have:=Zxw hp l0 l1;exact⟨(lP p l).toNat,by rw[Zlb]; omega,by omega⟩
omit hv h7 in
theorem gdB{L:List (List Int)}(cl:Zkf (wfB w p) L)(ne:∀c∈L,c≠[]):Gd (wfB w p) L:=⟨cl,λc hc y hy=>ZtC (ne c hc) hy,λc hc y hy=>ZxU hp hy⟩
omit hp hv h7 in
theorem ZqQ(hy:y.2.length<1000)(h0:y.2≠[])(hk:∃a b k,y.1=.tuple [a,b,.int k])(M:Tb):Zdb [wyD y,.dict (Zn (encM M))]=some (oI (cbP y M)):=by
 have h:=Zei hy h0 (M:=M);have h':ZR [.list (y.2.map ZaL),.dict (Zn (encM M))]=some (oI (ZaR (wyP y) M)):=h;obtain⟨a,b,k,hk⟩:=hk;have hpr:prY y=k:=by unfold prY; rw[hk]
 show Z2 (Zhl [some (.pl (wyD y)),some (.pl (.dict (Zn (encM M)))),none])=_;unfold Zhl cbP;rw[hpr];refine ZO (P:=λq=>Z2 q=_) (r':=[some (.pl (wyD y)),some (.pl (.dict (Zn (encM M)))),some (.pl (oI (ZaR (wyP y) M)))]) ?_ ?_
 ·unfold Z4 Zm
  show ZBC _ (ZR [.list (y.2.map ZaL),.dict (Zn (encM M))])=_;rw[h'];rfl
 ·unfold wyD
  rw[hk];cases ZaR (wyP y) M<;>rfl
theorem ZsW{ap:AP}(A:ApB ap):∃L,Zbj ap [w.d,p.d]=some (.dict (Zn (Zw (wfB w p) L)))/\ZfR (wfB w p) (OkC w) [w.beg] L []:=by
 have O:=Ztq hv h7 (p:=p);have ha:∀c,OkC w c->ap 6 [w.d,p.d] [tupI c]=some (.list ((wfB w p c).map wyD)):=λc hc=>by rw[A.l6];unfold Zhe;rw[if_pos ⟨rfl,rfl,by rw[ZAV,ZcL 19]; rfl⟩];exact ZmC hv hp hc.1
 obtain⟨L,e,J⟩:=ZlB O ha (B:=[w.beg]) (λc h=>by rw[Zz0.mp h]; exact⟨hv.bc,hv.b1⟩) (by simp);refine⟨L,?_,J⟩;have h1:eOf (Zdj (Zc (Zm Zbo (Zc (Za 0) Zi)) Zi)) [some (.pl w.d),some (.pl p.d)]=some (.list ([w.beg].map tupI)):=by have hb:=ZhE w;simp[hb]
 have hpd:noF 20 p.d=true:=ZdI λd hd=>by
  rcases Zz7.mp hd with e | hd
  ·subst e; exact ZcL 18 _
  ·rw[Zz0.mp hd]; exact ZcL 18 _
 have hn1:[w.d,p.d].all (noF 20)=true:=by rw[ZAV,ZAV,ZvG,hpd];rfl
 have hn2:noF 20 (.dict (Zn (Zw (wfB w p) L)))=true:=ZvH (n:=14) λc _ y hy=>(ZmU hy).choose_spec.choose_spec.choose_spec.2;show Z2 (Zdz ap [some (.pl w.d),some (.pl p.d)])=_;unfold Zdz ZE Zfe;rw[h1];show Z2 (ZBC Out.rt (if[w.d,p.d].all (noF 20)=true then(match ZaO ap [.list ([w.beg].map tupI),fnD 6 [w.d,p.d]]with | some d=>if noF 20 d=true then some d else none | none=>none)else none))=_;rw[if_pos hn1,e];dsimp only;rw[if_pos hn2];rfl
theorem Ztl{ap:AP}(A:ApB ap):∃L R,Zbj ap [w.d,p.d]=some (.dict (Zn (Zw (wfB w p) L)))/\ZbI ap [w.d,.dict (Zn (Zw (wfB w p) L)),fnD 5 []]=some (.dict (Zn (encM R)))/\ZfR (wfB w p) (OkC w) [w.beg] L []/\Gd (wfB w p) L/\Zlc w (wfB w p) L R/\w.beg∈L:=by
 have O:=Ztq hv h7 (p:=p);obtain⟨L,e1,J⟩:=ZsW hv h7 hp A;have cl:Zkf (wfB w p) L:=λc hc y hy q hq=>(J.cl c hc y hy q hq).elim id λz=>by simp at z
 have G:=gdB hp cl λc hc=>(J.cr c hc).2;have hbl:w.beg∈L:=(J.bg w.beg (Zz0.mpr rfl)).elim id λz=>by simp at z
 obtain⟨R,e,r⟩:=ZkD hv (ap:=ap) (wf:=wfB w p) (t:=5) (cs:=[]) (cb:=cbP) J.nd (O.cs L J.nd J.cr) (λc hc=>(J.cr c hc).1) (λc hc=>by have:=O.ys c (J.cr c hc); omega) λc hc y hy M=>by
  rw[A.p5];refine ZqQ (by have:=O.ps c (J.cr c hc) y hy; omega) (λz=>?_) ?_ M
  ·refine G.ne c hc y hy ?_
   unfold wyP;rw[z];rfl
  ·obtain⟨a,b,k,h,_⟩:=ZmU hy
   exact⟨a,b,k,h⟩
 exact⟨L,R,e1,e,J,G,Zs4 G r,hbl⟩
theorem ZqJ{ap:AP}(A:ApB ap):∃d,ZdZ ap [w.d,p.d]=some d/\Chp w p d:=by
 obtain⟨L,R,e1,e2,J,G,F,hbl⟩:=Ztl hv h7 hp A;have hc1:=Ziw hv;have hc2:=Zkp hv hp;have hb:=ZhE w;refine⟨oI (Zg R w.beg),?_,?_⟩
 ·show Z2 (Zhm ap [some (.pl w.d),some (.pl p.d),none])=_
  unfold Zhm;refine ZO (P:=λq=>Z2 q=_) (r':=[some (.pl w.d),some (.pl p.d),none]) (by simp[hc1]) ?_;refine ZO (P:=λq=>Z2 q=_) (r':=[some (.pl w.d),some (.pl p.d),none]) (by simp[hc2]) ?_;refine ZO (P:=λq=>Z2 q=_) (r':=[some (.pl w.d),some (.pl p.d),some (.pl (.dict (Zn (encM R))))]) (by simp[e1,e2]) ?_;have hk:Za1 (tupI w.beg)=some (Zab w.beg):=ZaD w.beg;have hlk:=Zb7 R w.beg;simp[hb,dec_enc,hk,hlk];cases Zg R w.beg<;>rfl
 ·rcases F.at_ hbl with⟨n,h1,h2⟩ | ⟨h1,h2⟩
  ·rw[h1]; exact .inl ⟨n,rfl,h2⟩
  ·rw[h1]; exact .inr ⟨rfl,h2⟩
end
end HG23
namespace HG23
open PySem HM
open HG
open HG4
open HG5
variable{c:List Int}
def prV(w:Wk)(c:Int):Pr:=⟨(ZzX w.deeds.length).map λ(k:Nat)=>1+ZT (c+37*(k:Int)) 9817 9,(ZzX w.looks.length).map λ(k:Nat)=>1+ZT (c+41*(k:Int)+7) 9811 9⟩
theorem ZvE(w:Wk)(c:Int):(∀x∈(prV w c).ds,1<=x/\x<=9)/\∀x∈(prV w c).ls,1<=x/\x<=9:=by
 refine⟨λx hx=>?_,λx hx=>?_⟩
 ·obtain⟨k,_,rfl⟩:=Zz1.mp hx
  have:=Zaw (c+37*(k:Int)) 9817 9 (by decide);omega
 ·obtain⟨k,_,rfl⟩:=Zz1.mp hx
  have:=Zaw (c+41*(k:Int)+7) 9811 9 (by decide);omega
theorem ZyH(w:Wk)(c:Int):(prV w c).V w :=
 ⟨by unfold prV; rw[ZzP,ZAN],by unfold prV; rw[ZzP,ZAN],λx hx=>by have:=(ZvE w c).1 x hx; omega,λx hx=>by have:=(ZvE w c).2 x hx; omega⟩
theorem ZnL{w:Wk}(hv:Wk.V w)(c:Int):Zc1 [w.d,.int c]=some (prV w c).d:=by
 have hd:=hv.d2;have hl:=hv.l2;have hok1:okR (w.deeds.length:Int)=true:=ZcM (by omega);have hok2:okR (w.looks.length:Int)=true:=ZcM (by omega);have hb1:w.deeds.length<1000000:=by omega
 have hb2:w.looks.length<1000000:=by omega
 show Z2 (ZfH [some (.pl w.d),some (.pl (.int c)),none,none])=_;unfold ZfH;refine ZO (P:=λq=>Z2 q=_) (r':=[some (.pl w.d),some (.pl (.int c)),some (.pl (tupI (prV w c).ds)),none]) ?_ ?_
 ·have h1:Za6 (Zaf (bOf (eIx (Zo 0) (eC (.int 1))))) [some (.pl w.d),some (.pl (.int c)),none,none]=some ((ZzX w.deeds.length).map dN):=by
   have h0:Zaf (bOf (eIx (Zo 0) (eC (.int 1)))) [some (.pl w.d),some (.pl (.int c)),none,none]=some (.int w.deeds.length):=by show some (ZAx (((w.deeds.map ZZ).length:Nat):Int))=_;rw[ZzP]
   unfold Za6;rw[h0];dsimp only;rw[hok1,if_pos rfl,ZA9,Zae]
  have h2:=ZgI (c:=ZN) (e:=op2 ZaE (eC (.int 1)) (Zm ZI (Zc (op2 ZaE (Za 2) (op2 Zcv (eC (.int 37)) (Za 0))) (Zc (eC (.int 9817)) (Zc (eC (.int 9)) Zi))))) h1 (by rw[ZzP,ZAN]; exact hb1) (Za0 dN (λk=>dI (1+ZT (c+37*(k:Int)) 9817 9)) _ λk _=>by have m:=Zcf (c+37*(k:Int)) 9817 9 (by decide) (by decide);simp[m]);unfold Z4 Zan;rw[h2,show tupI (prV w c).ds=.tuple ((ZzX w.deeds.length).map λ(k:Nat)=>dI (1+ZT (c+37*(k:Int)) 9817 9)) by unfold prV tupI; rw[ZAe]; rfl];rfl
 refine ZO (P:=λq=>Z2 q=_) (r':=[some (.pl w.d),some (.pl (.int c)),some (.pl (tupI (prV w c).ds)),some (.pl (tupI (prV w c).ls))]) ?_ rfl;have h1:Za6 (Zaf (bOf (eIx (Zo 0) (eC (.int 2))))) [some (.pl w.d),some (.pl (.int c)),some (.pl (tupI (prV w c).ds)),none]=some ((ZzX w.looks.length).map dN):=by
  have h0:Zaf (bOf (eIx (Zo 0) (eC (.int 2)))) [some (.pl w.d),some (.pl (.int c)),some (.pl (tupI (prV w c).ds)),none]=some (.int w.looks.length):=by show some (ZAx (((w.looks.map tupI).length:Nat):Int))=_;rw[ZzP]
  unfold Za6;rw[h0];dsimp only;rw[hok2,if_pos rfl,ZA9,Zae]
 have h2:=ZgI (c:=ZN) (e:=op2 ZaE (eC (.int 1)) (Zm ZI (Zc (op2 ZaE (op2 ZaE (Za 2) (op2 Zcv (eC (.int 41)) (Za 0))) (eC (.int 7))) (Zc (eC (.int 9811)) (Zc (eC (.int 9)) Zi))))) h1 (by rw[ZzP,ZAN]; exact hb2) (Za0 dN (λk=>dI (1+ZT (c+41*(k:Int)+7) 9811 9)) _ λk _=>by have m:=Zcf (c+41*(k:Int)+7) 9811 9 (by decide) (by decide);simp[m]);unfold Z4 Zan;rw[h2,show tupI (prV w c).ls=.tuple ((ZzX w.looks.length).map λ(k:Nat)=>dI (1+ZT (c+41*(k:Int)+7) 9811 9)) by unfold prV tupI; rw[ZAe]; rfl];rfl
def Zdi(y:Wy):D:=.tuple [.int (prY y),.list ((wyP y).map tupI)]
theorem Zuh{α:Type}{a:α}:∀{l:List α},l.Nodup->l≠[]->(∀x∈l,x=a)->l=[a]
 | [],_,h,_=>absurd rfl h
 | [x],_,_,h=>by rw[h x (Zz0.mpr rfl)]
 | x::y::l,hn,_,h=>by have h1:=h x (ZzT ..);have h2:=h y (ZzU _ (ZzT ..));rw[h1,h2]at hn;simp at hn
theorem parts_nil(w:Wk)(hc:c≠[]):Zx w [] c=[c]:=by refine Zuh (ZhH w [] c) (Zfj hc) λx hx=>?_;obtain⟨s,_,rfl⟩:=Zbk.mp hx;exact ZBw.mpr λ_ _=>beq_self_eq_true _
section
variable{w:Wk}(hv:Wk.V w)(h7:w.many<=7){p:Pr}(hp:p.V w)
include hv h7 hp
theorem ZkG(hc:OkC w c):Zb5 [w.d,p.d,tupI c]=some (.list ((wfB w p c).map Zdi)):=by
 have hd2:=hv.d2;have hl2:=hv.l2;have hcl:=hc.1.len;have hok1:okR (w.deeds.length:Int)=true:=ZcM (by omega);have hok2:okR (w.looks.length:Int)=true:=ZcM (by omega);have pre_len:∀{n:Nat} {pre post:List Nat} {x:Nat},ZzX n=pre++x::post->x<n/\pre.length<n:=λ{n pre post x} e=>by
  have h1:x∈ZzX n:=by rw[e]; exact ZAg _ (ZzT ..)
  have h2:=congrArg ZAF e;rw[ZAN,ZAb,Zz8]at h2;exact⟨ZAi.mp h1,by omega⟩
 obtain⟨r1,g1,o4,o5,e1⟩:=Ze8 (i:=4) (body:=ZeC) dN (λ(pre:List Nat) (r:HM.Env)=>∃o4 o5,r=[some (.pl w.d),some (.pl p.d),some (.pl (tupI c)),some (.ol ((pre.filter λ(d:Nat)=>Zad w c (d:Int)).map λ(d:Nat)=>Zdi (doY w p c (d:Int)))),o4,o5,none,none]) (ZzX w.deeds.length) [some (.pl w.d),some (.pl p.d),some (.pl (tupI c)),some (.ol []),none,none,none,none] ⟨none,none,rfl⟩ λpre d post r e ⟨o4,o5,er⟩=>by
  obtain⟨hd,hpl⟩:=pre_len e;have hled:=Zr4 hv h7 hc.1 (show(0:Int)<=(d:Int) by omega) (by omega);have hfl:=ZAu (λ(d:Nat)=>Zad w c (d:Int)) pre;subst er;unfold Zvj at hled;rw[ZDN,ZAq];cases can:Zad w c d with
  | false =>
   rw[can]at hled;refine⟨[some (.pl w.d),some (.pl p.d),some (.pl (tupI c)),some (.ol ((pre.filter λ(d:Nat)=>Zad w c (d:Int)).map λ(d:Nat)=>Zdi (doY w p c (d:Int)))),some (.pl (dN d)),some (.pl .none),none,none],?_,some (.pl (dN d)),some (.pl .none),?_⟩
   ·simp[ZeC,hled]
   ·rw[ZA5,if_neg (by rw[can]; decide)]
    simp
  | true =>
   rw[can]at hled;have ha:=(ZjJ (xs:=p.ds) (i:=(d:Int)) (by omega) (by rw[hp.dl]; omega)).1;have ha':∀o5 acc,eIx (bOf (eIx (Zo 1) (eC (.int 0)))) (Za 4) [some (.pl w.d),some (.pl p.d),some (.pl (tupI c)),some (.ol acc),some (.pl (dN d)),o5,none,none]=some (.int (dP p d)):=λ_ _=>ha;have hpn:wyP (doY w p c d)=[ZY w c d]:=by rw[Zo5]; exact parts_nil w (ZgE hc.2 can)
   refine⟨[some (.pl w.d),some (.pl p.d),some (.pl (tupI c)),some (.ol (((pre.filter λ(d:Nat)=>Zad w c (d:Int)).map λ(d:Nat)=>Zdi (doY w p c (d:Int)))++[Zdi (doY w p c d)])),some (.pl (dN d)),some (.pl (tupI (ZY w c d))),none,none],?_,some (.pl (dN d)),some (.pl (tupI (ZY w c d))),?_⟩
   ·have hal:((pre.filter λ(d:Nat)=>Zad w c (d:Int)).map λ(d:Nat)=>Zdi (doY w p c (d:Int))).length<1000000:=by rw[ZzP]; omega
    generalize ((pre.filter λ(d:Nat)=>Zad w c (d:Int)).map λ(d:Nat)=>Zdi (doY w p c (d:Int)))=acc at hal ⊢;have ha2:=ha' (some (.pl (tupI (ZY w c d)))) acc;unfold ZeC;generalize eIx (bOf (eIx (Zo 1) (eC (.int 0)))) (Za 4)=E at ha2 ⊢;unfold Zdi;rw[hpn,Zpd];simp[hled,ha2,hal]
   ·rw[ZA5,if_pos can]
    rfl
 obtain⟨r2,g2,o6,o7,e2⟩:=Ze8 (i:=6) (body:=ZeB) dN (λ(pre:List Nat) (r:HM.Env)=>∃o6 o7,r=[some (.pl w.d),some (.pl p.d),some (.pl (tupI c)),some (.ol ((((ZzX w.deeds.length).filter λ(d:Nat)=>Zad w c (d:Int)).map λ(d:Nat)=>Zdi (doY w p c (d:Int)))++(pre.filter λ(l:Nat)=>decide (1<(Zax w p c (l:Int)).2.length)).map λ(l:Nat)=>Zdi (Zax w p c (l:Int)))),o4,o5,o6,o7]) (ZzX w.looks.length) r1 ⟨none,none,by rw[e1]; simp⟩ λpre l post r e ⟨o6,o7,er⟩=>by
  obtain⟨hd,hpl⟩:=pre_len e;have hfl:=ZAu (λ(l:Nat)=>decide (1<(Zax w p c (l:Int)).2.length)) pre;have hfl2:=ZAu (λ(d:Nat)=>Zad w c (d:Int)) (ZzX w.deeds.length);rw[ZAN]at hfl2;subst er;rw[ZDN,ZAq,<-ZA8];have hal:((((ZzX w.deeds.length).filter λ(d:Nat)=>Zad w c (d:Int)).map λ(d:Nat)=>Zdi (doY w p c (d:Int)))++(pre.filter λ(l:Nat)=>decide (1<(Zax w p c (l:Int)).2.length)).map λ(l:Nat)=>Zdi (Zax w p c (l:Int))).length<1000000:=by rw[ZAb,ZzP,ZzP]; omega
  generalize ((((ZzX w.deeds.length).filter λ(d:Nat)=>Zad w c (d:Int)).map λ(d:Nat)=>Zdi (doY w p c (d:Int)))++(pre.filter λ(l:Nat)=>decide (1<(Zax w p c (l:Int)).2.length)).map λ(l:Nat)=>Zdi (Zax w p c (l:Int)))=acc at hal ⊢;have hs:=Zpr hv (ZtK (n:=w.looks.length) (l:=(l:Int)) (by omega) (by omega)) hc.1;have hs':ZbP [w.d,.tuple [dN l],tupI c]=some (.list ((Z5 w [(l:Int)] c).map ZaL)):=hs;have hsn:=split_len (w:=w) (ls:=[(l:Int)]) (c:=c);have hpl2:(Zx w [(l:Int)] c).length=(Z5 w [(l:Int)] c).length:=by unfold Zx; rw[ZzP]
  have hg:∀r:HM.Env,Zdg ZN (Za 1) r ((Z5 w [(l:Int)] c).map ZaL)=some ((Zx w [(l:Int)] c).map tupI):=λr=>by have e:=Zha (c:=ZN) (e:=Za 1) (r:=r) (λp:List Int × List Int=>tupI p.1) (λp=>tupI p.2) (λ_=>true) (λp=>tupI p.2) (Z5 w [(l:Int)] c) (λp _=>rfl) (λp _ _=>by simp);rw[ZBw.mpr λ_ _=>rfl]at e;unfold Zx;rw[ZAe];exact e
  have h1:ZW 7 (ZdH (ZS (bOf (Zm ZbP (Zc (Za 0) (Zc (Za9 (Zc (Za 6) Zi)) (Zc (Za 2) Zi)))))) ZN (Za 1)) [some (.pl w.d),some (.pl p.d),some (.pl (tupI c)),some (.ol acc),o4,o5,some (.pl (dN l)),o7]=some (.nx [some (.pl w.d),some (.pl p.d),some (.pl (tupI c)),some (.ol acc),o4,o5,some (.pl (dN l)),some (.ol ((Zx w [(l:Int)] c).map tupI))]):=by
   have hb:(Z5 w [(l:Int)] c).length<1000000:=by omega
   simp[hs',hg,hb]
  have ha:=(ZjJ (xs:=p.ls) (i:=(l:Int)) (by omega) (by rw[hp.ll]; omega)).1;have ha':eIx (bOf (eIx (Zo 1) (eC (.int 1)))) (Za 6) [some (.pl w.d),some (.pl p.d),some (.pl (tupI c)),some (.ol acc),o4,o5,some (.pl (dN l)),some (.pl (.list ((Zx w [(l:Int)] c).map tupI)))]=some (.int (lP p l)):=ha;have ht:tV (op2 gGt (Zaf (Zo 7)) (eC (.int 1))) [some (.pl w.d),some (.pl p.d),some (.pl (tupI c)),some (.ol acc),o4,o5,some (.pl (dN l)),some (.ol ((Zx w [(l:Int)] c).map tupI))]=some (decide (1<(Zax w p c (l:Int)).2.length)):=by show some (decide ((1:Int)<((((Zx w [(l:Int)] c).map tupI).length:Nat):Int)))=some (decide (1<(Z5 w [(l:Int)] c).length));rw[ZzP,hpl2];congr 1;rw[decide_eq_decide];omega
  cases hq:decide (1<(Zax w p c (l:Int)).2.length)with
  | false =>
   rw[hq]at ht;refine⟨[some (.pl w.d),some (.pl p.d),some (.pl (tupI c)),some (.ol acc),o4,o5,some (.pl (dN l)),some (.ol ((Zx w [(l:Int)] c).map tupI))],?_,some (.pl (dN l)),some (.ol ((Zx w [(l:Int)] c).map tupI)),?_⟩
   ·unfold ZeB
    refine ZO (P:=λq=>q=_) h1 ?_;unfold sIf;rw[ht];rfl
   ·rw[ZA5,if_neg (by rw[hq]; decide)]
    simp
  | true =>
   rw[hq]at ht;refine⟨[some (.pl w.d),some (.pl p.d),some (.pl (tupI c)),some (.ol (acc++[Zdi (Zax w p c l)])),o4,o5,some (.pl (dN l)),some (.pl (.list ((Zx w [(l:Int)] c).map tupI)))],?_,some (.pl (dN l)),some (.pl (.list ((Zx w [(l:Int)] c).map tupI))),?_⟩
   ·unfold ZeB
    refine ZO (P:=λq=>q=_) h1 ?_;unfold sIf;rw[ht];show Zdf 3 _ [some (.pl w.d),some (.pl p.d),some (.pl (tupI c)),some (.ol acc),o4,o5,some (.pl (dN l)),some (.pl (.list ((Zx w [(l:Int)] c).map tupI)))]=_;generalize eIx (bOf (eIx (Zo 1) (eC (.int 1)))) (Za 6)=E at ha' ⊢;unfold Zdi;rw[Zva,Zlb];simp[ha',hal]
   ·rw[ZA5,if_pos hq]
    rfl
 show Z2 (Zhn [some (.pl w.d),some (.pl p.d),some (.pl (tupI c)),none,none,none,none,none])=_;unfold Zhn;refine ZO (P:=λq=>Z2 q=_) (r':=[some (.pl w.d),some (.pl p.d),some (.pl (tupI c)),some (.ol []),none,none,none,none]) rfl ?_;refine ZO (P:=λq=>Z2 q=_) (r':=r1) ?_ ?_
 ·have h0:Za6 (Zaf (bOf (eIx (Zo 0) (eC (.int 1))))) [some (.pl w.d),some (.pl p.d),some (.pl (tupI c)),some (.ol []),none,none,none,none]=some ((ZzX w.deeds.length).map dN):=by
   have h0:Zaf (bOf (eIx (Zo 0) (eC (.int 1)))) [some (.pl w.d),some (.pl p.d),some (.pl (tupI c)),some (.ol []),none,none,none,none]=some (.int w.deeds.length):=by show some (ZAx (((w.deeds.map ZZ).length:Nat):Int))=_;rw[ZzP]
   unfold Za6;rw[h0];dsimp only;rw[hok1,if_pos rfl,ZA9,Zae]
  unfold Zba;rw[h0];dsimp only;rw[if_pos (by rw[ZzP,ZAN]; show _<1000000; omega)];exact g1
 refine ZO (P:=λq=>Z2 q=_) (r':=r2) ?_ ?_
 ·have h0:Za6 (Zaf (bOf (eIx (Zo 0) (eC (.int 2))))) r1=some ((ZzX w.looks.length).map dN):=by
   have h0:Zaf (bOf (eIx (Zo 0) (eC (.int 2)))) r1=some (.int w.looks.length):=by rw[e1];show some (ZAx (((w.looks.map tupI).length:Nat):Int))=_;rw[ZzP]
   unfold Za6;rw[h0];dsimp only;rw[hok2,if_pos rfl,ZA9,Zae]
  unfold Zba;rw[h0];dsimp only;rw[if_pos (by rw[ZzP,ZAN]; show _<1000000; omega)];exact g2
 rw[e2];show some (ZEz _)=_;congr 2;unfold wfB doV alV;rw[ZAq,ZAe,ZAe,ZAe,List.filter_map,ZAe];rfl
end
end HG23
namespace HG23
open PySem HM
open HG
open HG4
open HG5
variable{L:List (List Int)}{c:List Int}{w:Wk}{y:Wy}
theorem ZpY{α:Type}{i j:Nat}{body:SF}(a b:α->D)(P:List α->HM.Env->Prop)(xs:List α)(r:HM.Env)(h0:P [] r)
  (hs:∀pre x post r,xs=pre++x::post->P pre r->∃r',body ((r.set i (some (.pl (a x)))).set j (some (.pl (b x))))=some (.nx r')/\P (pre++[x]) r'):∃r',Zd0 i j body (xs.map λx=>.tuple [a x,b x]) r=some (.nx r')/\P xs r':=by
 have key:∀(post pre:List α) (r:HM.Env),xs=pre++post->P pre r->∃r',Zd0 i j body (post.map λx=>.tuple [a x,b x]) r=some (.nx r')/\P xs r':=by
  intro post
  induction post with
  | nil=>intro pre r e h; rw[ZAE]at e; subst e; exact⟨r,rfl,h⟩
  | cons x post ih=>intro pre r e h;obtain⟨r1,h1,h2⟩:=hs pre x post r e h;obtain⟨r2,h3,h4⟩:=ih (pre++[x]) r1 (by rw[e,ZA8]; rfl) h2;refine⟨r2,?_,h4⟩;rw[ZzZ];unfold Zd0;rw[h1];exact h3
 exact key xs [] r rfl h0
structure IvL(w:Wk)(L:List (List Int)):Prop where
 nd:L.Nodup
 cr:∀c∈L,OkC w c
theorem IvL.len(I:IvL w L)(h7:w.many<=7):L.length<=128:=by have h1:=Zip I.nd λc hc=>(I.cr c hc).1;have h2:2 ^ w.many<=2 ^ 7:=ZDz (by decide) h7;have h3:2 ^ 7=128:=rfl;omega
def ZcW(L:List (List Int))(y:Wy):List (List Int):=L++(wyP y).filter λq=>!L.contains q
theorem ZtY{q:List Int}(h:q∈wyP y):q∈ZcW L y:=by
 unfold ZcW
 by_cases hq:q∈L
 ·exact ZAv _ hq
 ·exact ZAg _ (ZAh.mpr ⟨h,by simp[hq]⟩)
theorem ZsM(I:IvL w L)(hn:(wyP y).Nodup)(hy:∀q∈wyP y,OkC w q):IvL w (ZcW L y):=by
 refine⟨?_,λc hc=>?_⟩
 ·unfold ZcW
  rw[ZCd];refine⟨I.nd,hn.filter _,λa ha b hb e=>?_⟩;subst e;have:=(ZAh.mp hb).2;simp[ha]at this
 ·rcases ZAp.mp hc with h | h
  ·exact I.cr c h
  ·exact hy c (ZAh.mp h).1
theorem ZrV{w:Wk}:∀(ys:List Wy) (L:List (List Int)),IvL w L->(∀y∈ys,(wyP y).Nodup/\∀q∈wyP y,OkC w q)->IvL w (ys.foldl ZcW L)/\(∃N,ys.foldl ZcW L=L++N)/\∀y∈ys,∀q∈wyP y,q∈ys.foldl ZcW L
 | [],L,I,_=>⟨I,⟨[],by simp⟩,λy hy=>by simp at hy⟩
 | y::ys,L,I,h=>by
  obtain⟨h1,h2⟩:=h y (ZzT ..);obtain⟨a,⟨N,b⟩,c⟩:=ZrV ys (ZcW L y) (ZsM I h1 h2) λz hz=>h z (ZzU _ hz);refine⟨a,⟨(wyP y).filter (λq=>!L.contains q)++N,?_⟩,λz hz q hq=>?_⟩
  ·rw[ZA3,b]
   unfold ZcW;rw[ZA8]
  ·rw[ZA3]
   rcases Zz7.mp hz with e | hz
   ·subst e
    rw[b];exact ZAv _ (ZtY hq)
   ·exact c z hz q hq
section
variable{w:Wk}(hv:Wk.V w)(h7:w.many<=7){p:Pr}(hp:p.V w)
include hv h7
omit h7 in
theorem Zg7(hc:OkC w c)(hy:y∈wfB w p c):(wyP y).Nodup/\(wyP y).length<=8/\∀q∈wyP y,OkC w q:=by
 have h8:=hv.m2;rcases Zfb hy with⟨d,hd,rfl⟩ | ⟨l,hl,rfl,_⟩
 ·obtain⟨d0,d1,_⟩:=Zbs hd
  have hlc:=ZdR hv hc.1 d0 d1;refine⟨ZhH w [] _,?_,λq hq=>?_⟩
  ·have:=split_len (w:=w) (ls:=[]) (c:=ZY w c d)
   have:=hlc.len;show((Z5 w [] (ZY w c d)).map (·.2)).length<=8;rw[ZzP];omega
  ·have:=Zep hlc (show q∈Zx w [] (ZY w c d) from hq)
   exact⟨this.1,this.2.1⟩
 ·refine⟨ZhH w [l] _,?_,λq hq=>?_⟩
  ·have:=split_len (w:=w) (ls:=[l]) (c:=c)
   have:=hc.1.len;show((Z5 w [l] c).map (·.2)).length<=8;rw[ZzP];omega
  ·have:=Zep hc.1 (show q∈Zx w [l] c from hq)
   exact⟨this.1,this.2.1⟩
omit hv h7 in
theorem Zq6(hv:Wk.V w)(c:List Int):(wfB w p c).length<=10:=by unfold wfB;rw[ZAb,ZzP];have h1:=Ze5 w c;have h2:=hv.d2;have h3:=ZAu (λy:Wy=>decide (1<y.2.length)) ((alV w).map (Zax w p c));rw[ZzP]at h3;have h4:=(ZhR w).len;have h5:=hv.l2;omega
include hp
theorem Zsv(I:IvL w L){at_:Nat}(hc:L[at_]?=some c)(o4 o5:Option B) :
  ∃p4 p5,Zd3 [some (.pl w.d),some (.pl p.d),some (.ol (L.map tupI)),some (.pl (dN at_)),o4,o5,none,none,none,none]=some (.nx [some (.pl w.d),some (.pl p.d),some (.ol (((wfB w p c).foldl ZcW L).map tupI)),some (.pl (dN (at_+1))),p4,p5,none,none,none,none]):=by
 have hm:c∈L:=ZAo hc;have hk:=I.cr c hm;have hat:atD (L.map tupI) (at_:Int)=some (tupI c):=ZdQ (by rw[ZAk,hc]; rfl);have hws:=ZkG hv h7 hp hk;have hyl:=Zq6 (p:=p) hv c;obtain⟨r',g,p4,p5,e⟩:=ZpY (i:=4) (j:=5) (body:=ZfI) (λy=>ZAx (prY y)) (λy=>.list ((wyP y).map tupI)) (λ(pre:List Wy) (r:HM.Env)=>∃o4 o5,r=[some (.pl w.d),some (.pl p.d),some (.ol ((pre.foldl ZcW L).map tupI)),some (.pl (dN at_)),o4,o5,none,none,none,none]) (wfB w p c) [some (.pl w.d),some (.pl p.d),some (.ol (L.map tupI)),some (.pl (dN at_)),o4,o5,none,none,none,none] ⟨o4,o5,rfl⟩ λpre y post r e ⟨q4,q5,er⟩=>by
  have hy:y∈wfB w p c:=by rw[e]; exact ZAg _ (ZzT ..)
  obtain⟨n1,n2,n3⟩:=Zg7 hv hk hy;obtain⟨I2,_,_⟩:=ZrV pre L I λz hz=>by have:=Zg7 (p:=p) hv hk (show z∈wfB w p c by rw[e]; exact ZAv _ hz);exact⟨this.1,this.2.2⟩
  have hlen:=I2.len h7;subst er;rw[ZDe];generalize pre.foldl ZcW L=M at *;refine⟨[some (.pl w.d),some (.pl p.d),some (.ol ((ZcW M y).map tupI)),some (.pl (dN at_)),some (.pl (.int (prY y))),some (.pl (.list ((wyP y).map tupI))),none,none,none,none],?_,_,_,rfl⟩;have e2:∀r:HM.Env,r[2]?=some (some (.ol (M.map tupI)))->Zap (tV (ZhV (Za 0) (Zo 3))) (Za 0) r ((wyP y).map tupI)=some (((wyP y).filter λq=>!M.contains q).map tupI):=λr r2=>by
   rw[ZbZ tupI (λq=>!M.contains q) tupI]
   ·intro q _
    simp[r2,Zvf,-ZBD]
   ·intro q _ _
    simp
  have hfl:=ZAu (λq=>!M.contains q) (wyP y);have hbig:M.length+((wyP y).filter λq=>!M.contains q).length<1000000:=by omega
  have hpb:(wyP y).length<1000000:=by omega
  unfold ZcW;simp[ZfI,e2,hpb,hbig,-ZBD]
 refine⟨p4,p5,?_⟩;unfold Zd3;refine ZO (P:=λq=>q=_) (r':=r') ?_ ?_
 ·have hi:ZS (bOf (Zm Zb5 (Zc (Za 0) (Zc (Za 1) (Zc (eIx (Zo 2) (Za 3)) Zi))))) [some (.pl w.d),some (.pl p.d),some (.ol (L.map tupI)),some (.pl (dN at_)),o4,o5,none,none,none,none]=some ((wfB w p c).map Zdi):=by
   simp[hat,hws]
  unfold ZiO;rw[hi];dsimp only;rw[if_pos (by rw[ZzP]; show _<1000000; omega)];exact g
 ·rw[e]
  simp
theorem ZjK:∀(fuel at_:Nat) (L:List (List Int)) (o4 o5:Option B),IvL w L->at_<=L.length->129<=at_+fuel->(∀i c,i<at_->L[i]?=some c->∀y∈wfB w p c,∀q∈wyP y,q∈L) ->
  ∃L' p4 p5,ZaV (tV (op2 gLt (Za 3) (Zaf (Zo 2)))) Zd3 fuel [some (.pl w.d),some (.pl p.d),some (.ol (L.map tupI)),some (.pl (dN at_)),o4,o5,none,none,none,none]=some (.nx [some (.pl w.d),some (.pl p.d),some (.ol (L'.map tupI)),some (.pl (dN L'.length)),p4,p5,none,none,none,none])/\IvL w L'/\Zkf (wfB w p) L'/\∀c∈L,c∈L'
 | 0,at_,L,o4,o5,I,h1,h2,_=>by have:=I.len h7; omega
 | fuel+1,at_,L,o4,o5,I,h1,h2,h3=>by
  by_cases hlt:at_<L.length
  ·have hc:L[at_]?=some L[at_]:=Zz2 hlt
   have hm:L[at_]∈L:=ZBl hlt;obtain⟨p4,p5,ht⟩:=Zsv hv h7 hp I hc o4 o5;obtain⟨I2,⟨N,hN⟩,hall⟩:=ZrV (wfB w p L[at_]) L I λy hy=>by have:=Zg7 hv (I.cr _ hm) hy;exact⟨this.1,this.2.2⟩
   have hln:at_+1<=((wfB w p L[at_]).foldl ZcW L).length:=by rw[hN,ZAb]; omega
   obtain⟨L',q4,q5,g,J,hcl,hsub⟩:=ZjK fuel (at_+1) _ p4 p5 I2 hln (by omega) λi c hi hic y hy q hq=>by
    by_cases e:i=at_
    ·subst e
     rw[hN,ZAw hlt,hc]at hic;cases hic;exact hall y hy q hq
    ·have hil:i<L.length:=by omega
     rw[hN,ZAw hil]at hic;rw[hN];exact ZAv _ (h3 i c (by omega) hic y hy q hq)
   refine⟨L',q4,q5,?_,J,hcl,λc hcL=>hsub c (by rw[hN]; exact ZAv _ hcL)⟩;unfold ZaV;have e:tV (op2 gLt (Za 3) (Zaf (Zo 2))) [some (.pl w.d),some (.pl p.d),some (.ol (L.map tupI)),some (.pl (dN at_)),o4,o5,none,none,none,none]=some true:=by simp;omega
   rw[e];dsimp only;rw[ht];exact g
  ·have e:at_=L.length:=by omega
   subst e;refine⟨L,o4,o5,?_,I,λc hc y hy q hq=>?_,λc hc=>hc⟩
   ·unfold ZaV
    have e:tV (op2 gLt (Za 3) (Zaf (Zo 2))) [some (.pl w.d),some (.pl p.d),some (.ol (L.map tupI)),some (.pl (dN L.length)),o4,o5,none,none,none,none]=some false:=by simp
    rw[e]
   ·obtain⟨i,hi,e⟩:=ZCo hc
    exact h3 i c hi (by rw[Zz2 hi,e]) y hy q hq
end
end HG23
namespace HG23
open PySem HM
open HG
open HG4
open HG5
variable{b:Bo}{c:List Int}{P:List Int->Wy->Prop}{M:Tb}{y:Wy}
theorem ZvF{g:D->D->Option D}{e f:EF}{r:HM.Env}{x y:D}{b:Bool}(h1:e r=some x)(h2:f r=some y)(h:g x y=some (.bool b)):tV (op2 g e f) r=some b:=by unfold tV op2;rw[h1,h2];show(match g x y with | some (.bool b)=>some b | _=>none)=_;rw[h]
abbrev Bo:=Option (Int × List Int)
def bD:Bo->D
 | none=>.none
 | some (k,c)=>.tuple [.int k,tupI c]
def better(k:Int)(b:Bo):Bool:=match b with
 | none=>true
 | some (v,_)=>decide (k<v)
def Zfw(M:Tb)(c:List Int)(b:Bo)(y:Wy):Bo:=match cbP y M with
 | some k=>if better k b then some (k,c)else b
 | none=>b
def Zd7(wf:Wf)(M:Tb)(b:Bo)(c:List Int):Bo:=if Zv M c then b else(wf c).foldl (Zfw M c) b
structure Bst(wf:Wf)(L:List (List Int))(M:Tb)(b:Bo)(P:List Int->Wy->Prop):Prop where
 ok:∀k c,b=some (k,c)->c∈L/\Zv M c=false/\∃y∈wf c,cbP y M=some k
 mn:∀x y v,P x y->cbP y M=some v->∃k c,b=some (k,c)/\k<=v
section
variable{wf:Wf}{L:List (List Int)}{M:Tb}
theorem Bst.imp{Q:List Int->Wy->Prop}(h:Bst wf L M b P)(hi:∀x y,Q x y->P x y):Bst wf L M b Q:=⟨h.ok,λx y v hq=>h.mn x y v (hi x y hq)⟩
theorem ZyE(h:Bst wf L M b P)(hc:c∈L)(hn:Zv M c=false)(hy:y∈wf c):Bst wf L M (Zfw M c b y) λx z=>P x z\/(x=c/\z=y):=by
 unfold Zfw;cases hk:cbP y M with
 | none =>
  refine⟨h.ok,λx z v hz hv=>?_⟩;rcases hz with hz | ⟨_,rfl⟩
  ·exact h.mn x z v hz hv
  ·rw[hk]at hv; cases hv
 | some k =>
  dsimp only;cases hb:better k b with
  | true =>
   rw[if_pos rfl];refine⟨λk' c' e=>?_,λx z v hz hv=>⟨k,c,rfl,?_⟩⟩
   ·cases e
    exact⟨hc,hn,y,hy,hk⟩
   ·rcases hz with hz | ⟨_,rfl⟩
    ·obtain⟨k',c',e,hle⟩:=h.mn x z v hz hv
     subst e;have:k<k':=of_decide_eq_true hb;omega
    ·rw[hk]at hv
     cases hv;exact Int.le_refl _
  | false =>
   rw[if_neg (by decide)];refine⟨h.ok,λx z v hz hv=>?_⟩;rcases hz with hz | ⟨_,rfl⟩
   ·exact h.mn x z v hz hv
   ·rw[hk]at hv
    cases hv
    match b,hb with
    | none,hb=>cases hb
    | some (k',c'),hb=>exact⟨k',c',rfl,by have:=of_decide_eq_false hb; omega⟩
theorem Zty{c:List Int}(hc:c∈L)(hn:Zv M c=false):∀(ys:List Wy) {b:Bo} {P:List Int->Wy->Prop},(∀y∈ys,y∈wf c)->Bst wf L M b P->Bst wf L M (ys.foldl (Zfw M c) b) λx z=>P x z\/(x=c/\z∈ys)
 | [],b,P,_,h=>h.imp λx y q=>q.elim id λz=>by simp at z
 | y::ys,b,P,hy,h=>by
  have h1:=Zty hc hn ys (λz hz=>hy z (ZzU _ hz)) (ZyE h hc hn (hy y (ZzT ..)));rw[ZA3];refine h1.imp λx z q=>?_;rcases q with q | ⟨e,q⟩
  ·exact .inl (.inl q)
  ·rcases Zz7.mp q with e2 | q
   ·exact .inl (.inr ⟨e,e2⟩)
   ·exact .inr ⟨e,q⟩
theorem ZoI:∀(cs:List (List Int)) {b:Bo} {P:List Int->Wy->Prop},(∀c∈cs,c∈L)->Bst wf L M b P->Bst wf L M (cs.foldl (Zd7 wf M) b) λx z=>P x z\/(x∈cs/\Zv M x=false/\z∈wf x)
 | [],b,P,_,h=>h.imp λx y q=>q.elim id λz=>by simp at z
 | c::cs,b,P,hc,h=>by
  rw[ZA3];cases hn:Zv M c with
  | true =>
   have e:Zd7 wf M b c=b:=by unfold Zd7; rw[hn]; rfl
   rw[e];refine(ZoI cs (λz hz=>hc z (ZzU _ hz)) h).imp λx z q=>?_;rcases q with q | ⟨q1,q2,q3⟩
   ·exact .inl q
   ·rcases Zz7.mp q1 with e | q1
    ·rw[e,hn]at q2; cases q2
    ·exact .inr ⟨q1,q2,q3⟩
  | false =>
   have e:Zd7 wf M b c=(wf c).foldl (Zfw M c) b:=by unfold Zd7; rw[hn]; rfl
   rw[e];refine(ZoI cs (λz hz=>hc z (ZzU _ hz)) (Zty (hc c (ZzT ..)) hn (wf c) (λ_ h=>h) h)).imp λx z q=>?_;rcases q with q | ⟨q1,q2,q3⟩
   ·exact .inl (.inl q)
   ·rcases Zz7.mp q1 with e | q1
    ·subst e; exact .inl (.inr ⟨rfl,q3⟩)
    ·exact .inr ⟨q1,q2,q3⟩
theorem Zwv:Bst wf L M (L.foldl (Zd7 wf M) none) λx z=>x∈L/\Zv M x=false/\z∈wf x :=
 (ZoI (P:=λ_ _=>False) L (λ_ h=>h) ⟨(λk c e=>by cases e),λx y v z _=>ZAY z⟩).imp λx z q=>.inr q
end
section
variable{w:Wk}(hv:Wk.V w)(h7:w.many<=7){p:Pr}(hp:p.V w){L:List (List Int)}(I:IvL w L)
include hv h7 hp I
omit hp in
theorem ZmA(e2 e3 e4 e5:Option B):∀(cs:List (List Int)) (M:Tb) (o7:Option B),(∀c∈cs,c∈L)->M.length+cs.length<100000 ->
  ∃p7,ZaQ 7 Zbf (cs.map tupI) [some (.pl w.d),some (.pl p.d),e2,e3,e4,e5,some (.ot (encM M)),o7,none,none]=some (.nx [some (.pl w.d),some (.pl p.d),e2,e3,e4,e5,some (.ot (encM (Zal (cs.filter λc=>ZC w c) 0 M))),p7,none,none])
 | [],M,o7,_,_=>⟨o7,rfl⟩
 | c::cs,M,o7,hcs,hlen=>by
  rw[Zz8]at hlen;have hc:=(I.cr c (hcs c (ZzT ..))).1;have hcl:=hc.len;have ht:=Zjw hv (c:=c) (by omega);have hml:(encM M).length<1000000:=by unfold encM; rw[ZzP]; omega
  have hk:Za1 (tupI c)=some (Zab c):=ZaD c;have hput:=Ziv M c 0;have hpl:=Zkj c 0 M;rw[ZzZ,ZA5];cases hth:ZC w c with
  | true =>
   rw[hth]at ht;have e:Zbf [some (.pl w.d),some (.pl p.d),e2,e3,e4,e5,some (.ot (encM M)),some (.pl (tupI c)),none,none]=some (.nx [some (.pl w.d),some (.pl p.d),e2,e3,e4,e5,some (.ot (encM (putD M c 0))),some (.pl (tupI c)),none,none]):=by rw[<-hput];simp[Zbf,ht,hk,hml]
   obtain⟨p7,ih⟩:=ZmA e2 e3 e4 e5 cs (putD M c 0) (some (.pl (tupI c))) (λx hx=>hcs x (ZzU _ hx)) (by omega);refine⟨p7,?_⟩;rw[if_pos rfl];unfold Zal at ih ⊢;rw[ZA3,<-ih];show(match Zbf [some (.pl w.d),some (.pl p.d),e2,e3,e4,e5,some (.ot (encM M)),some (.pl (tupI c)),none,none]with | some (.nx r')=>_ | some (.ct r')=>_ | some (.bk r')=>_ | some (.rt d)=>_ | none=>_)=_;rw[e]
  | false =>
   rw[hth]at ht;have e:Zbf [some (.pl w.d),some (.pl p.d),e2,e3,e4,e5,some (.ot (encM M)),some (.pl (tupI c)),none,none]=some (.nx [some (.pl w.d),some (.pl p.d),e2,e3,e4,e5,some (.ot (encM M)),some (.pl (tupI c)),none,none]):=by simp[Zbf,ht]
   obtain⟨p7,ih⟩:=ZmA e2 e3 e4 e5 cs M (some (.pl (tupI c))) (λx hx=>hcs x (ZzU _ hx)) (by omega);refine⟨p7,?_⟩;rw[if_neg (by simp),<-ih];show(match Zbf [some (.pl w.d),some (.pl p.d),e2,e3,e4,e5,some (.ot (encM M)),some (.pl (tupI c)),none,none]with | some (.nx r')=>_ | some (.ct r')=>_ | some (.bk r')=>_ | some (.rt d)=>_ | none=>_)=_;rw[e]
omit I h7 hp hv in
theorem ZuK{ps:List (List Int)}(h:ps.all (Zv M)=true):(ps.filterMap λq=>Zg M q)=ps.map λq=>(Zg M q).getD 0:=by
 induction ps with
 | nil=>rfl
 | cons q ps ih=>rw[ZAV,ZAc]at h;obtain⟨v,hv⟩:=ZAt.mp (show(Zg M q).isSome=true from h.1);rw[ZA6,ZzZ,hv,ih h.2];rfl
omit I h7 in
theorem Zyj(hc:OkC w c)(hy:y∈wfB w p c)(e2 e3 o9:Option B) :
  ∃p9,Zd2 [some (.pl w.d),some (.pl p.d),e2,e3,some (.pl (.int (prY y))),some (.pl (.list ((wyP y).map tupI))),some (.ot (encM M)),some (.pl (tupI c)),some (.pl (bD b)),o9]=some (.nx [some (.pl w.d),some (.pl p.d),e2,e3,some (.pl (.int (prY y))),some (.pl (.list ((wyP y).map tupI))),some (.ot (encM M)),some (.pl (tupI c)),some (.pl (bD (Zfw M c b y))),p9]):=by
 obtain⟨n1,n2,n3⟩:=Zg7 hv hc hy;have hne:=ZtC hc.2 hy;generalize hr:([some (.pl w.d),some (.pl p.d),e2,e3,some (.pl (.int (prY y))),some (.pl (.list ((wyP y).map tupI))),some (.ot (encM M)),some (.pl (tupI c)),some (.pl (bD b)),o9]:HM.Env)=r;have g1:Zap (tV (ZbW (Za 0) (Zo 7))) (Za 0) r ((wyP y).map tupI)=some (((wyP y).filter λq=>!Zv M q).map tupI):=by
  rw[ZbZ tupI (λq=>!Zv M q) tupI]
  ·intro q _
   have hk:Za1 (tupI q)=some (Zab q):=ZaD q;subst hr;simp[hk,Zb7,Zv]
  ·intro q _ _
   simp
 have f1:=ZgI (I:=ZS (bOf (Za 5))) (c:=tV (ZbW (Za 0) (Zo 7))) (e:=Za 0) (r:=r) (ds:=(wyP y).map tupI) (by subst hr; rfl) (by rw[ZzP]; omega) g1;have g:=Zuf ((wyP y).filter λq=>!Zv M q);rw[filter_empty]at g;have ht:tV (op2 gEq (eOf (ZK (ZS (bOf (Za 5))) (tV (ZbW (Za 0) (Zo 7))) (Za 0))) (eOf (Zdj Zi))) r=some ((wyP y).all λq=>Zv M q):=by refine ZvF (x:=.list (((wyP y).filter λq=>!Zv M q).map tupI)) (y:=.list []) ?_ rfl g;unfold eOf;rw[f1];rfl
 unfold Zd2;cases hall:(wyP y).all λq=>Zv M q with
 | false =>
  rw[hall]at ht;have hcb:cbP y M=none:=by unfold cbP ZaR;rw[if_neg (by rw[show(wyP y).all (Zv M)=false from hall]; decide)];rfl
  refine⟨o9,?_⟩;unfold sIf;rw[ht];unfold Zfw;rw[hcb,hr];rfl
 | true =>
  rw[hall]at ht;have hva:=ZuK (M:=M) (ps:=wyP y) hall;have g2:Zap ZN (ZaX (Zo 7) (Za 0)) r ((wyP y).map tupI)=some (((wyP y).map λq=>(Zg M q).getD 0).map dI):=by
   rw[Za0 tupI (λq=>dI ((Zg M q).getD 0)),ZAe]
   ·rfl
   ·intro q hq
    have hk:Za1 (tupI q)=some (Zab q):=ZaD q;obtain⟨v,hv'⟩:=ZAt.mp (show(Zg M q).isSome=true from ZzY.mp hall q hq);have hlk:=Zb7 M q;rw[hv']at hlk;subst hr;simp[hk,hlk,hv']
  have f2:=ZgI (I:=ZS (bOf (Za 5))) (c:=ZN) (e:=ZaX (Zo 7) (Za 0)) (r:=r) (ds:=(wyP y).map tupI) (by subst hr; rfl) (by rw[ZzP]; omega) g2;obtain⟨v,hmx⟩:∃v,((wyP y).map λq=>(Zg M q).getD 0).max?=some v:=by
   cases hq:((wyP y).map λq=>(Zg M q).getD 0).max? with
   | some v=>exact⟨v,rfl⟩
   | none=>rw[ZCG]at hq; exact absurd (ZCP.mp hq) hne
  have hcb:cbP y M=some (v+prY y):=by unfold cbP ZaR;rw[if_pos (show(wyP y).all (Zv M)=true from hall),hva,hmx];rfl
  have hmax:Zfx (ZK (ZS (bOf (Za 5))) ZN (ZaX (Zo 7) (Za 0))) r=some (.int v):=by unfold Zfx;rw[f2];show(match ZaP (((wyP y).map λq=>(Zg M q).getD 0).map dI)with | some ns=>ns.max?.map λi=>ZAx i | none=>none)=_;rw[Zce];dsimp only;rw[hmx];rfl
  refine⟨some (.pl (.int (v+prY y))),?_⟩;unfold sIf;rw[ht];dsimp only;have hs:Z4 9 (op2 ZaE (Za 4) (Zfx (ZK (ZS (bOf (Za 5))) ZN (ZaX (Zo 7) (Za 0))))) r=some (.nx [some (.pl w.d),some (.pl p.d),e2,e3,some (.pl (.int (prY y))),some (.pl (.list ((wyP y).map tupI))),some (.ot (encM M)),some (.pl (tupI c)),some (.pl (bD b)),some (.pl (.int (v+prY y)))]):=by generalize Zfx (ZK (ZS (bOf (Za 5))) ZN (ZaX (Zo 7) (Za 0)))=E at hmax ⊢;rw[Int.add_comm];subst hr;simp[hmax]
  refine ZO (P:=λq=>q=_) hs ?_;unfold Zfw;rw[hcb];dsimp only
  match b with
  | none=>rfl
  | some (k,c')=>have e:tV (op2 gLt (Za 9) (eIx (Zo 8) (eC (.int 0)))) [some (.pl w.d),some (.pl p.d),e2,e3,some (.pl (.int (prY y))),some (.pl (.list ((wyP y).map tupI))),some (.ot (encM M)),some (.pl (tupI c)),some (.pl (bD (some (k,c')))),some (.pl (.int (v+prY y)))]=some (decide (v+prY y<k)):=rfl;have e':tV (op2 Zfd (Za 8) (eC .none)) [some (.pl w.d),some (.pl p.d),e2,e3,some (.pl (.int (prY y))),some (.pl (.list ((wyP y).map tupI))),some (.ot (encM M)),some (.pl (tupI c)),some (.pl (bD (some (k,c')))),some (.pl (.int (v+prY y)))]=some false:=rfl;show sIf _ _ _ _=_;unfold sIf tOr;rw[e',e];show(match some (decide (v+prY y<k))with | some true=>_ | some false=>_ | none=>none)=some (Out.nx [_,_,_,_,_,_,_,_,some (.pl (bD (if decide (v+prY y<k)=true then some (v+prY y,c)else some (k,c')))),_]);cases decide (v+prY y<k)<;>rfl
end
end HG23
namespace HG23
open PySem HM
open HG
open HG4
open HG5
variable{M:Tb}
section
variable{w:Wk}(hv:Wk.V w)(h7:w.many<=7){p:Pr}(hp:p.V w){L:List (List Int)}(I:IvL w L)
include hv h7 hp
theorem ZxH{c:List Int}(hc:OkC w c){b:Bo}(e2 e3 o4 o5 o9:Option B) :
  ∃p4 p5 p9,Zc2 [some (.pl w.d),some (.pl p.d),e2,e3,o4,o5,some (.ot (encM M)),some (.pl (tupI c)),some (.pl (bD b)),o9]=some (.nx [some (.pl w.d),some (.pl p.d),e2,e3,p4,p5,some (.ot (encM M)),some (.pl (tupI c)),some (.pl (bD (Zd7 (wfB w p) M b c))),p9]):=by
 have hk:Za1 (tupI c)=some (Zab c):=ZaD c;have hlk:=Zb7 M c;have ht:tV (ZbW (Za 7) (Zo 6)) [some (.pl w.d),some (.pl p.d),e2,e3,o4,o5,some (.ot (encM M)),some (.pl (tupI c)),some (.pl (bD b)),o9]=some (!Zv M c):=by simp[hk,hlk,Zv]
 unfold Zc2 Zd7;cases hh:Zv M c with
 | true=>rw[hh]at ht;refine⟨o4,o5,o9,?_⟩;unfold sIf;rw[ht];rfl
 | false =>
  rw[hh]at ht;obtain⟨r',g,q4,q5,q9,e⟩:=ZpY (i:=4) (j:=5) (body:=Zd2) (λy=>ZAx (prY y)) (λy=>.list ((wyP y).map tupI)) (λ(pre:List Wy) (r:HM.Env)=>∃o4 o5 o9,r=[some (.pl w.d),some (.pl p.d),e2,e3,o4,o5,some (.ot (encM M)),some (.pl (tupI c)),some (.pl (bD (pre.foldl (Zfw M c) b))),o9]) (wfB w p c) [some (.pl w.d),some (.pl p.d),e2,e3,o4,o5,some (.ot (encM M)),some (.pl (tupI c)),some (.pl (bD b)),o9] ⟨o4,o5,o9,rfl⟩ λpre y post r e ⟨q4,q5,q9,er⟩=>by
   have hy:y∈wfB w p c:=by rw[e]; exact ZAg _ (ZzT ..)
   obtain⟨p9,h1⟩:=Zyj hv hp hc hy (M:=M) (b:=pre.foldl (Zfw M c) b) e2 e3 q9;subst er;rw[ZDe];exact⟨_,h1,_,_,_,rfl⟩
  have hws:=ZkG hv h7 hp hc;have hyl:=Zq6 (p:=p) hv c;refine⟨q4,q5,q9,?_⟩;unfold sIf;rw[ht];have hi:ZS (bOf (Zm Zb5 (Zc (Za 0) (Zc (Za 1) (Zc (Za 7) Zi))))) [some (.pl w.d),some (.pl p.d),e2,e3,o4,o5,some (.ot (encM M)),some (.pl (tupI c)),some (.pl (bD b)),o9]=some ((wfB w p c).map Zdi):=by simp[hws]
  show ZiO _ _ _ _ _=_;unfold ZiO;rw[hi];dsimp only;rw[if_pos (by rw[ZzP]; show _<1000000; omega)];rw[e]at g;exact g
include I
theorem ZvP(e3 o4 o5 o7 o9:Option B) :
  ∃p4 p5 p7 p9,Zba 7 (ZS (bOf (Za 2))) Zc2 [some (.pl w.d),some (.pl p.d),some (.pl (.list (L.map tupI))),e3,o4,o5,some (.ot (encM M)),o7,some (.pl .none),o9]=some (.nx [some (.pl w.d),some (.pl p.d),some (.pl (.list (L.map tupI))),e3,p4,p5,some (.ot (encM M)),p7,some (.pl (bD (L.foldl (Zd7 (wfB w p) M) none))),p9]):=by
 obtain⟨r',g,q4,q5,q7,q9,e⟩:=Ze8 (i:=7) (body:=Zc2) tupI (λ(pre:List (List Int)) (r:HM.Env)=>∃o4 o5 o7 o9,r=[some (.pl w.d),some (.pl p.d),some (.pl (.list (L.map tupI))),e3,o4,o5,some (.ot (encM M)),o7,some (.pl (bD (pre.foldl (Zd7 (wfB w p) M) none))),o9]) L [some (.pl w.d),some (.pl p.d),some (.pl (.list (L.map tupI))),e3,o4,o5,some (.ot (encM M)),o7,some (.pl .none),o9] ⟨o4,o5,o7,o9,rfl⟩ λpre c post r e ⟨q4,q5,q7,q9,er⟩=>by
  have hc:c∈L:=by rw[e]; exact ZAg _ (ZzT ..)
  obtain⟨p4,p5,p9,h1⟩:=ZxH hv h7 hp (I.cr c hc) (M:=M) (b:=pre.foldl (Zd7 (wfB w p) M) none) (some (.pl (.list (L.map tupI)))) e3 q4 q5 q9;subst er;rw[ZDe];exact⟨_,h1,_,_,_,_,rfl⟩
 have hlen:=I.len h7;refine⟨q4,q5,q7,q9,?_⟩;have hi:ZS (bOf (Za 2)) [some (.pl w.d),some (.pl p.d),some (.pl (.list (L.map tupI))),e3,o4,o5,some (.ot (encM M)),o7,some (.pl .none),o9]=some (L.map tupI):=rfl;unfold Zba;rw[hi];dsimp only;rw[if_pos (by rw[ZzP]; show _<1000000; omega)];rw[e]at g;exact g
theorem ZjI(G:Gd (wfB w p) L)(e3:Option B):∀(fuel:Nat) (M:Tb) (o4 o5 o7 o8 o9:Option B),ZjY w (wfB w p) L M->130<=(L.filter λc=>Zv M c).length+fuel->M.length<=128+(L.filter λc=>Zv M c).length ->
  ∃R,ZaV (tV (eC (.bool true))) Zby fuel [some (.pl w.d),some (.pl p.d),some (.pl (.list (L.map tupI))),e3,o4,o5,some (.ot (encM M)),o7,o8,o9]=some (.rt (.dict (Zn (encM R))))/\Zlc w (wfB w p) L R
 | 0,M,o4,o5,o7,o8,o9,T,hf,_=>by have:=I.len h7;have:=ZAu (λc=>Zv M c) L;omega
 | fuel+1,M,o4,o5,o7,o8,o9,T,hf,hM=>by
  have hlen:=I.len h7;have hfl:=ZAu (λc=>Zv M c) L;obtain⟨p4,p5,p7,p9,hb⟩:=ZvP hv h7 hp I (M:=M) e3 o4 o5 o7 o9;have B:=Zwv (wf:=wfB w p) (L:=L) (M:=M);generalize L.foldl (Zd7 (wfB w p) M) none=b at hb B;have s1:Z4 8 (eC .none) [some (.pl w.d),some (.pl p.d),some (.pl (.list (L.map tupI))),e3,o4,o5,some (.ot (encM M)),o7,o8,o9]=some (.nx [some (.pl w.d),some (.pl p.d),some (.pl (.list (L.map tupI))),e3,o4,o5,some (.ot (encM M)),o7,some (.pl .none),o9]):=rfl
  match b,hb,B with
  | none,hb,B =>
   refine⟨M,?_,T,λc hc n hbuy=>Zq5 G T (λx hx hn y hy=>?_) hc hbuy⟩
   ·unfold ZaV
    show(match Zby _ with | some (.nx r')=>_ | some (.ct r')=>_ | some (.bk r')=>_ | some (.rt d)=>_ | none=>_)=_;have e:Zby [some (.pl w.d),some (.pl p.d),some (.pl (.list (L.map tupI))),e3,o4,o5,some (.ot (encM M)),o7,o8,o9]=some (.rt (.dict (Zn (encM M)))):=by unfold Zby;refine ZO (P:=λq=>q=_) s1 ?_;refine ZO (P:=λq=>q=_) (r':=[some (.pl w.d),some (.pl p.d),some (.pl (.list (L.map tupI))),e3,p4,p5,some (.ot (encM M)),p7,some (.pl .none),p9]) hb ?_;rfl
    rw[e]
   ·cases hk:cbP y M with
    | none=>rfl
    | some v=>obtain⟨k,c',e,_⟩:=B.mn x y v ⟨hx,hn,hy⟩ hk;cases e
  | some (k,c),hb,B =>
   obtain⟨hc,hn,y,hy,hk⟩:=B.ok k c rfl;obtain⟨n,rfl,hL⟩:=ZlP G T hc hn hy hk λx hx hn' y' hy' v hv'=>by obtain⟨k',c',e,hle⟩:=B.mn x y' v ⟨hx,hn',hy'⟩ hv';cases e;exact hle
   have T':=Zwh T hc hL;have hcnt:(L.filter λx=>Zv M x).length<(L.filter λx=>Zv (putD M c (n:Int)) x).length:=by
    refine ZfS (λx _ hx=>?_) ⟨c,hc,?_,hn⟩
    ·unfold Zv at hx ⊢
     rw[ZfF];split
     ·rfl
     ·exact hx
    ·unfold Zv
     rw[ZfF,if_pos rfl];rfl
   have hpl:=Zkj c (n:Int) M;obtain⟨R,g,F⟩:=ZjI G e3 fuel (putD M c (n:Int)) p4 p5 p7 (some (.pl (bD (some ((n:Int),c))))) p9 T' (by omega) (by omega);refine⟨R,?_,F⟩;have hkk:Za1 (tupI c)=some (Zab c):=ZaD c;have hput:=Ziv M c (n:Int);have hml:(encM M).length<1000000:=by unfold encM; rw[ZzP]; omega
   have e:Zby [some (.pl w.d),some (.pl p.d),some (.pl (.list (L.map tupI))),e3,o4,o5,some (.ot (encM M)),o7,o8,o9]=some (.nx [some (.pl w.d),some (.pl p.d),some (.pl (.list (L.map tupI))),e3,p4,p5,some (.ot (encM (putD M c (n:Int)))),p7,some (.pl (bD (some ((n:Int),c)))),p9]):=by unfold Zby;refine ZO (P:=λq=>q=_) s1 ?_;refine ZO (P:=λq=>q=_) (r':=[some (.pl w.d),some (.pl p.d),some (.pl (.list (L.map tupI))),e3,p4,p5,some (.ot (encM M)),p7,some (.pl (bD (some ((n:Int),c)))),p9]) hb ?_;refine ZO (P:=λq=>q=_) (r':=[some (.pl w.d),some (.pl p.d),some (.pl (.list (L.map tupI))),e3,p4,p5,some (.ot (encM M)),p7,some (.pl (bD (some ((n:Int),c)))),p9]) rfl ?_;rw[<-hput];simp[bD,hkk,hml]
   unfold ZaV;show(match Zby _ with | some (.nx r')=>_ | some (.ct r')=>_ | some (.bk r')=>_ | some (.rt d)=>_ | none=>_)=_;rw[e];exact g
omit I in
theorem Zpm:∃L R,ZdA [w.d,p.d]=some (.dict (Zn (encM R)))/\Zlc w (wfB w p) L R/\w.beg∈L:=by
 have I0:IvL w [w.beg]:=⟨by simp,λc hc=>by rw[Zz0.mp hc]; exact⟨hv.bc,hv.b1⟩⟩;obtain⟨L,p4,p5,g1,I,hcl,hsub⟩:=ZjK hv h7 hp 100000 0 [w.beg] none none I0 (ZBq _) (by omega) λi c hi=>by omega
 have hlen:=I.len h7;obtain⟨p7,g2⟩:=ZmA (p:=p) hv h7 I (some (.pl (.list (L.map tupI)))) (some (.pl (dN L.length))) p4 p5 L [] none (λ_ h=>h) (by rw[ZEk]; omega);have G:=gdB hp hcl λc hc=>(I.cr c hc).2;have hlk:∀c,Zg (Zal (L.filter λc=>ZC w c) 0 []) c=if c∈L.filter (λc=>ZC w c)then some 0 else none:=λc=>Zem 0 c _ []
 have T:ZjY w (wfB w p) L (Zal (L.filter λc=>ZC w c) 0 []):=by
  refine⟨λc k hk=>?_,λc hc ht=>?_⟩
  ·rw[hlk]at hk
   split at hk
   ·rename_i hm
    cases hk;exact⟨(ZAh.mp hm).1,0,rfl,.there (ZAh.mp hm).2,λm hm'=>by omega⟩
   ·cases hk
  ·unfold Zv
   rw[hlk,if_pos (ZAh.mpr ⟨hc,ht⟩)];rfl
 have hml:(Zal (L.filter λc=>ZC w c) 0 []).length<=128:=by have h1:(Zal (L.filter λc=>ZC w c) 0 []).length<=0+(L.filter λc=>ZC w c).length:=ZjP 0 _ [];have h2:=ZAu (λc=>ZC w c) L;omega
 obtain⟨R,g3,F⟩:=ZjI hv h7 hp I G (some (.pl (dN L.length))) 100000 _ p4 p5 p7 none none T (by omega) (by omega);refine⟨L,R,?_,F,hsub _ (Zz0.mpr rfl)⟩;show Z2 (Zgk [some (.pl w.d),some (.pl p.d),none,none,none,none,none,none,none,none])=_;unfold Zgk;refine ZO (P:=λq=>Z2 q=_) (r':=[some (.pl w.d),some (.pl p.d),some (.ol ([w.beg].map tupI)),none,none,none,none,none,none,none]) rfl ?_;refine ZO (P:=λq=>Z2 q=_) (r':=[some (.pl w.d),some (.pl p.d),some (.ol ([w.beg].map tupI)),some (.pl (dN 0)),none,none,none,none,none,none]) rfl ?_;refine ZO (P:=λq=>Z2 q=_) g1 ?_;refine ZO (P:=λq=>Z2 q=_) (r':=[some (.pl w.d),some (.pl p.d),some (.ol (L.map tupI)),some (.pl (dN L.length)),p4,p5,some (.ot (encM [])),none,none,none]) rfl ?_;refine ZO (P:=λq=>Z2 q=_) (r':=[some (.pl w.d),some (.pl p.d),some (.pl (.list (L.map tupI))),some (.pl (dN L.length)),p4,p5,some (.ot (encM (Zal (L.filter λc=>ZC w c) 0 []))),p7,none,none]) ?_ ?_
 ·show Zba 7 (ZS (bOf (Za 2))) Zbf [some (.pl w.d),some (.pl p.d),some (.pl (.list (L.map tupI))),some (.pl (dN L.length)),p4,p5,some (.ot (encM [])),none,none,none]=_
  have hi:ZS (bOf (Za 2)) [some (.pl w.d),some (.pl p.d),some (.pl (.list (L.map tupI))),some (.pl (dN L.length)),p4,p5,some (.ot (encM [])),none,none,none]=some (L.map tupI):=rfl;unfold Zba;rw[hi];dsimp only;rw[if_pos (by rw[ZzP]; show _<1000000; omega)];exact g2
 ·unfold ZhT
  rw[g3];rfl
end
end HG23
namespace HG23
open PySem HM
open HG
open HG4
open HG5
variable{l s:Int}{c c' la:List Int}{m:Nat}{w:Wk}
theorem Zq4{d:Int}(h:∀x∈c',x∈c)(q:Zad w c d=true):Zad w c' d=true :=
 ZzY.mpr λs hs=>ZzY.mp q s (h s hs)
theorem ZjB(h:∀x∈c',x∈c)(q:ZC w c=true):ZC w c'=true :=
 ZzY.mpr λs hs=>ZzY.mp q s (h s hs)
theorem Zki(h:∀x∈c',x∈c)(d:Int):∀x∈ZY w c' d,x∈ZY w c d:=λx hx=>by obtain⟨s,hs,hr⟩:=ZmF.mp hx;exact ZmF.mpr ⟨s,h s hs,hr⟩
theorem ZpM(h:∀x∈c',x∈c)(s:Int):∀x∈Zcy w la c' s,x∈Zcy w la c s:=λx hx=>by obtain⟨h1,h2⟩:=ZAh.mp hx;exact ZAh.mpr ⟨h x h1,h2⟩
theorem Zrq{w:Wk}{la:List Int}:∀(n:Nat) (c c':List Int),(∀x∈c',x∈c)->Win w la n c=true->Win w la n c'=true
 | 0,c,c',h,q=>ZjB h q
 | n+1,c,c',h,q=>by
  have q:(ZC w c||(ZzX w.deeds.length).any λd=>Zad w c d&&(Zx w la (ZY w c d)).all λp=>Win w la n p)=true:=q;show(ZC w c'||(ZzX w.deeds.length).any λd=>Zad w c' d&&(Zx w la (ZY w c' d)).all λp=>Win w la n p)=true;rw[ZBd]at q ⊢;rcases q with q | q
  ·exact .inl (ZjB h q)
  ·right
   obtain⟨d,hd,q⟩:=ZAH.mp q;rw[ZAc]at q;refine ZAH.mpr ⟨d,hd,?_⟩;rw[ZAc];refine⟨Zq4 h q.1,ZzY.mpr λp' hp'=>?_⟩;obtain⟨s,hs,rfl⟩:=Zbk.mp hp';have hs':=Zki h d s hs;exact Zrq n (Zcy w la (ZY w c d) s) _ (ZpM (Zki h d) s) (ZzY.mp q.2 _ (Zbk.mpr ⟨s,hs',rfl⟩))
theorem ZjC{w:Wk}{ls:List Int}:∀P:List (List Int),(∀p∈P,∃n,Win w ls n p=true)->∃N,∀p∈P,Win w ls N p=true
 | [],_=>⟨0,λp hp=>by simp at hp⟩
 | p::P,h=>by
  obtain⟨N,hN⟩:=ZjC P λq hq=>h q (ZzU _ hq);obtain⟨n,hn⟩:=h p (ZzT ..);refine⟨N+n,λq hq=>?_⟩;rcases Zz7.mp hq with e | e
  ·rw[e]; exact ZfB (by omega) hn
  ·exact ZfB (by omega) (hN q e)
theorem Zm2{w:Wk}{wf:Wf}:∀P:List (List Int),(∀p∈P,∃n,Buy w wf n p)->∃N,∀p∈P,Buy w wf N p
 | [],_=>⟨0,λp hp=>by simp at hp⟩
 | p::P,h=>by
  obtain⟨N,hN⟩:=Zm2 P λq hq=>h q (ZzU _ hq);obtain⟨n,hn⟩:=h p (ZzT ..);refine⟨N+n,λq hq=>?_⟩;rcases Zz7.mp hq with e | e
  ·rw[e]; exact hn.le (by omega)
  ·exact(hN q e).le (by omega)
def Uni(w:Wk)(c:List Int)(l:Int):Prop:=∀x∈c,∀y∈c,Zf9 w l x=Zf9 w l y
theorem Uni.sub(u:Uni w c l)(h:∀x∈c',x∈c):Uni w c' l:=λx hx y hy=>u x (h x hx) y (h y hy)
theorem Zk2{x:Int}:x∈Zcy w [l] c s↔x∈c/\Zf9 w l x=Zf9 w l s:=by rw[ZgJ];unfold ZA;simp
theorem Zk8(hl:l∈la):Uni w (Zcy w la c s) l:=λx hx y hy=>by have h1:=(ZgJ.mp hx).2;have h2:=(ZgJ.mp hy).2;unfold ZA at h1 h2;have:=List.map_inj_left.mp (h1.trans h2.symm) l hl;exact this
theorem Zo3(u:∀l∈la,Uni w c l)(hs:s∈c):Zcy w la c s=c:=ZBw.mpr λx hx=>beq_iff_eq.mpr (ZBv λl hl=>u l hl x hx s hs)
section
variable{w:Wk}(hv:Wk.V w){p:Pr}(hp:p.V w)
include hv hp
theorem Zu7(hl:l∈alV w)(h1:1<(Zx w [l] c).length)(h:∀q∈Zx w [l] c,Buy w (wfB w p) m q):∃n,Buy w (wfB w p) n c:=by
 obtain⟨l0,l1⟩:=Zvu hl;have hb:=Zxw hp l0 l1;have hlen:(Zax w p c l).2.length=(Zx w [l] c).length:=by unfold Zx; rw[ZzP]; rfl
 have hy:Zax w p c l∈wfB w p c:=ZAg _ (ZAh.mpr ⟨Zz1.mpr ⟨l,hl,rfl⟩,decide_eq_true (by rw[hlen]; exact h1)⟩);exact⟨m+(lP p l).toNat,.way hy (by rw[Zlb]; omega) (by omega) h⟩
theorem Zxb(hc:c≠[]){d:Int}(hd:d∈doV w c)(h:Buy w (wfB w p) m (ZY w c d)):Buy w (wfB w p) (m+(dP p d).toNat) c:=by obtain⟨d0,d1,d2⟩:=Zbs hd;have hb:=Zxn hp d0 d1;have hy:doY w p c d∈wfB w p c:=ZAv _ (Zz1.mpr ⟨d,hd,rfl⟩);refine .way hy (by rw[Zpd]; omega) (by omega) λq hq=>?_;rw[Zo5,parts_nil w (ZgE hc d2)]at hq;rw[Zz0.mp hq];exact h
theorem Zmv:∀(n:Nat) (ks:List Int),(∀l∈ks,l∈alV w)->∀c,OkC w c->(∀l∈alV w,l ∉ ks->Uni w c l)->(∀s∈c,Win w (alV w) n (Zcy w (alV w) c s)=true)->∃m,Buy w (wfB w p) m c
 | n,l::ks,hks,c,hc,hu,hw=>by
  have ih:=Zmv n ks λl hl=>hks l (ZzU _ hl)
  by_cases h1:1<(Zx w [l] c).length
  ·obtain⟨N,hN⟩:=Zm2 (w:=w) (wf:=wfB w p) (Zx w [l] c) λq hq=>by
    have hqc:=Zep hc.1 hq;obtain⟨s,hs,rfl⟩:=Zbk.mp hq;refine ih _ ⟨hqc.1,hqc.2.1⟩ (λl' hl' hn=>?_) λs' hs'=>?_
    ·by_cases e:l'=l
     ·rw[e]; exact Zk8 (Zz0.mpr rfl)
     ·exact(hu l' hl' λz=>by rcases Zz7.mp z with z | z; exact e z; exact hn z).sub hqc.2.2
    ·exact Zrq n _ _ (ZpM hqc.2.2 s') (hw s' (hqc.2.2 s' hs'))
   exact Zu7 hv hp (hks l (ZzT ..)) h1 hN
  ·refine ih c hc (λl' hl' hn=>?_) hw
   by_cases e:l'=l
   ·rw[e]
    intro x hx y hy;have hxp:Zcy w [l] c x∈Zx w [l] c:=Zbk.mpr ⟨x,hx,rfl⟩;have hyp:Zcy w [l] c y∈Zx w [l] c:=Zbk.mpr ⟨y,hy,rfl⟩;have exy:Zcy w [l] c x=Zcy w [l] c y:=by
     match hq:Zx w [l] c,h1,hxp,hyp with
     | [],_,hxp,_=>simp at hxp
     | [q],_,hxp,hyp=>rw[Zz0.mp hxp,Zz0.mp hyp]
     | _::_::_,h1,_,_=>simp at h1
    have:x∈Zcy w [l] c y:=by rw[<-exy]; exact Zk2.mpr ⟨hx,rfl⟩
    exact(Zk2.mp this).2
   ·exact hu l' hl' λz=>by rcases Zz7.mp z with z | z; exact e z; exact hn z
 | 0,[],_,c,hc,hu,hw=>by obtain⟨s,hs⟩:=ZBf _ hc.2;have:=hw s hs;rw[Zo3 (λl hl=>hu l hl (by simp)) hs]at this;exact⟨0,.there this⟩
 | n+1,[],_,c,hc,hu,hw=>by
  obtain⟨s,hs⟩:=ZBf _ hc.2;have q:=hw s hs;rw[Zo3 (λl hl=>hu l hl (by simp)) hs]at q;have q:(ZC w c||(ZzX w.deeds.length).any λd=>Zad w c d&&(Zx w (alV w) (ZY w c d)).all λp=>Win w (alV w) n p)=true:=q;rw[ZBd]at q;rcases q with q | q
  ·exact⟨0,.there q⟩
  ·obtain⟨d,hd,q⟩:=ZAH.mp q
   rw[ZAc]at q;have hd':=ZAi.mp hd;have hlc:=ZdR hv hc.1 (show(0:Int)<=(d:Int) by omega) (by omega);obtain⟨m,hm⟩:=Zmv n (alV w) (λ_ h=>h) (ZY w c d) ⟨hlc,ZgE hc.2 q.1⟩ (λl hl hn=>absurd hl hn) λs' hs'=>ZzY.mp q.2 _ (Zbk.mpr ⟨s',hs',rfl⟩);exact⟨_,Zxb hv hp hc.2 (Zms hd' q.1) hm⟩
termination_by n ks=>(n,ks.length)
omit hp hv in
theorem Zww(h:Buy w (wfB w p) m c):∀c',(∀x∈c',x∈c)->(∀l∈alV w,Uni w c' l)->∃n,Win w (alV w) n c'=true:=by
 induction h with
 | there h=>intro c' hs _; exact⟨0,ZjB hs h⟩
 | @way n k c y hy hk h1 _ ih =>
  intro c' hs hu
  by_cases h0:c'=[]
  ·subst h0; exact⟨0,rfl⟩
  rcases Zfb hy with⟨d,hd,rfl⟩ | ⟨l,hl,rfl,_⟩
  ·obtain⟨d0,d1,d2⟩:=Zbs hd
   have e:((d.toNat:Nat):Int)=d:=ZCp d0;obtain⟨N,hN⟩:=ZjC (w:=w) (ls:=alV w) (Zx w (alV w) (ZY w c' d)) λq hq=>by obtain⟨s,hs',rfl⟩:=Zbk.mp hq;obtain⟨x,hx⟩:=ZBf _ h0;have hne:ZY w c d≠[]:=ZC0 (Zki hs d s hs');refine ih (ZY w c d) ?_ _ (λz hz=>Zki hs d z (ZAh.mp hz).1) λl hl=>Zk8 hl;rw[Zo5,parts_nil w hne];exact Zz0.mpr rfl
   refine⟨N+1,?_⟩;show(ZC w c'||(ZzX w.deeds.length).any λd=>Zad w c' d&&(Zx w (alV w) (ZY w c' d)).all λp=>Win w (alV w) N p)=true;rw[ZBd];refine .inr (ZAH.mpr ⟨d.toNat,ZAi.mpr (by omega),?_⟩);rw[e,ZAc];exact⟨Zq4 hs d2,ZzY.mpr λq hq=>hN q hq⟩
  ·obtain⟨s,hs'⟩:=ZBf _ h0
   refine ih (Zcy w [l] c s) (Zbk.mpr ⟨s,hs s hs',rfl⟩) c' (λx hx=>Zk2.mpr ⟨hs x hx,hu l hl x hx s hs'⟩) hu
theorem Zwr:(∃n,Buy w (wfB w p) n w.beg)↔∃n,Zsf w (alV w) n:=by
 constructor
 ·rintro ⟨n,h⟩
  exact ZjC _ λq hq=>by obtain⟨s,hs,rfl⟩:=Zbk.mp hq;exact Zww h _ (λx hx=>(ZAh.mp hx).1) λl hl=>Zk8 hl
 ·rintro ⟨n,h⟩
  exact Zmv hv hp n (alV w) (λ_ h=>h) w.beg ⟨hv.bc,hv.b1⟩ (λl hl hn=>absurd hl hn) λs hs=>h _ (Zbk.mpr ⟨s,hs,rfl⟩)
omit hv hp in
theorem ZuO(h:Buy w (wfB w p) 0 c):ZC w c=true:=by
 generalize e:(0:Nat)=z at h;cases h with
 | there h=>exact h
 | way _ _ h1 _=>omega
end
theorem Zxm:ApB ap:=⟨⟨λ_=>rfl,λ_ _=>rfl⟩,λ_=>rfl,λ_ _=>rfl⟩
theorem gB(a b:Bool):gEq (.bool a) (.bool b)=some (.bool (a==b))/\gNe (.bool a) (.bool b)=some (.bool (!(a==b))):=by
 have h:∀a:Bool,Zao (.bool a)=true:=λa=>by cases a<;>decide +kernel
 have h2:ZA1 (.bool a) (.bool b)=(a==b):=by cases a<;>cases b<;>decide +kernel
 unfold gEq gNe;rw[h,h,h2];exact⟨rfl,rfl⟩
theorem if_false{c:TF}{a:SF}{r:HM.Env}(h:c r=some false):sIf c a Zay r=some (.nx r):=by unfold sIf;rw[h];rfl
theorem ZkS(ns:List Int)(h:ns.length<=63):Zgl ap [.list (ns.map dI)]=some (.bool true):=by
 have hv:=Wk.Ok.v (ZwZ ns 1);have h7:(wkV ns 1).many<=7:=by have:(wkV ns 1).many=ZU ns 1:=rfl;have:=(Zkd ns 1).2;omega
 have hw:=Zuq ns 1 h;have hc0:=Zer ns 0;have hpr:=ZnL hv (Zy ns 0);have hp:=ZyH (wkV ns 1) (Zy ns 0);generalize wkV ns 1=w at *;generalize prV w (Zy ns 0)=p at *;have hw':Zbb [.list (ns.map dI),.int 1]=some w.d:=hw;have hc':Zam [.list (ns.map dI),.int 0]=some (.int (Zy ns 0)):=hc0;have hal:=Zpe hv;obtain⟨d1,e1,f1⟩:=ZqJ hv h7 hp Zxm;obtain⟨L,R,e2,F,hbl⟩:=Zpm hv h7 hp;obtain⟨d3,e3,f3⟩:=Zte hv h7 (ZhR w) Zxm.d;have hth:=Zjw hv (c:=w.beg) (by have:=hv.bc.len; omega);have hbf:=Zwr hv hp;have hd:d1=oI (Zg R w.beg):=by
  rcases F.at_ hbl with⟨n,h1,h2⟩ | ⟨h1,h2⟩
  ·rw[h1]
   rcases f1 with⟨m,rfl,g⟩ | ⟨rfl,g⟩
   ·rw[g.unique h2]; rfl
   ·exact absurd h2.1 (g n)
  ·rw[h1]
   rcases f1 with⟨m,rfl,g⟩ | ⟨rfl,g⟩
   ·exact absurd g.1 (h2 m)
   ·rfl
 have h1n:Zfd d1 .none=some (.bool (!(Zg R w.beg).isSome)):=by rw[hd];cases Zg R w.beg<;>rfl
 have h3n:Zfd d3 .none=some (.bool (!(Zg R w.beg).isSome)):=by
  rcases F.at_ hbl with⟨n,h1,h2⟩ | ⟨h1,h2⟩
  ·rw[h1]
   rcases f3 with⟨m,rfl,g,_⟩ | ⟨rfl,g⟩
   ·rfl
   ·obtain⟨m,hm⟩:=hbf.mp ⟨n,h2.1⟩
    exact absurd hm (g m)
  ·rw[h1]
   rcases f3 with⟨m,rfl,g,_⟩ | ⟨rfl,g⟩
   ·obtain⟨n,hn⟩:=hbf.mpr ⟨m,g⟩
    exact absurd hn (h2 n)
   ·rfl
 have hk:Za1 (tupI w.beg)=some (Zab w.beg):=ZaD w.beg;have hlk:=Zb7 R w.beg;have hgo:((Zg (encM R) (Zab w.beg)).getD .none)=oI (Zg R w.beg):=by rw[hlk];cases Zg R w.beg<;>rfl
 have hzero:∀n:Nat,Zg R w.beg=some (n:Int)->(decide ((n:Int)=0))=ZC w w.beg:=λn hn=>by
  rcases F.at_ hbl with⟨m,h1,h2⟩ | ⟨h1,h2⟩
  ·rw[h1]at hn
   have hmn:m=n:=by have:=ZAz hn; omega
   subst hmn;cases ht:ZC w w.beg with
   | true=>have:=h2.min (.there ht (n:=0));exact decide_eq_true (by omega)
   | false =>
    refine decide_eq_false λz=>?_;have:m=0:=by omega
    subst this;rw[ZuO h2.1]at ht;cases ht
  ·rw[h1]at hn; cases hn
 subst hd;show Z2 (Zn6 ap [some (.pl (.list (ns.map dI))),none,none,none,none])=_;unfold Zn6;refine ZO (P:=λq=>Z2 q=_) (r':=[some (.pl (.list (ns.map dI))),some (.pl w.d),none,none,none]) (by simp[hw']) ?_;refine ZO (P:=λq=>Z2 q=_) (r':=[some (.pl (.list (ns.map dI))),some (.pl w.d),some (.pl p.d),none,none]) (by simp[hc',hpr]) ?_;refine ZO (P:=λq=>Z2 q=_) (r':=[some (.pl (.list (ns.map dI))),some (.pl w.d),some (.pl p.d),some (.pl (oI (Zg R w.beg))),none]) (by simp[e1]) ?_;refine ZO (P:=λq=>Z2 q=_) (r':=[some (.pl (.list (ns.map dI))),some (.pl w.d),some (.pl p.d),some (.pl (oI (Zg R w.beg))),some (.pl (oI (Zg R w.beg)))]) ?_ ?_
 ·have hb:eIx (Zo 1) (eC (.int 3)) [some (.pl (.list (ns.map dI))),some (.pl w.d),some (.pl p.d),some (.pl (oI (Zg R w.beg))),none]=some (tupI w.beg):=rfl
  generalize eIx (Zo 1) (eC (.int 3))=E at hb ⊢;simp[e2,dec_enc,hb,hk,hgo]
 generalize (some (.pl (.list (ns.map dI))):Option B)=sc;have hb:eIx (Zo 1) (eC (.int 3)) [sc,some (.pl w.d),some (.pl p.d),some (.pl (oI (Zg R w.beg))),some (.pl (oI (Zg R w.beg)))]=some (tupI w.beg):=rfl;refine ZO (P:=λq=>Z2 q=_) (if_false (ZvF (x:=.bool (!(Zg R w.beg).isSome)) (y:=.bool (!(Zg R w.beg).isSome)) h1n ?_ (by rw[(gB _ _).2]; simp))) ?_
 ·have:Zm (Zel ap) (Zc (Za 1) (Zc (Zm Zca (Zc (Za 1) Zi)) Zi)) [sc,some (.pl w.d),some (.pl p.d),some (.pl (oI (Zg R w.beg))),some (.pl (oI (Zg R w.beg)))]=some d3:=by simp[hal,e3]
  unfold op2;rw[this];exact h3n
 cases hq:Zg R w.beg with
 | none=>rfl
 | some k =>
  obtain⟨n,rfl⟩:∃n:Nat,k=(n:Int):=by
   rcases F.at_ hbl with⟨m,h1,_⟩ | ⟨h1,_⟩
   ·rw[h1]at hq; exact⟨m,(ZAz hq).symm⟩
   ·rw[h1]at hq; cases hq
  have hz:=hzero n hq;rw[hq]at hb;refine ZO (P:=λq=>Z2 q=_) (r':=[sc,some (.pl w.d),some (.pl p.d),some (.pl (oI (some (n:Int)))),some (.pl (oI (some (n:Int))))]) rfl ?_;have g1:gEq (.int (n:Int)) (.int (n:Int))=some (.bool true):=Zeg (ZdE 1 _) (by decide);have g2:gEq (.int (n:Int)) (.int 0)=some (.bool (ZC w w.beg)):=by
   rw[<-hz]
   by_cases e:(n:Int)=0
   ·rw[e,Zeg (ZdE 1 _) (by decide)]
    rfl
   ·rw[ZgP (ZdE 1 _) (ZdE 1 _) (by decide) (by decide) (λz=>e (by injection z)),decide_eq_false e]
  have a1:Zm ZcD (Zc (Za 3) Zi) [sc,some (.pl w.d),some (.pl p.d),some (.pl (oI (some (n:Int)))),some (.pl (oI (some (n:Int))))]=some (.bool true):=rfl;have a2:op2 gEq (Za 3) (Za 4) [sc,some (.pl w.d),some (.pl p.d),some (.pl (oI (some (n:Int)))),some (.pl (oI (some (n:Int))))]=some (.bool true):=g1;have a3:op2 gEq (Za 3) (eC (.int 0)) [sc,some (.pl w.d),some (.pl p.d),some (.pl (oI (some (n:Int)))),some (.pl (oI (some (n:Int))))]=some (.bool (ZC w w.beg)):=g2;have a4:Zm Zbd (Zc (Za 1) (Zc (eIx (Zo 1) (eC (.int 3))) Zi)) [sc,some (.pl w.d),some (.pl p.d),some (.pl (oI (some (n:Int)))),some (.pl (oI (some (n:Int))))]=some (.bool (ZC w w.beg)):=by generalize eIx (Zo 1) (eC (.int 3))=E at hb ⊢;simp[hb,hth]
  generalize Zm ZcD (Zc (Za 3) Zi)=E1 at a1 ⊢;generalize Zm Zbd (Zc (Za 1) (Zc (eIx (Zo 1) (eC (.int 3))) Zi))=E4 at a4 ⊢;generalize op2 gEq (Za 3) (Za 4)=E2 at a2 ⊢;generalize op2 gEq (Za 3) (eC (.int 0))=E3 at a3 ⊢;have a5:op2 gEq E3 E4 [sc,some (.pl w.d),some (.pl p.d),some (.pl (oI (some (n:Int)))),some (.pl (oI (some (n:Int))))]=some (.bool true):=by unfold op2;rw[a3,a4];show gEq (.bool (ZC w w.beg)) (.bool (ZC w w.beg))=_;rw[(gB _ _).1];simp
  unfold ZE ZeT;rw[a1,a2,a5];rfl
end HG23
namespace HT
open PySem PySem.Spec PyProof.Rows L2 HP HM
open HG
open HG4
open HG5
open HG23
variable{Tl c f:Addr}{osl:Array (Option Value)}{fd:FuncData}{h:Heap}{ps:List Str}{an od:Option Addr}{st:Stmt}{x:Str}{cdv ct doc oc pm:Value}
def top(i:Nat):Stmt:=PySem.Challenge.pw_halfseen_k23_least_prices.main.body.getD i (.Pass ⟨0,0,0,0⟩)
abbrev Zgm:Stmt:=top 10
abbrev Zjd:Stmt:=top 11
abbrev Zgn:Stmt:=top 12
abbrev ZfZ:Stmt:=top 13
abbrev Zf0:Stmt:=top 14
abbrev ZeD:Stmt:=top 15
abbrev ZeE:Stmt:=top 16
abbrev Zho:Stmt:=top 17
abbrev Zgo:Stmt:=top 18
abbrev Zhp:Stmt:=top 19
abbrev Zhq:Stmt:=top 20
abbrev Zhr:Stmt:=top 21
abbrev Zh8:Stmt:=top 22
abbrev Zh9:Stmt:=top 23
abbrev Zeb:Stmt:=top 24
abbrev Zgp:Stmt:=top 25
abbrev Zf1:Stmt:=top 26
abbrev ZdN:Stmt:=top 28
abbrev Zd4:Stmt:=top 29
abbrev Zje:Stmt:=top 30
abbrev Zg4:Stmt:=top 31
abbrev Zfm:Stmt:=top 32
abbrev ZcF:Stmt:=top 34
abbrev ZeF:Stmt:=top 35
abbrev Zc3:Stmt:=top 36
abbrev ZfJ:Stmt:=top 37
abbrev Zdc:Stmt:=top 38
abbrev ZcT:Stmt:=top 39
abbrev ZeG:Stmt:=top 40
abbrev Z0:Stmt:=top 41
abbrev Zfn:Stmt:=top 42
abbrev Zgq:Stmt:=top 43
abbrev Zjf:Stmt:=top 44
abbrev Zdm:Stmt:=top 48
abbrev ZdT:Stmt:=top 49
abbrev Zdn:Stmt:=top 50
abbrev Zcq:Stmt:=top 51
abbrev Ze0:Stmt:=top 52
abbrev Zfo:Stmt:=top 53
abbrev ZJ:Stmt:=top 54
abbrev Zhs:Stmt:=top 55
abbrev Zht:Stmt:=top 57
abbrev Zia:Stmt:=top 58
abbrev Zgr:Stmt:=top 59
abbrev ZeH:Stmt:=top 60
abbrev Zhu:Stmt:=top 61
abbrev Zhv:Stmt:=top 62
abbrev ZeI:Stmt:=top 63
abbrev Zib:Stmt:=top 64
abbrev ZdB:Stmt:=top 65
abbrev ZeJ:Stmt:=top 66
abbrev Zc4:Stmt:=top 67
abbrev Zfp:Stmt:=top 68
abbrev ZcG:Stmt:=top 69
abbrev Zgs:Stmt:=top 70
structure Txt(K:ZzS)(mg:Str->Option Value):Prop where
 n_len:mg "len" = none
 n_tuple:mg "tuple" = none
 n_list:mg "list" = none
 n_set:mg "set" = none
 n_sorted:mg "sorted" = none
 n_range:mg "range" = none
 n_all:mg "all" = none
 n_isinstance:mg "isinstance" = none
 n_int:mg "int" = none
 n_bool:mg "bool" = none
 n_max:mg "max" = none
 n_min:mg "min" = none
 n_enumerate:mg "enumerate" = none
 c_MOST_STATES:∃t,mg "MOST_STATES" = some (.int 8 t)
 c_MOST_DEEDS:∃t,mg "MOST_DEEDS" = some (.int 5 t)
 c_MOST_LOOKS:∃t,mg "MOST_LOOKS" = some (.int 4 t)
 c_MOST_SEEN:∃t,mg "MOST_SEEN" = some (.int 9 t)
 c_LEAST_PRICE:∃t,mg "LEAST_PRICE" = some (.int 1 t)
 c_MOST_PRICE:∃t,mg "MOST_PRICE" = some (.int 20 t)
section
variable[FX]{P:Program}{w:World}{K:ZzS}{mg:Str->Option Value}{base:Heap}{k:Nat}
theorem Zn7:Zs ["_law_script","_law_k"] ["_law_script","_law_k"] (Ze Zht):=⟨rfl,rfl,rfl,by decide +kernel,rfl,by decide +kernel,by decide +kernel⟩
theorem Zn8(T:Txt K mg)(Fn:Fun K "_law_cell" "_law_cell" Zht f fd)(hm:mg "_law_cell" = some (.ref f))(hb:Binds K fd ["_law_script","_law_k"] []):Callee P w K mg base (k+1) "_law_cell" Zam :=
 Zr Fn Zn7 hm hb λcdv A outer s H E hr=>by
  have hu:=ZH hr;exact(Zh (ZaK (Zas cLt (Zb 1) (Za8 T.n_len (Zp 0))) (Zk (Zz (ZL (Zp 0) (Zb 1)))) Z1)
  (Zk (Zz Zj)))
theorem Zqi:Zs ["_law_cell_here","_law_prime","_law_many"] ["_law_cell_here","_law_prime","_law_many"] (Ze Zia):=⟨rfl,rfl,rfl,by decide +kernel,rfl,by decide +kernel,by decide +kernel⟩
theorem Zqj(T:Txt K mg)(Fn:Fun K "_law_mix" "_law_mix" Zia f fd)(hm:mg "_law_mix" = some (.ref f))(hb:Binds K fd ["_law_cell_here","_law_prime","_law_many"] []):Callee P w K mg base (k+1) "_law_mix" ZI :=
 Zr Fn Zqi hm hb λcdv A outer s H E hr=>by have hu:=ZH hr;exact(Zk (Zz (ZG oMod (ZG oMod (ZG ZeV (Zb 0) Zj) (Zb 1)) (Zb 2))))
theorem ZfK:Zs ["_law_cell_here","_law_many","_law_least_here","_law_found"] ["_law_cell_here","_law_many","_law_least_here"] (Ze ZeH):=⟨rfl,rfl,rfl,by decide +kernel,rfl,by decide +kernel,by decide +kernel⟩
theorem Znb(T:Txt K mg)(ZM:Callee P w K mg base k "_law_mix" ZI)(Fn:Fun K "_law_crowd" "_law_crowd" ZeH f fd)(hm:mg "_law_crowd" = some (.ref f))(hb:Binds K fd ["_law_cell_here","_law_many","_law_least_here"] []):Callee P w K mg base (k+1) "_law_crowd" ZbO :=
 Zr Fn ZfK hm hb λcdv A outer s H E hr=>by
  have hu:=ZH hr;exact(Zh (Zeu 3 ZfK.nd rfl rfl (N:=["_law_state","_law_cell_here","_law_many","_law_least_here","_law_found"]) (ZD (sc:=Ze ZeH) (XN:=["_law_cell_here","_law_many","_law_least_here","_law_found"])) (ZbN T.n_range (Zb 1)) (λ_ _ _ _ _=>(Zc6 (Zas cLt (Zl ZM hr (Zd (ZG Zbn (ZG Zbn (Zb 1) (ZG ZeV (ZG ZeV Zj (Zb 0)) (Zb 0))) (ZG ZeV Zj (Zb 0))) (Zd Zj (Zd Zj Zf)))) Zj))) (λ_ _ _ _ _=>(Zb 0)))
  (Zh (ZaK (Zas cLt (Za8 T.n_len (Zp 3)) (Zb 2)) (Zk (Zaz 3 ZfK.nd (ZbL (Zd (Zl ZM hr (Zd (Zb 0) (Zd Zj (Zd (Zb 1) Zf)))) Zf)))) Z1)
  (Zk (Zz (Zaj T.n_tuple (Zp 3))))))
theorem ZcH:Zs ["_law_cell_here","_law_many","_law_found","_law_state","_law_seed","_law_way","_law_row"] ["_law_cell_here","_law_many"] (Ze Zhu):=⟨rfl,rfl,rfl,by decide +kernel,rfl,by decide +kernel,by decide +kernel⟩
theorem Zn9(T:Txt K mg)(ZM:Callee P w K mg base k "_law_mix" ZI)(Fn:Fun K "_law_deed" "_law_deed" Zhu f fd)(hm:mg "_law_deed" = some (.ref f))(hb:Binds K fd ["_law_cell_here","_law_many"] []):Callee P w K mg base (k+1) "_law_deed" Zc8 :=
 Zr Fn ZcH hm hb λcdv A outer s H E hr=>by
  have hu:=ZH hr;exact(Zh (Zaz 2 ZcH.nd (ZbL Zf))
  (Zh (ZbM 3 ZcH.nd rfl rfl (ZbN T.n_range (Zb 1)) (Zh (ZP 4 ZcH.nd (ZG Zbn (ZG Zbn (Zb 0) (ZG ZeV (ZG ZeV Zj (Zb 3)) (Zb 3))) (ZG ZeV Zj (Zb 3))))
  (Zh (ZP 5 ZcH.nd (Zl ZM hr (Zd (Zb 4) (Zd Zj (Zd Zj Zf)))))
  (Zh (Zaz 6 ZcH.nd (Zt1 (Zl ZM hr (Zd (Zb 4) (Zd Zj (Zd (Zb 1) Zf)))) Zcz))
  (Zh (ZaK (Zas cLt (Zb 5) Zj) (Zk (Zgg hu 6 (Zl ZM hr (Zd (Zb 4) (Zd Zj (Zd (Zb 1) Zf)))) Zcz)) Z1)
  (Zh (Zds 2 (Zaj T.n_tuple (ZaW (Zg1 T.n_sorted rfl (Zp 6)))))
  (Zk (ZaK (Zas (cEq hr) (Zb 5) Zj) (Zk (ZvK 2 ZwM (Zbq Zf))) Z1))))))))
  (Zk (Zz (Zaj T.n_tuple (Zp 2))))))
theorem Zcc:Zs ["_law_cell_here","_law_many","_law_left","_law_right","_law_state","_law_ahead","_law_behind","_law_slips"] ["_law_cell_here","_law_many"] (Ze Zhv):=⟨rfl,rfl,rfl,by decide +kernel,rfl,by decide +kernel,by decide +kernel⟩
theorem Zoa(T:Txt K mg)(ZM:Callee P w K mg base k "_law_mix" ZI)(Fn:Fun K "_law_walk" "_law_walk" Zhv f fd)(hm:mg "_law_walk" = some (.ref f))(hb:Binds K fd ["_law_cell_here","_law_many"] []):Callee P w K mg base (k+1) "_law_walk" Zc9 :=
 Zr Fn Zcc hm hb λcdv A outer s H E hr=>by
  have hu:=ZH hr;exact(Zh (Zaz 2 Zcc.nd (ZbL Zf))
  (Zh (Zaz 3 Zcc.nd (ZbL Zf))
  (Zh (ZbM 4 Zcc.nd rfl rfl (ZbN T.n_range (Zb 1)) (Zh (ZP 5 Zcc.nd (ZwO T.n_max rfl (ZG Zt9 (Zb 4) Zj) Zj))
  (Zh (ZP 6 Zcc.nd (ZwP T.n_min rfl (ZG Zbn (Zb 4) Zj) (ZG Zt9 (Zb 1) Zj)))
  (Zh (ZP 7 Zcc.nd (ZdX (cEq hr) (Zl ZM hr (Zd (ZG Zbn (Zb 0) (ZG ZeV Zj (Zb 4))) (Zd Zj (Zd Zj Zf)))) Zj))
  (Zh (Zds 2 (Zaj T.n_tuple (ZaW (Zi2 T.n_sorted T.n_set rfl (ZaW (Zlf (ZaW (ZbL (Zd (Zb 5) Zf))) (ZaW (ZwQ (ZaW (ZbL (Zd (Zb 4) Zf))) (Zt0 T.n_int (Zb 7))))))))))
  (Zk (Zds 3 (Zbq (Zd (Zb 6) Zf)))))))))
  (Zk (Zz (Zbq (Zd (Zaj T.n_tuple (Zp 2)) (Zd (Zaj T.n_tuple (Zp 3)) Zf))))))))
theorem Z9:Zs ["_law_script","_law_at","_law_cell_here","_law_many","_law_deeds","_law_k","_law_looks","_law_seed","_law_most","_law_begin","_law_goal"] ["_law_script","_law_at"] (Ze ZeI):=⟨rfl,rfl,rfl,by decide +kernel,rfl,by decide +kernel,by decide +kernel⟩
theorem Znc(T:Txt K mg)(Zbe:Callee P w K mg base k "_law_cell" Zam)(ZeK:Callee P w K mg base k "_law_crowd" ZbO)(ZM:Callee P w K mg base k "_law_mix" ZI)(Zhw:Callee P w K mg base k "_law_deed" Zc8)(Zhx:Callee P w K mg base k "_law_walk" Zc9)(Fn:Fun K "_law_works" "_law_works" ZeI f fd)(hm:mg "_law_works" = some (.ref f))(hb:Binds K fd ["_law_script","_law_at"] []):Callee P w K mg base (k+1) "_law_works" Zbb :=
 Zr Fn Z9 hm hb λcdv A outer s H E hr=>by
  have hu:=ZH hr;exact(Zh (ZP 2 Z9.nd (Zl Zbe hr (Zd (Zb 0) (Zd (Zb 1) Zf))))
  (Zh (ZP 3 Z9.nd (ZG Zbn Zj (Zl ZM hr (Zd (Zb 2) (Zd Zj (Zd Zj Zf))))))
  (Zh (ZaK (Zas cGt (Za8 T.n_len (Zp 0)) Zj) (Zk (ZP 3 Z9.nd (ZG Zbn Zj (Zl ZM hr (Zd (Zb 2) (Zd Zj (Zd Zj Zf))))))) Z1)
  (Zh (Zaz 4 Z9.nd (ZbL Zf))
  (Zh (ZbM 5 Z9.nd rfl rfl (ZbN T.n_range (ZG Zbn Zj (Zl ZM hr (Zd (Zb 2) (Zd Zj (Zd Zj Zf)))))) (Zk (Zds 4 (Zl Zhw hr (Zd (ZG Zbn (Zl Zbe hr (Zd (Zb 0) (Zd (ZG Zbn (ZG Zbn (Zb 1) Zj) (Zb 5)) Zf))) (ZG ZeV Zj (Zb 5))) (Zd (Zb 3) Zf))))))
  (Zh (ZaK (Zas (cEq hr) (Zl ZM hr (Zd (Zb 2) (Zd Zj (Zd Zj Zf)))) Zj) (Zk (Zaz 4 Z9.nd (Zlf (ZaW (Zi0 T.n_list (Z6 (Zl Zhx hr (Zd (Zl Zbe hr (Zd (Zb 0) (Zd (ZG Zbn (Zb 1) Zj) Zf))) (Zd (Zb 3) Zf)))))) (ZaW (ZwR (Zp 4) ZvS (ZvR Zj)))))) Z1)
  (Zh (Zaz 6 Z9.nd (ZbL Zf))
  (Zh (ZbM 5 Z9.nd rfl rfl (ZbN T.n_range (Zl ZM hr (Zd (Zb 2) (Zd Zj (Zd Zj Zf))))) (Zh (ZP 7 Z9.nd (ZG Zbn (Zl Zbe hr (Zd (Zb 0) (Zd (ZG Zbn (ZG Zbn (Zb 1) Zj) (Zb 5)) Zf))) (ZG ZeV Zj (Zb 5))))
  (Zh (ZP 8 Z9.nd (ZG Zbn Zj (Zl ZM hr (Zd (Zb 7) (Zd Zj (Zd Zj Zf))))))
  (Zk (Zds 6 (Zaj T.n_tuple (ZaW (Zah rfl rfl (N:=["_law_state","_law_script","_law_at","_law_cell_here","_law_many","_law_deeds","_law_k","_law_looks","_law_seed","_law_most","_law_begin","_law_goal"]) (ZD (sc:=Ze ZeI) (XN:=["_law_script","_law_at","_law_cell_here","_law_many","_law_deeds","_law_k","_law_looks","_law_seed","_law_most","_law_begin","_law_goal"])) (ZbN T.n_range (Zb 3)) (λ_ _ _ _ _=>ZaY) (λ_ _ _ _ _=>(Zl ZM hr (Zd (ZG Zbn (Zb 8) (ZG ZeV (ZG ZeV Zj (Zb 0)) (Zb 0))) (Zd Zj (Zd (Zb 9) Zf)))))))))))))
  (Zh (ZP 9 Z9.nd (Zl ZeK hr (Zd (Zl Zbe hr (Zd (Zb 0) (Zd (ZG Zbn (Zb 1) Zj) Zf))) (Zd (Zb 3) (Zd Zj Zf)))))
  (Zh (ZaK (Zas (cEq hr) (Zl ZM hr (Zd (Zb 2) (Zd Zj (Zd Zj Zf)))) Zj) (Zk (ZP 9 Z9.nd (Zks T.n_tuple T.n_range rfl (Zb 3)))) Z1)
  (Zh (ZP 10 Z9.nd (Zl ZeK hr (Zd (Zl Zbe hr (Zd (Zb 0) (Zd (ZG Zbn (Zb 1) Zj) Zf))) (Zd (Zb 3) (Zd Zj Zf)))))
  (Zk (Zz (Zbq (Zd (Zb 3) (Zd (Zaj T.n_tuple (Zp 4)) (Zd (Zaj T.n_tuple (Zp 6)) (Zd (Zb 9) (Zd (Zb 10) Zf)))))))))))))))))))
theorem Ze1:Zs ["_law_works_here","_law_cell_here","_law_deeds","_law_looks"] ["_law_works_here","_law_cell_here"] (Ze Zc4):=⟨rfl,rfl,rfl,by decide +kernel,rfl,by decide +kernel,by decide +kernel⟩
theorem Zl1(T:Txt K mg)(ZM:Callee P w K mg base k "_law_mix" ZI)(Fn:Fun K "_law_prices" "_law_prices" Zc4 f fd)(hm:mg "_law_prices" = some (.ref f))(hb:Binds K fd ["_law_works_here","_law_cell_here"] []):Callee P w K mg base (k+1) "_law_prices" Zc1 :=
 Zr Fn Ze1 hm hb λcdv A outer s H E hr=>by
  have hu:=ZH hr;exact(Zh (ZP 2 Ze1.nd (Zaj T.n_tuple (ZaW (Zah rfl rfl (N:=["_law_k","_law_works_here","_law_cell_here","_law_deeds","_law_looks"]) (ZD (sc:=Ze Zc4) (XN:=["_law_works_here","_law_cell_here","_law_deeds","_law_looks"])) (ZbN T.n_range (Za8 T.n_len (Z6 (ZL (Zp 0) Zj)))) (λ_ _ _ _ _=>ZaY) (λ_ _ _ _ _=>(ZG Zbn Zj (Zl ZM hr (Zd (ZG Zbn (Zb 2) (ZG ZeV Zj (Zb 0))) (Zd Zj (Zd Zj Zf))))))))))
  (Zh (ZP 3 Ze1.nd (Zaj T.n_tuple (ZaW (Zah rfl rfl (N:=["_law_k","_law_works_here","_law_cell_here","_law_deeds","_law_looks"]) (ZD (sc:=Ze Zc4) (XN:=["_law_works_here","_law_cell_here","_law_deeds","_law_looks"])) (ZbN T.n_range (Za8 T.n_len (Z6 (ZL (Zp 0) Zj)))) (λ_ _ _ _ _=>ZaY) (λ_ _ _ _ _=>(ZG Zbn Zj (Zl ZM hr (Zd (ZG Zbn (ZG Zbn (Zb 2) (ZG ZeV Zj (Zb 0))) Zj) (Zd Zj (Zd Zj Zf))))))))))
  (Zk (Zz (Zbq (Zd (Zb 2) (Zd (Zb 3) Zf)))))))
theorem Znd:Zs ["thing","least","most"] ["thing","least","most"] (Ze Zgm):=⟨rfl,rfl,rfl,by decide +kernel,rfl,by decide +kernel,by decide +kernel⟩
theorem Zne(T:Txt K mg)(Fn:Fun K "is_number" "is_number" Zgm f fd)(hm:mg "is_number" = some (.ref f))(hb:Binds K fd ["thing","least","most"] []):Callee P w K mg base (k+1) "is_number" Zat :=
 Zr Fn Znd hm hb λcdv A outer s H E hr=>by
  have hu:=ZH hr;exact(Zh (ZaK (ZnX (Zld (ZbK (Zkr T.n_isinstance T.n_bool (Zb 0))) (ZiZ (ZcY (ZbK (Zle T.n_isinstance T.n_int (Zb 0))))))) (Zk (Zz Zcz)) Z1)
  (Zk (Zz (ZnY cLe cLe (Zb 1) (Zb 0) (Zb 2)))))
theorem Zd5:Zs ["thing","many","least","number"] ["thing","many"] (Ze Zgn):=⟨rfl,rfl,rfl,by decide +kernel,rfl,by decide +kernel,by decide +kernel⟩
theorem Znf(T:Txt K mg)(ZaH:Callee P w K mg base k "is_number" Zat)(Fn:Fun K "is_rising" "is_rising" Zgn f fd)(hm:mg "is_rising" = some (.ref f))(hb:Binds K fd ["thing","many"] []):Callee P w K mg base (k+1) "is_rising" Zaa :=
 Zr Fn Zd5 hm hb λcdv A outer s H E hr=>by
  have hu:=ZH hr;exact(Zh (ZaK (ZcY (ZbK (Zi1 T.n_isinstance T.n_tuple (Zb 0)))) (Zk (Zz Zcz)) Z1)
  (Zh (ZP 2 Zd5.nd Zj)
  (Zh (ZbM 3 Zd5.nd rfl rfl (ZX (Zb 0)) (Zh (ZaK (ZcY (ZbK (Zl ZaH hr (Zd (Zb 3) (Zd (Zb 2) (Zd (ZG Zt9 (Zb 1) Zj) Zf)))))) (Zk (Zz Zcz)) Z1)
  (Zk (ZP 2 Zd5.nd (ZG Zbn (Zb 3) Zj)))))
  (Zk (Zz Zcz)))))
theorem Zob:Zs ["thing","many"] ["thing","many"] (Ze Zho):=⟨rfl,rfl,rfl,by decide +kernel,rfl,by decide +kernel,by decide +kernel⟩
theorem Zoc(T:Txt K mg)(ZaI:Callee P w K mg base k "is_rising" Zaa)(Fn:Fun K "is_crowd" "is_crowd" Zho f fd)(hm:mg "is_crowd" = some (.ref f))(hb:Binds K fd ["thing","many"] []):Callee P w K mg base (k+1) "is_crowd" Zc7 :=
 Zr Fn Zob hm hb λcdv A outer s H E hr=>by have hu:=ZH hr;exact(Zk (Zz (Zdr (Zl ZaI hr (Zd (Zb 0) (Zd (Zb 1) Zf))) (ZdY (ZdX cGt (Za8 T.n_len (Zp 0)) Zj)))))
theorem ZrD:Zs ["thing","least","most"] ["thing","least","most"] (Ze Zjd):=⟨rfl,rfl,rfl,by decide +kernel,rfl,by decide +kernel,by decide +kernel⟩
theorem ZrE(T:Txt K mg)(Fn:Fun K "is_row" "is_row" Zjd f fd)(hm:mg "is_row" = some (.ref f))(hb:Binds K fd ["thing","least","most"] []):Callee P w K mg base (k+1) "is_row" Zaq :=
 Zr Fn ZrD hm hb λcdv A outer s H E hr=>by have hu:=ZH hr;exact(Zk (Zz (Zdr (Zi1 T.n_isinstance T.n_tuple (Zb 0)) (ZdY (ZnY cLe cLe (Zb 1) (Za8 T.n_len (Zp 0)) (Zb 2))))))
theorem Zqk:Zs ["thing","many"] ["thing","many"] (Ze ZfZ):=⟨rfl,rfl,rfl,by decide +kernel,rfl,by decide +kernel,by decide +kernel⟩
theorem Zql(T:Txt K mg)(Z7:Callee P w K mg base k "is_row" Zaq)(ZaI:Callee P w K mg base k "is_rising" Zaa)(Fn:Fun K "is_deed" "is_deed" ZfZ f fd)(hm:mg "is_deed" = some (.ref f))(hb:Binds K fd ["thing","many"] []):Callee P w K mg base (k+1) "is_deed" Zcm :=
 Zr Fn Zqk hm hb λcdv A outer s H E hr=>by have hu:=ZH hr;exact(Zk (Zz (Zdr (Zl Z7 hr (Zd (Zb 0) (Zd (Zb 1) (Zd (Zb 1) Zf)))) (ZdY (Zgf T.n_all rfl (ZaW (Zah rfl rfl (N:=["crowd","thing","many"]) (ZD (sc:=Ze ZfZ) (XN:=["thing","many"])) (ZX (Zb 0)) (λ_ _ _ _ _=>ZaY) (λ_ _ _ _ _=>(Zl ZaI hr (Zd (Zb 0) (Zd (Zb 2) Zf)))))))))))
theorem Zng:Zs ["thing","many"] ["thing","many"] (Ze ZeD):=⟨rfl,rfl,rfl,by decide +kernel,rfl,by decide +kernel,by decide +kernel⟩
theorem Znh(T:Txt K mg)(Z7:Callee P w K mg base k "is_row" Zaq)(Zic:Callee P w K mg base k "is_deed" Zcm)(Fn:Fun K "are_deeds" "are_deeds" ZeD f fd)(hm:mg "are_deeds" = some (.ref f))(hb:Binds K fd ["thing","many"] []):Callee P w K mg base (k+1) "are_deeds" ZcA :=
 Zr Fn Zng hm hb λcdv A outer s H E hr=>by have hu:=ZH hr;exact(Zk (Zz (Zdr (Zl Z7 hr (Zd (Zb 0) (Zd Zj (Zd (Zgb T.c_MOST_DEEDS) Zf)))) (ZdY (Zgf T.n_all rfl (ZaW (Zah rfl rfl (N:=["deed","thing","many"]) (ZD (sc:=Ze ZeD) (XN:=["thing","many"])) (ZX (Zb 0)) (λ_ _ _ _ _=>ZaY) (λ_ _ _ _ _=>(Zl Zic hr (Zd (Zb 0) (Zd (Zb 2) Zf)))))))))))
theorem Zqm:Zs ["thing","many"] ["thing","many"] (Ze Zf0):=⟨rfl,rfl,rfl,by decide +kernel,rfl,by decide +kernel,by decide +kernel⟩
theorem Zqn(T:Txt K mg)(Z7:Callee P w K mg base k "is_row" Zaq)(ZaH:Callee P w K mg base k "is_number" Zat)(Fn:Fun K "is_look" "is_look" Zf0 f fd)(hm:mg "is_look" = some (.ref f))(hb:Binds K fd ["thing","many"] []):Callee P w K mg base (k+1) "is_look" Zcn :=
 Zr Fn Zqm hm hb λcdv A outer s H E hr=>by have hu:=ZH hr;exact(Zk (Zz (Zdr (Zl Z7 hr (Zd (Zb 0) (Zd (Zb 1) (Zd (Zb 1) Zf)))) (ZdY (Zgf T.n_all rfl (ZaW (Zah rfl rfl (N:=["told","thing","many"]) (ZD (sc:=Ze Zf0) (XN:=["thing","many"])) (ZX (Zb 0)) (λ_ _ _ _ _=>ZaY) (λ_ _ _ _ _=>(Zl ZaH hr (Zd (Zb 0) (Zd Zj (Zd (Zgb T.c_MOST_SEEN) Zf))))))))))))
theorem Zni:Zs ["thing","many"] ["thing","many"] (Ze ZeE):=⟨rfl,rfl,rfl,by decide +kernel,rfl,by decide +kernel,by decide +kernel⟩
theorem Znj(T:Txt K mg)(Z7:Callee P w K mg base k "is_row" Zaq)(Zid:Callee P w K mg base k "is_look" Zcn)(Fn:Fun K "are_looks" "are_looks" ZeE f fd)(hm:mg "are_looks" = some (.ref f))(hb:Binds K fd ["thing","many"] []):Callee P w K mg base (k+1) "are_looks" ZcB :=
 Zr Fn Zni hm hb λcdv A outer s H E hr=>by have hu:=ZH hr;exact(Zk (Zz (Zdr (Zl Z7 hr (Zd (Zb 0) (Zd Zj (Zd (Zgb T.c_MOST_LOOKS) Zf)))) (ZdY (Zgf T.n_all rfl (ZaW (Zah rfl rfl (N:=["look","thing","many"]) (ZD (sc:=Ze ZeE) (XN:=["thing","many"])) (ZX (Zb 0)) (λ_ _ _ _ _=>ZaY) (λ_ _ _ _ _=>(Zl Zid hr (Zd (Zb 0) (Zd (Zb 2) Zf)))))))))))
theorem ZiS:Zs ["thing","many"] ["thing"] (Ze Zgo):=⟨rfl,rfl,rfl,by decide +kernel,rfl,by decide +kernel,by decide +kernel⟩
theorem Znk(T:Txt K mg)(Zhy:Callee P w K mg base k "is_crowd" Zc7)(ZaI:Callee P w K mg base k "is_rising" Zaa)(Z7:Callee P w K mg base k "is_row" Zaq)(ZaH:Callee P w K mg base k "is_number" Zat)(Zgt:Callee P w K mg base k "are_deeds" ZcA)(Zgu:Callee P w K mg base k "are_looks" ZcB)(Fn:Fun K "are_works" "are_works" Zgo f fd)(hm:mg "are_works" = some (.ref f))(hb:Binds K fd ["thing"] []):Callee P w K mg base (k+1) "are_works" ZcC :=
 Zr Fn ZiS hm hb λcdv A outer s H E hr=>by
  have hu:=ZH hr;exact(Zh (ZaK (ZnX (Zld (ZcY (ZbK (Zl Z7 hr (Zd (Zb 0) (Zd Zj (Zd Zj Zf)))))) (ZiZ (ZcY (ZbK (Zl ZaH hr (Zd (ZL (Zp 0) Zj) (Zd Zj (Zd (Zgb T.c_MOST_STATES) Zf))))))))) (Zk (Zz Zcz)) Z1)
  (Zh (ZP 1 ZiS.nd (ZL (Zp 0) Zj))
  (Zh (ZaK (ZnX (Zld (ZcY (ZbK (Zl Zgt hr (Zd (ZL (Zp 0) Zj) (Zd (Zb 1) Zf))))) (ZiZ (ZcY (ZbK (Zl Zgu hr (Zd (ZL (Zp 0) Zj) (Zd (Zb 1) Zf)))))))) (Zk (Zz Zcz)) Z1)
  (Zk (Zz (Zdr (Zl Zhy hr (Zd (ZL (Zp 0) Zj) (Zd (Zb 1) Zf))) (ZdY (Zl ZaI hr (Zd (ZL (Zp 0) Zj) (Zd (Zb 1) Zf))))))))))
theorem Zqo:Zs ["works"] ["works"] (Ze Zh9):=⟨rfl,rfl,rfl,by decide +kernel,rfl,by decide +kernel,by decide +kernel⟩
theorem Zqp(T:Txt K mg)(Zgv:Callee P w K mg base k "are_works" ZcC)(Fn:Fun K "checked" "checked" Zh9 f fd)(hm:mg "checked" = some (.ref f))(hb:Binds K fd ["works"] []):Callee P w K mg base (k+1) "checked" ZbG :=
 Zr Fn Zqo hm hb λcdv A outer s H E hr=>by
  have hu:=ZH hr;exact(Zh (ZaK (ZcY (ZbK (Zl Zgv hr (Zd (Zb 0) Zf)))) (Zk Zh3) Z1)
  (Zk (Zz (Zb 0))))
theorem ZkK:Zs ["thing","many"] ["thing","many"] (Ze Zdm):=⟨rfl,rfl,rfl,by decide +kernel,rfl,by decide +kernel,by decide +kernel⟩
theorem ZkL(T:Txt K mg)(Z7:Callee P w K mg base k "is_row" Zaq)(ZaH:Callee P w K mg base k "is_number" Zat)(Fn:Fun K "is_price_row" "is_price_row" Zdm f fd)(hm:mg "is_price_row" = some (.ref f))(hb:Binds K fd ["thing","many"] []):Callee P w K mg base (k+1) "is_price_row" Zbr :=
 Zr Fn ZkK hm hb λcdv A outer s H E hr=>by have hu:=ZH hr;exact(Zk (Zz (Zdr (Zl Z7 hr (Zd (Zb 0) (Zd (Zb 1) (Zd (Zb 1) Zf)))) (ZdY (Zgf T.n_all rfl (ZaW (Zah rfl rfl (N:=["price","thing","many"]) (ZD (sc:=Ze Zdm) (XN:=["thing","many"])) (ZX (Zb 0)) (λ_ _ _ _ _=>ZaY) (λ_ _ _ _ _=>(Zl ZaH hr (Zd (Zb 0) (Zd (Zgb T.c_LEAST_PRICE) (Zd (Zgb T.c_MOST_PRICE) Zf))))))))))))
theorem Zod:Zs ["works"] ["works"] (Ze Zhp):=⟨rfl,rfl,rfl,by decide +kernel,rfl,by decide +kernel,by decide +kernel⟩
theorem Zoe(T:Txt K mg)(Fn:Fun K "deeds_of" "deeds_of" Zhp f fd)(hm:mg "deeds_of" = some (.ref f))(hb:Binds K fd ["works"] []):Callee P w K mg base (k+1) "deeds_of" Za2 :=
 Zr Fn Zod hm hb λcdv A outer s H E hr=>by have hu:=ZH hr;exact(Zk (Zz (ZL (Zp 0) Zj)))
theorem Zof:Zs ["works"] ["works"] (Ze Zhq):=⟨rfl,rfl,rfl,by decide +kernel,rfl,by decide +kernel,by decide +kernel⟩
theorem Zog(T:Txt K mg)(Fn:Fun K "looks_of" "looks_of" Zhq f fd)(hm:mg "looks_of" = some (.ref f))(hb:Binds K fd ["works"] []):Callee P w K mg base (k+1) "looks_of" Za3 :=
 Zr Fn Zof hm hb λcdv A outer s H E hr=>by have hu:=ZH hr;exact(Zk (Zz (ZL (Zp 0) Zj)))
theorem Zjg:Zs ["works","prices"] ["works","prices"] (Ze ZdT):=⟨rfl,rfl,rfl,by decide +kernel,rfl,by decide +kernel,by decide +kernel⟩
theorem Zjh(T:Txt K mg)(Z7:Callee P w K mg base k "is_row" Zaq)(Zdo:Callee P w K mg base k "is_price_row" Zbr)(Za4:Callee P w K mg base k "deeds_of" Za2)(Za5:Callee P w K mg base k "looks_of" Za3)(Fn:Fun K "checked_prices" "checked_prices" ZdT f fd)(hm:mg "checked_prices" = some (.ref f))(hb:Binds K fd ["works","prices"] []):Callee P w K mg base (k+1) "checked_prices" Zb0 :=
 Zr Fn Zjg hm hb λcdv A outer s H E hr=>by
  have hu:=ZH hr;exact(Zh (ZaK (ZcY (ZbK (Zl Z7 hr (Zd (Zb 1) (Zd Zj (Zd Zj Zf)))))) (Zk Zh3) Z1)
  (Zh (ZaK (ZnX (Zld (ZcY (ZbK (Zl Zdo hr (Zd (ZL (Zp 1) Zj) (Zd (Za8 T.n_len (Z6 (Zl Za4 hr (Zd (Zb 0) Zf)))) Zf))))) (ZiZ (ZcY (ZbK (Zl Zdo hr (Zd (ZL (Zp 1) Zj) (Zd (Za8 T.n_len (Z6 (Zl Za5 hr (Zd (Zb 0) Zf)))) Zf)))))))) (Zk Zh3) Z1)
  (Zk (Zz (Zb 1)))))
theorem ZiT:Zs ["rows"] ["rows"] (Ze ZcF):=⟨rfl,rfl,rfl,by decide +kernel,rfl,by decide +kernel,by decide +kernel⟩
theorem Zl2(T:Txt K mg)(Fn:Fun K "crowds_in" "crowds_in" ZcF f fd)(hm:mg "crowds_in" = some (.ref f))(hb:Binds K fd ["rows"] []):Zet P w K mg base (k+1) "crowds_in" ZQ :=
 ZrW Fn ZiT hm hb rfl (λr b h=>Zuo _ _ _ r b h) λcdv A outer s H E hr=>by have hu:=ZH hr;exact(Zah rfl rfl (N:=["row","rows"]) (ZD (sc:=Ze ZcF) (XN:=["rows"])) (ZX (Zb 0)) (λ_ _ _ _ _=>ZaY) (λ_ _ _ _ _=>(ZL (Zp 0) Zj)))
theorem Znl(T:Txt K mg)(Fn:Fun K "crowds_in" "crowds_in" ZcF f fd)(hm:mg "crowds_in" = some (.ref f))(hb:Binds K fd ["rows"] []):Callee P w K mg base (k+1) "crowds_in" ZQ :=
 Zr Fn ZiT hm hb λcdv A outer s H E hr=>by have hu:=ZH hr;exact(Zk (Zz (Zcw (Zah rfl rfl (N:=["row","rows"]) (ZD (sc:=Ze ZcF) (XN:=["rows"])) (ZX (Zb 0)) (λ_ _ _ _ _=>ZaY) (λ_ _ _ _ _=>(ZL (Zp 0) Zj))))))
theorem ZfY:Zs ["rows","costs","known"] ["rows","costs"] (Ze ZcT):=⟨rfl,rfl,rfl,by decide +kernel,rfl,by decide +kernel,by decide +kernel⟩
theorem Zkk(T:Txt K mg)(ZbQ:Callee P w K mg base k "crowds_in" ZQ)(Fn:Fun K "cost_at_worst" "cost_at_worst" ZcT f fd)(hm:mg "cost_at_worst" = some (.ref f))(hb:Binds K fd ["rows","costs"] []):Callee P w K mg base (k+1) "cost_at_worst" ZR :=
 Zr Fn ZfY hm hb λcdv A outer s H E hr=>by
  have hu:=ZH hr;exact(Zh (Zeu 2 ZfY.nd rfl rfl (N:=["part","rows","costs","known"]) (ZD (sc:=Ze ZcT) (XN:=["rows","costs","known"])) (ZX (Zl ZbQ hr (Zd (Zb 0) Zf))) (λ_ _ _ _ _=>(Zc6 (ZwT hu (Zb 0) (Zp 2)))) (λ_ _ _ _ _=>(Zgc hu (Zp 2) (Zb 0))))
  (Zk (Zz (ZrB (Zas (cEq hr) (Za8 T.n_len (Zp 2)) (Za8 T.n_len (Zp 0))) (ZqZ T.n_max rfl (Zp 2)) Zbx))))
theorem Zji:Zs ["way","depths","most"] ["way","depths"] (Ze Zfn):=⟨rfl,rfl,rfl,by decide +kernel,rfl,by decide +kernel,by decide +kernel⟩
theorem Zoh(T:Txt K mg)(ZaC:Callee P w K mg base k "cost_at_worst" ZR)(Fn:Fun K "deeds_by" "deeds_by" Zfn f fd)(hm:mg "deeds_by" = some (.ref f))(hb:Binds K fd ["way","depths"] []):Callee P w K mg base (k+1) "deeds_by" Zda :=
 Zr Fn Zji hm hb λcdv A outer s H E hr=>by
  have hu:=ZH hr;exact(Zh (ZP 2 Zji.nd (Zl ZaC hr (Zd (ZL (Zp 0) Zj) (Zd (Zb 1) Zf))))
  (Zk (Zz (ZrB (Zas ZjQ (Zb 2) Zbx) Zbx (ZG Zbn (Zb 2) Zj)))))
theorem Zjj:Zs ["way","costs","most"] ["way","costs"] (Ze Zfo):=⟨rfl,rfl,rfl,by decide +kernel,rfl,by decide +kernel,by decide +kernel⟩
theorem Zoi(T:Txt K mg)(ZaC:Callee P w K mg base k "cost_at_worst" ZR)(Fn:Fun K "price_by" "price_by" Zfo f fd)(hm:mg "price_by" = some (.ref f))(hb:Binds K fd ["way","costs"] []):Callee P w K mg base (k+1) "price_by" Zdb :=
 Zr Fn Zjj hm hb λcdv A outer s H E hr=>by
  have hu:=ZH hr;exact(Zh (ZP 2 Zjj.nd (Zl ZaC hr (Zd (ZL (Zp 0) Zj) (Zd (Zb 1) Zf))))
  (Zk (Zz (ZrB (Zas ZjQ (Zb 2) Zbx) Zbx (ZG Zbn (Zb 2) (ZL (Z6 (ZL (Zp 0) Zj)) Zj))))))
theorem Zqq:Zs ["works","looks","state"] ["works","looks","state"] (Ze Zf1):=⟨rfl,rfl,rfl,by decide +kernel,rfl,by decide +kernel,by decide +kernel⟩
theorem Zqr(T:Txt K mg)(Za5:Callee P w K mg base k "looks_of" Za3)(Fn:Fun K "seen_in" "seen_in" Zf1 f fd)(hm:mg "seen_in" = some (.ref f))(hb:Binds K fd ["works","looks","state"] []):Callee P w K mg base (k+1) "seen_in" ZdL :=
 Zr Fn Zqq hm hb λcdv A outer s H E hr=>by have hu:=ZH hr;exact(Zk (Zz (Zaj T.n_tuple (ZaW (Zah rfl rfl (N:=["look","works","looks","state"]) (ZD (sc:=Ze Zf1) (XN:=["works","looks","state"])) (ZX (Zb 1)) (λ_ _ _ _ _=>ZaY) (λ_ _ _ _ _=>(ZL (Z6 (ZL (Z6 (Zl Za5 hr (Zd (Zb 1) Zf))) (Zb 0))) (Zb 3))))))))
theorem Zie:Zs ["works","looks","crowd","found","state"] ["works","looks","crowd"] (Ze Zg4):=⟨rfl,rfl,rfl,by decide +kernel,rfl,by decide +kernel,by decide +kernel⟩
theorem ZrF(T:Txt K mg)(Zif:Callee P w K mg base k "seen_in" ZdL)(Fn:Fun K "parted" "parted" Zg4 f fd)(hm:mg "parted" = some (.ref f))(hb:Binds K fd ["works","looks","crowd"] []):Callee P w K mg base (k+1) "parted" Zar :=
 Zr Fn Zie hm hb λcdv A outer s H E hr=>by
  have hu:=ZH hr;exact(Zh (Zaz 3 Zie.nd Zsx)
  (Zh (ZbM 4 Zie.nd rfl rfl (ZX (Zb 2)) (Zk (Zt5 hu 3 (Zl Zif hr (Zd (Zb 0) (Zd (Zb 1) (Zd (Zb 4) Zf)))) (Zb 4) ⟨rfl,rfl,rfl,rfl⟩)))
  (Zk (Zz (Zcw (Zah rfl rfl (N:=["seen","works","looks","crowd","found","state"]) (ZD (sc:=Ze Zg4) (XN:=["works","looks","crowd","found","state"])) (ZX (Zcw (Zg1 T.n_sorted rfl (Zp 3)))) (λ_ _ _ _ _=>ZaY) (λ_ _ _ _ _=>(Zbq (Zd (Zb 0) (Zd (Zaj T.n_tuple (Zsy hu 4 (Zb 0))) Zf))))))))))
theorem Zg5:Zs ["works","crowd","deed","leads"] ["works","crowd","deed"] (Ze ZdN):=⟨rfl,rfl,rfl,by decide +kernel,rfl,by decide +kernel,by decide +kernel⟩
theorem Zlk(T:Txt K mg)(Za4:Callee P w K mg base k "deeds_of" Za2)(Fn:Fun K "can_be_done" "can_be_done" ZdN f fd)(hm:mg "can_be_done" = some (.ref f))(hb:Binds K fd ["works","crowd","deed"] []):Callee P w K mg base (k+1) "can_be_done" Zb8 :=
 Zr Fn Zg5 hm hb λcdv A outer s H E hr=>by
  have hu:=ZH hr;exact(Zh (ZP 3 Zg5.nd (ZL (Z6 (Zl Za4 hr (Zd (Zb 0) Zf))) (Zb 2)))
  (Zk (Zz (Zgf T.n_all rfl (ZaW (Zah rfl rfl (N:=["state","works","crowd","deed","leads"]) (ZD (sc:=Ze ZdN) (XN:=["works","crowd","deed","leads"])) (ZX (Zb 1)) (λ_ _ _ _ _=>ZaY) (λ_ _ _ _ _=>(ZdX cGt (Za8 T.n_len (Z6 (ZL (Zp 4) (Zb 0)))) Zj))))))))
theorem Zl3:Zs ["works","crowd"] ["works","crowd"] (Ze Zd4):=⟨rfl,rfl,rfl,by decide +kernel,rfl,by decide +kernel,by decide +kernel⟩
theorem Zl4(T:Txt K mg)(Ze2:Callee P w K mg base k "can_be_done" Zb8)(Za4:Callee P w K mg base k "deeds_of" Za2)(Fn:Fun K "deeds_with" "deeds_with" Zd4 f fd)(hm:mg "deeds_with" = some (.ref f))(hb:Binds K fd ["works","crowd"] []):Callee P w K mg base (k+1) "deeds_with" Zcj :=
 Zr Fn Zl3 hm hb λcdv A outer s H E hr=>by have hu:=ZH hr;exact(Zk (Zz (Zcw (Zah rfl rfl (N:=["deed","works","crowd"]) (ZD (sc:=Ze Zd4) (XN:=["works","crowd"])) (ZbN T.n_range (Za8 T.n_len (Z6 (Zl Za4 hr (Zd (Zb 0) Zf))))) (λ_ _ _ _ _=>(Zc6 (ZbK (Zl Ze2 hr (Zd (Zb 1) (Zd (Zb 2) (Zd (Zb 0) Zf))))))) (λ_ _ _ _ _=>(Zb 0))))))
theorem ZeL:Zs ["works","crowd","deed","leads","found","state","target"] ["works","crowd","deed"] (Ze Zje):=⟨rfl,rfl,rfl,by decide +kernel,rfl,by decide +kernel,by decide +kernel⟩
theorem ZrG(T:Txt K mg)(Za4:Callee P w K mg base k "deeds_of" Za2)(Fn:Fun K "led_to" "led_to" Zje f fd)(hm:mg "led_to" = some (.ref f))(hb:Binds K fd ["works","crowd","deed"] []):Callee P w K mg base (k+1) "led_to" Zdt :=
 Zr Fn ZeL hm hb λcdv A outer s H E hr=>by
  have hu:=ZH hr;exact(Zh (ZP 3 ZeL.nd (ZL (Z6 (Zl Za4 hr (Zd (Zb 0) Zf))) (Zb 2)))
  (Zh (Zaz 4 ZeL.nd Zyr)
  (Zh (ZbM 5 ZeL.nd rfl rfl (ZX (Zb 1)) (Zk (ZbM 6 ZeL.nd rfl rfl (ZX (ZL (Zp 3) (Zb 5))) (Zk (Zgg hu 4 (Zb 6) Zcz)))))
  (Zk (Zz (Zaj T.n_tuple (ZaW (Zg1 T.n_sorted rfl (Zp 4)))))))))
theorem Znm:Zs ["works","looks","crowd"] ["works","looks","crowd"] (Ze ZeG):=⟨rfl,rfl,rfl,by decide +kernel,rfl,by decide +kernel,by decide +kernel⟩
theorem Znn(T:Txt K mg)(Zbz:Callee P w K mg base k "parted" Zar)(ZfL:Callee P w K mg base k "deeds_with" Zcj)(Zjk:Callee P w K mg base k "led_to" Zdt)(Fn:Fun K "ways_with" "ways_with" ZeG f fd)(hm:mg "ways_with" = some (.ref f))(hb:Binds K fd ["works","looks","crowd"] []):Callee P w K mg base (k+1) "ways_with" Zak :=
 Zr Fn Znm hm hb λcdv A outer s H E hr=>by have hu:=ZH hr;exact(Zk (Zz (Zcw (Zah rfl rfl (N:=["deed","works","looks","crowd"]) (ZD (sc:=Ze ZeG) (XN:=["works","looks","crowd"])) (ZX (Zl ZfL hr (Zd (Zb 0) (Zd (Zb 2) Zf)))) (λ_ _ _ _ _=>ZaY) (λ_ _ _ _ _=>(Zbq (Zd (Zb 0) (Zd (Zl Zbz hr (Zd (Zb 1) (Zd (Zb 2) (Zd (Zl Zjk hr (Zd (Zb 1) (Zd (Zb 3) (Zd (Zb 0) Zf)))) Zf)))) Zf))))))))
theorem ZkM:Zs ["works","prices","crowd"] ["works","prices","crowd"] (Ze Zdn):=⟨rfl,rfl,rfl,by decide +kernel,rfl,by decide +kernel,by decide +kernel⟩
theorem ZkN(T:Txt K mg)(ZbR:Callee P w K mg base k "ways_with" Zak)(Fn:Fun K "deeds_to_buy" "deeds_to_buy" Zdn f fd)(hm:mg "deeds_to_buy" = some (.ref f))(hb:Binds K fd ["works","prices","crowd"] []):Callee P w K mg base (k+1) "deeds_to_buy" Zco :=
 Zr Fn ZkM hm hb λcdv A outer s H E hr=>by have hu:=ZH hr;exact(Zk (Zz (Zcw (Zt3 rfl rfl (N:=["deed","rows","works","prices","crowd"]) (ZD (sc:=Ze Zdn) (XN:=["works","prices","crowd"])) (ZX (Zl ZbR hr (Zd (Zb 0) (Zd (Zbq Zf) (Zd (Zb 2) Zf))))) (λ_ _ _ _ _=>ZaY) (λ_ _ _ _ _=>(Zbq (Zd (Zbq (Zd Zsw (Zd (Zb 0) (Zd (ZL (Z6 (ZL (Zp 3) Zj)) (Zb 0)) Zf)))) (Zd (Zb 1) Zf))))))))
theorem Zgw:Zs ["works","prices","crowd","found"] ["works","prices","crowd"] (Ze Zcq):=⟨rfl,rfl,rfl,by decide +kernel,rfl,by decide +kernel,by decide +kernel⟩
theorem ZkO(T:Txt K mg)(Zbz:Callee P w K mg base k "parted" Zar)(Fn:Fun K "looks_to_buy" "looks_to_buy" Zcq f fd)(hm:mg "looks_to_buy" = some (.ref f))(hb:Binds K fd ["works","prices","crowd"] []):Callee P w K mg base (k+1) "looks_to_buy" Zcp :=
 Zr Fn Zgw hm hb λcdv A outer s H E hr=>by
  have hu:=ZH hr;exact(Zh (Zn4 3 Zgw.nd rfl rfl (N:=["look","price","works","prices","crowd","found"]) (ZD (sc:=Ze Zcq) (XN:=["works","prices","crowd","found"])) (ZvL T.n_enumerate (ZL (Zp 1) Zj)) (λ_ _ _ _ _=>ZaY) (λ_ _ _ _ _=>(Zbq (Zd (Zbq (Zd Zsw (Zd (Zb 0) (Zd (Zb 1) Zf)))) (Zd (Zl Zbz hr (Zd (Zb 2) (Zd (Zbq (Zd (Zb 0) Zf)) (Zd (Zb 4) Zf)))) Zf)))))
  (Zk (ZcZ 3 (Zz (Zcw (Zah rfl rfl (N:=["way","works","prices","crowd","found"]) (ZD (sc:=Ze Zcq) (XN:=["works","prices","crowd","found"])) (ZX (Zb 3)) (λ_ _ _ _ _=>(Zc6 (Zas cGt (Za8 T.n_len (Z6 (ZL (Zp 0) Zj))) Zj))) (λ_ _ _ _ _=>(Zb 0))))))))
theorem Zll:Zs ["works","prices","crowd"] ["works","prices","crowd"] (Ze Ze0):=⟨rfl,rfl,rfl,by decide +kernel,rfl,by decide +kernel,by decide +kernel⟩
theorem Zlm(T:Txt K mg)(ZeM:Callee P w K mg base k "deeds_to_buy" Zco)(ZeN:Callee P w K mg base k "looks_to_buy" Zcp)(Fn:Fun K "ways_to_buy" "ways_to_buy" Ze0 f fd)(hm:mg "ways_to_buy" = some (.ref f))(hb:Binds K fd ["works","prices","crowd"] []):Callee P w K mg base (k+1) "ways_to_buy" ZaN :=
 Zr Fn Zll hm hb λcdv A outer s H E hr=>by have hu:=ZH hr;exact(Zk (Zz (Zcw (ZvM (Z6 (Zl ZeM hr (Zd (Zb 0) (Zd (Zb 1) (Zd (Zb 2) Zf))))) (Z6 (Zl ZeN hr (Zd (Zb 0) (Zd (Zb 1) (Zd (Zb 2) Zf)))))))))
theorem ZhP:Zs ["ways","costs","cost_by","told"] ["ways","costs","cost_by"] (Ze Zc3):=⟨rfl,rfl,rfl,by decide +kernel,rfl,by decide +kernel,by decide +kernel⟩
theorem Zl5(T:Txt K mg)(CV:Zen P w K mg base k ap)(Fn:Fun K "least_cost" "least_cost" Zc3 f fd)(hm:mg "least_cost" = some (.ref f))(hb:Binds K fd ["ways","costs","cost_by"] []):Callee P w K mg base (k+1) "least_cost" (ZbX ap) :=
 Zr Fn ZhP hm hb λcdv A outer s H E hr=>by
  have hu:=ZH hr;exact(Zh (Zeu 3 ZhP.nd rfl rfl (N:=["way","ways","costs","cost_by","told"]) (ZD (sc:=Ze Zc3) (XN:=["ways","costs","cost_by","told"])) (ZX (Zb 0)) (λ_ _ _ _ _=>ZaY) (λ_ _ _ _ _=>(Zn3 CV hr 3 (Zd (Zb 0) (Zd (Zb 2) Zf)))))
  (Zk (ZcZ 3 (Zz (Zq0 T.n_min rfl (ZaW (Zah rfl rfl (N:=["cost","ways","costs","cost_by","told"]) (ZD (sc:=Ze Zc3) (XN:=["ways","costs","cost_by","told"])) (ZX (Zb 3)) (λ_ _ _ _ _=>(Zc6 (Zas Zsk (Zb 0) Zbx))) (λ_ _ _ _ _=>(Zb 0)))))))))
theorem ZdO:Zs ["reach","costs","cost_by","found","crowd","cost"] ["reach","costs","cost_by"] (Ze ZfJ):=⟨rfl,rfl,rfl,by decide +kernel,rfl,by decide +kernel,by decide +kernel⟩
theorem ZlV(T:Txt K mg)(ZfM:Callee P w K mg base k "least_cost" (ZbX ap))(Fn:Fun K "next_costs" "next_costs" ZfJ f fd)(hm:mg "next_costs" = some (.ref f))(hb:Binds K fd ["reach","costs","cost_by"] []):Zes P w K mg base (k+1) "next_costs" (ZbA ap) :=
 Zsh Fn ZdO hm hb λcdv A outer s H E hr=>by
  have hu:=ZH hr;exact(ZpK (Zaz 3 ZdO.nd ZnM)
  (ZpK (Zj4 0 (ZbM 4 ZdO.nd rfl rfl (Zj5 0) (Zk (ZaK (Zg2 hu (Zb 4) (Zp 1)) (Zh (ZP 5 ZdO.nd (Zl ZfM hr (Zd (Zgc hu (Zp 0) (Zb 4)) (Zd (Zb 1) (Zd (Zb 2) Zf)))))
  (Zk (ZaK (Zas Zsk (Zb 5) Zbx) (Zk (Zgg hu 3 (Zb 4) (Zb 5))) Z1))) Z1))))
  (Zwi 3)))
theorem Zqs:Zs ["works"] ["works"] (Ze Zh8):=⟨rfl,rfl,rfl,by decide +kernel,rfl,by decide +kernel,by decide +kernel⟩
theorem Zqt(T:Txt K mg)(Fn:Fun K "goal_of" "goal_of" Zh8 f fd)(hm:mg "goal_of" = some (.ref f))(hb:Binds K fd ["works"] []):Callee P w K mg base (k+1) "goal_of" ZdM :=
 Zr Fn Zqs hm hb λcdv A outer s H E hr=>by have hu:=ZH hr;exact(Zk (Zz (ZL (Zp 0) Zj)))
theorem Zoj:Zs ["works","crowd"] ["works","crowd"] (Ze Zfm):=⟨rfl,rfl,rfl,by decide +kernel,rfl,by decide +kernel,by decide +kernel⟩
theorem Zok(T:Txt K mg)(Zig:Callee P w K mg base k "goal_of" ZdM)(Fn:Fun K "is_there" "is_there" Zfm f fd)(hm:mg "is_there" = some (.ref f))(hb:Binds K fd ["works","crowd"] []):Callee P w K mg base (k+1) "is_there" ZbH :=
 Zr Fn Zoj hm hb λcdv A outer s H E hr=>by have hu:=ZH hr;exact(Zk (Zz (Zgf T.n_all rfl (ZaW (Zah rfl rfl (N:=["state","works","crowd"]) (ZD (sc:=Ze Zfm) (XN:=["works","crowd"])) (ZX (Zb 1)) (λ_ _ _ _ _=>ZaY) (λ_ _ _ _ _=>(ZwS (Zb 0) (Z6 (Zl Zig hr (Zd (Zb 1) Zf))))))))))
theorem ZbS:Zs ["works","reach","cost_by","costs","cost","found","crowd","offered"] ["works","reach","cost_by"] (Ze Zdc):=⟨rfl,rfl,rfl,by decide +kernel,rfl,by decide +kernel,by decide +kernel⟩
theorem Zol(T:Txt K mg)(Zhz:Callee P w K mg base k "is_there" ZbH)(Gf_next_costs:Zes P w K mg base k "next_costs" (ZbA ap))(Fn:Fun K "costs_of" "costs_of" Zdc f fd)(hm:mg "costs_of" = some (.ref f))(hb:Binds K fd ["works","reach","cost_by"] []):Callee P w K mg base (k+1) "costs_of" (ZbI ap) :=
 Zr Fn ZbS hm hb λcdv A outer s H E hr=>by
  have hu:=ZH hr;exact(Zh (Zaz 3 ZbS.nd ZnM)
  (Zh (ZP 4 ZbS.nd Zj)
  (Zh (Zj4 1 (Zeu 5 ZbS.nd rfl rfl (N:=["crowd","works","reach","cost_by","costs","cost","found"," ","offered"]) (ZD (sc:=Ze Zdc) (XN:=["works","reach","cost_by","costs","cost","found","crowd","offered"])) (Zj5 1) (λ_ _ _ _ _=>(Zc6 (ZbK (Zl Zhz hr (Zd (Zb 1) (Zd (Zb 0) Zf)))))) (λ_ _ _ _ _=>(Zb 0))))
  (Zh (Zh4 100000 rfl (Zas cGt (Za8 T.n_len (Zp 5)) Zj) (Zh (ZcZ 5 (ZbM 6 ZbS.nd rfl rfl (ZX (Zb 5)) (Zk (Zgg hu 3 (Zb 6) (Zb 4)))))
  (Zh (Zaz 7 ZbS.nd (Zt8 Gf_next_costs hr (Zn1 (Zb 1) (Zt6 (Zp 3) (Zn1 (Zb 2) (ZwU Zf))))))
  (Zh (ZcZ 7 (Zj4 7 (ZP 4 ZbS.nd (Zq0 T.n_min rfl (ZaW (Zah rfl rfl (N:=["crowd","works","reach","cost_by","costs","cost","found"," ","offered"]) (ZD (sc:=Ze Zdc) (XN:=["works","reach","cost_by","costs","cost","found","crowd","offered"])) (Zj5 7) (λ_ _ _ _ _=>ZaY) (λ_ _ _ _ _=>(Zgc hu (Zp 8) (Zb 0)))))))))
  (Zk (ZcZ 7 (Zj4 7 (Zeu 5 ZbS.nd rfl rfl (N:=["crowd","works","reach","cost_by","costs","cost","found"," ","offered"]) (ZD (sc:=Ze Zdc) (XN:=["works","reach","cost_by","costs","cost","found","crowd","offered"])) (Zj5 7) (λ_ _ _ _ _=>(Zc6 (Zas (cEq hr) (Zgc hu (Zp 8) (Zb 0)) (Zb 5)))) (λ_ _ _ _ _=>(Zb 0))))))))))
  (Zk (ZcZ 3 (Zz (Zb 3))))))))
theorem Zcd:Zs ["crowds","ways_for","reach","waiting","crowd","way"] ["crowds","ways_for"] (Ze ZeF):=⟨rfl,rfl,rfl,by decide +kernel,rfl,by decide +kernel,by decide +kernel⟩
theorem ZkP(T:Txt K mg)(ZbQ:Callee P w K mg base k "crowds_in" ZQ)(Zgx:Zet P w K mg base k "crowds_in" ZQ)(CV:Zen P w K mg base k ap)(Fn:Fun K "reached_from" "reached_from" ZeF f fd)(hm:mg "reached_from" = some (.ref f))(hb:Binds K fd ["crowds","ways_for"] []):Callee P w K mg base (k+1) "reached_from" (ZaO ap) :=
 Zr Fn Zcd hm hb λcdv A outer s H E hr=>by
  have hu:=ZH hr;exact(Zh (Zaz 2 Zcd.nd ZnM)
  (Zh (Zaz 3 Zcd.nd (Zi0 T.n_list (Zp 0)))
  (Zh (Zh4 100000 rfl (Zas cGt (Za8 T.n_len (Zp 3)) Zj) (Zh (ZwV 4 3 Zcd.nd)
  (Zk (ZaK (Zg2 hu (Zb 4) (Zp 2)) (Zh (Zgg hu 2 (Zb 4) (Zn3 CV hr 1 (Zd (Zb 4) Zf)))
  (Zk (ZbM 5 Zcd.nd rfl rfl (ZX (Zgc hu (Zp 2) (Zb 4))) (Zk (ZsC 3 (ZaW (Zt7 Zgx hr (Zd (ZL (Zp 5) Zj) Zf)))))))) Z1))))
  (Zk (ZcZ 2 (Zz (Zb 2)))))))
theorem Zom:Zs ["works"] ["works"] (Ze Zhr):=⟨rfl,rfl,rfl,by decide +kernel,rfl,by decide +kernel,by decide +kernel⟩
theorem Zon(T:Txt K mg)(Fn:Fun K "begin_of" "begin_of" Zhr f fd)(hm:mg "begin_of" = some (.ref f))(hb:Binds K fd ["works"] []):Callee P w K mg base (k+1) "begin_of" Zbo :=
 Zr Fn Zom hm hb λcdv A outer s H E hr=>by have hu:=ZH hr;exact(Zk (Zz (ZL (Zp 0) Zj)))
theorem ZiX:Zs ["works","prices"] ["works","prices"] (Ze ZJ):=⟨rfl,rfl,rfl,by decide +kernel,rfl,by decide +kernel,by decide +kernel⟩
theorem Zw9:ZnV ["works","prices"] (Ze ZJ) (ZfP ZJ) ["works","prices"] [0,1]=true:=by decide +kernel
theorem ZiY(T:Txt K mg)(ZbV:Callee P w K mg base k "reached_from" (ZaO ap))(ZbJ:Callee P w K mg base k "begin_of" Zbo)(ZcI:Callee P w K mg base k "ways_to_buy" ZaN)(hc:ZBm K c Tl=true)(ht:(Tl,("reach_by_buying.<locals>.<lambda>":Str))∈FX.tl)(hq:∀q,(Tl,q)∈FX.tl->q=("reach_by_buying.<locals>.<lambda>":Str))(bm:BMod base mg)(good:∀F p cs,Clo K F p (Zsr ZJ) (Zmj ZJ) (ZfP ZJ) ["works","prices"] cs->FX.fv 6 cs F p)(Fn:Zp2 K "reach_by_buying" "reach_by_buying" ZJ f fd c)(hm:mg "reach_by_buying" = some (.ref f))(hb:Binds K fd ["works","prices"] []):Callee P w K mg base (k+1) "reach_by_buying" (Zbj ap) :=
 Zlu Fn ZiX hm hb λA outer s H E hr=>by have hu:=ZH hr;exact(Zk (Zz (Zlg ZbV hr (ZpS Zw9 hc ht hq bm good) (Zcw (ZbL (Zd (Zl ZbJ hr (Zd (Zb 0) Zf)) Zf))))))
theorem Zjl:Zs ["works","prices","costs"] ["works","prices"] (Ze Zhs):=⟨rfl,rfl,rfl,by decide +kernel,rfl,by decide +kernel,by decide +kernel⟩
theorem Zoo(T:Txt K mg)(Zb3:Callee P w K mg base k "checked" ZbG)(ZdU:Callee P w K mg base k "checked_prices" Zb0)(Zdd:Callee P w K mg base k "costs_of" (ZbI ap))(ZdC:Callee P w K mg base k "reach_by_buying" (Zbj ap))(ZbJ:Callee P w K mg base k "begin_of" Zbo)(Vff_price_by:GFn mg "price_by" 5)(Fn:Fun K "cheapest" "cheapest" Zhs f fd)(hm:mg "cheapest" = some (.ref f))(hb:Binds K fd ["works","prices"] []):Callee P w K mg base (k+1) "cheapest" (ZdZ ap) :=
 Zr Fn Zjl hm hb λcdv A outer s H E hr=>by
  have hu:=ZH hr;exact(Zh (Zj3 (Zl Zb3 hr (Zd (Zb 0) Zf)))
  (Zh (Zj3 (Zl ZdU hr (Zd (Zb 0) (Zd (Zb 1) Zf))))
  (Zh (ZP 2 Zjl.nd (Zl Zdd hr (Zd (Zb 0) (Zd (Zl ZdC hr (Zd (Zb 0) (Zd (Zb 1) Zf))) (Zd (ZsD Vff_price_by) Zf)))))
  (Zk (Zz (Zn2 hu (Zp 2) (Zl ZbJ hr (Zd (Zb 0) Zf)) ⟨rfl,rfl,rfl,rfl⟩))))))
theorem Zno:Zs ["_law_found"] ["_law_found"] (Ze Zgr):=⟨rfl,rfl,rfl,by decide +kernel,rfl,by decide +kernel,by decide +kernel⟩
theorem Znp(T:Txt K mg)(Fn:Fun K "_law_whole" "_law_whole" Zgr f fd)(hm:mg "_law_whole" = some (.ref f))(hb:Binds K fd ["_law_found"] []):Callee P w K mg base (k+1) "_law_whole" ZcD :=
 Zr Fn Zno hm hb λcdv A outer s H E hr=>by have hu:=ZH hr;exact(Zk (Zz (Zdr (Zle T.n_isinstance T.n_int (Zb 0)) (ZdY (ZwN (Zkr T.n_isinstance T.n_bool (Zb 0)))))))
theorem Zfq:Zs ["_law_works_here","_law_crowd_here","_law_deed_here","_law_found","_law_state"] ["_law_works_here","_law_crowd_here","_law_deed_here"] (Ze Zib):=⟨rfl,rfl,rfl,by decide +kernel,rfl,by decide +kernel,by decide +kernel⟩
theorem Zqu(T:Txt K mg)(Fn:Fun K "_law_led" "_law_led" Zib f fd)(hm:mg "_law_led" = some (.ref f))(hb:Binds K fd ["_law_works_here","_law_crowd_here","_law_deed_here"] []):Callee P w K mg base (k+1) "_law_led" ZcS :=
 Zr Fn Zfq hm hb λcdv A outer s H E hr=>by
  have hu:=ZH hr;exact(Zh (Zaz 3 Zfq.nd (ZbL Zf))
  (Zh (ZbM 4 Zfq.nd rfl rfl (ZX (Zb 1)) (Zh (ZaK (Zas (cEq hr) (ZL (Z6 (ZL (Z6 (ZL (Zp 0) Zj)) (Zb 2))) (Zb 4)) (Zbq Zf)) (Zk (Zz Zbx)) Z1)
  (Zk (Zaz 3 Zfq.nd (Zlf (Zp 3) (ZaW (Zi0 T.n_list (Z6 (ZL (Z6 (ZL (Z6 (ZL (Zp 0) Zj)) (Zb 2))) (Zb 4))))))))))
  (Zk (Zz (Zaj T.n_tuple (ZaW (Zi2 T.n_sorted T.n_set rfl (Zp 3))))))))
theorem Zd6:Zs ["_law_works_here","_law_looks","_law_crowd_here","_law_found","_law_state","_law_seen"] ["_law_works_here","_law_looks","_law_crowd_here"] (Ze ZdB):=⟨rfl,rfl,rfl,by decide +kernel,rfl,by decide +kernel,by decide +kernel⟩
theorem Znq(T:Txt K mg)(Fn:Fun K "_law_split" "_law_split" ZdB f fd)(hm:mg "_law_split" = some (.ref f))(hb:Binds K fd ["_law_works_here","_law_looks","_law_crowd_here"] []):Callee P w K mg base (k+1) "_law_split" ZbP :=
 Zr Fn Zd6 hm hb λcdv A outer s H E hr=>by
  have hu:=ZH hr;exact(Zh (Zaz 3 Zd6.nd Zsx)
  (Zh (ZbM 4 Zd6.nd rfl rfl (ZX (Zb 2)) (Zh (ZP 5 Zd6.nd (Zaj T.n_tuple (ZaW (Zah rfl rfl (N:=["_law_look","_law_works_here","_law_looks","_law_crowd_here","_law_found","_law_state","_law_seen"]) (ZD (sc:=Ze ZdB) (XN:=["_law_works_here","_law_looks","_law_crowd_here","_law_found","_law_state","_law_seen"])) (ZX (Zb 1)) (λ_ _ _ _ _=>ZaY) (λ_ _ _ _ _=>(ZL (Z6 (ZL (Z6 (ZL (Zp 1) Zj)) (Zb 0))) (Zb 5)))))))
  (Zh (ZaK (Zt2 hu (Zb 5) (Zp 3)) (Zk (Zsz hu 3 (Zb 5))) Z1)
  (Zk (Zt4 hu 3 (Zb 5) (Zb 4))))))
  (Zk (Zz (Zcw (Zah rfl rfl (N:=["_law_seen","_law_works_here","_law_looks","_law_crowd_here","_law_found","_law_state"," "]) (ZD (sc:=Ze ZdB) (XN:=["_law_works_here","_law_looks","_law_crowd_here","_law_found","_law_state","_law_seen"])) (ZX (Zcw (Zg1 T.n_sorted rfl (Zp 3)))) (λ_ _ _ _ _=>ZaY) (λ_ _ _ _ _=>(Zbq (Zd (Zb 0) (Zd (Zaj T.n_tuple (Zsy hu 4 (Zb 0))) Zf))))))))))
theorem ZcJ:Zs ["_law_works_here","_law_prices_here","_law_crowd_here","_law_found","_law_deed_here","_law_other","_law_look","_law_some"] ["_law_works_here","_law_prices_here","_law_crowd_here"] (Ze Zfp):=⟨rfl,rfl,rfl,by decide +kernel,rfl,by decide +kernel,by decide +kernel⟩
theorem Zop(T:Txt K mg)(Zih:Callee P w K mg base k "_law_led" ZcS)(Zgy:Callee P w K mg base k "_law_split" ZbP)(Fn:Fun K "_law_ways" "_law_ways" Zfp f fd)(hm:mg "_law_ways" = some (.ref f))(hb:Binds K fd ["_law_works_here","_law_prices_here","_law_crowd_here"] []):Callee P w K mg base (k+1) "_law_ways" Zb5 :=
 Zr Fn ZcJ hm hb λcdv A outer s H E hr=>by
  have hu:=ZH hr;exact(Zh (Zaz 3 ZcJ.nd (ZbL Zf))
  (Zh (ZbM 4 ZcJ.nd rfl rfl (ZbN T.n_range (Za8 T.n_len (Z6 (ZL (Zp 0) Zj)))) (Zh (ZP 5 ZcJ.nd (Zl Zih hr (Zd (Zb 0) (Zd (Zb 2) (Zd (Zb 4) Zf)))))
  (Zk (ZaK (Zas Zsk (Zb 5) Zbx) (Zk (Zds 3 (Zbq (Zd (ZL (Z6 (ZL (Zp 1) Zj)) (Zb 4)) (Zd (Zcw (ZbL (Zd (Zb 5) Zf))) Zf))))) Z1))))
  (Zh (ZbM 6 ZcJ.nd rfl rfl (ZbN T.n_range (Za8 T.n_len (Z6 (ZL (Zp 0) Zj)))) (Zh (Zqg 7 ZcJ.nd rfl rfl (N:=["_law_seen","_law_part","_law_works_here","_law_prices_here","_law_crowd_here","_law_found","_law_deed_here","_law_other","_law_look","_law_some"]) (ZD (sc:=Ze Zfp) (XN:=["_law_works_here","_law_prices_here","_law_crowd_here","_law_found","_law_deed_here","_law_other","_law_look","_law_some"])) (ZX (Zl Zgy hr (Zd (Zb 0) (Zd (Zbq (Zd (Zb 6) Zf)) (Zd (Zb 2) Zf))))) (λ_ _ _ _ _=>ZaY) (λ_ _ _ _ _=>(Zb 1)))
  (Zk (ZaK (Zas cGt (Za8 T.n_len (Zp 7)) Zj) (Zk (ZcZ 7 (Zds 3 (Zbq (Zd (ZL (Z6 (ZL (Zp 1) Zj)) (Zb 6)) (Zd (Zb 7) Zf)))))) Z1))))
  (Zk (ZcZ 3 (Zz (Zb 3)))))))
theorem Znr:Zs ["_law_works_here","_law_crowd_here"] ["_law_works_here","_law_crowd_here"] (Ze ZeJ):=⟨rfl,rfl,rfl,by decide +kernel,rfl,by decide +kernel,by decide +kernel⟩
theorem Zns(T:Txt K mg)(Fn:Fun K "_law_there" "_law_there" ZeJ f fd)(hm:mg "_law_there" = some (.ref f))(hb:Binds K fd ["_law_works_here","_law_crowd_here"] []):Callee P w K mg base (k+1) "_law_there" Zbd :=
 Zr Fn Znr hm hb λcdv A outer s H E hr=>by have hu:=ZH hr;exact(Zk (Zz (ZdX (cEq hr) (Zcw (Zah rfl rfl (N:=["_law_state","_law_works_here","_law_crowd_here"]) (ZD (sc:=Ze ZeJ) (XN:=["_law_works_here","_law_crowd_here"])) (ZX (Zb 1)) (λ_ _ _ _ _=>(Zc6 (ZsA (Zb 0) (Z6 (ZL (Zp 1) Zj))))) (λ_ _ _ _ _=>(Zb 0)))) (Zcw (ZbL Zf)))))
theorem Zai:Zs ["_law_works_here","_law_prices_here","_law_crowds","_law_at","_law_price","_law_some","_law_costs","_law_crowd_here","_law_best","_law_whole_here"] ["_law_works_here","_law_prices_here"] (Ze ZcG):=⟨rfl,rfl,rfl,by decide +kernel,rfl,by decide +kernel,by decide +kernel⟩
theorem Znt(T:Txt K mg)(Zfr:Callee P w K mg base k "_law_ways" Zb5)(ZcK:Callee P w K mg base k "_law_there" Zbd)(Fn:Fun K "_law_least" "_law_least" ZcG f fd)(hm:mg "_law_least" = some (.ref f))(hb:Binds K fd ["_law_works_here","_law_prices_here"] []):Callee P w K mg base (k+1) "_law_least" ZdA :=
 Zr Fn Zai hm hb λcdv A outer s H E hr=>by
  have hu:=ZH hr;exact(Zh (Zaz 2 Zai.nd (ZbL (Zd (ZL (Zp 0) Zj) Zf)))
  (Zh (ZP 3 Zai.nd Zj)
  (Zh (Zh4 100000 rfl (Zas cLt (Zb 3) (Za8 T.n_len (Zp 2))) (Zh (ZqY 4 5 Zai.nd rfl rfl (ZX (Zl Zfr hr (Zd (Zb 0) (Zd (Zb 1) (Zd (ZL (Zp 2) (Zb 3)) Zf))))) (Zk (Zaz 2 Zai.nd (Zlf (Zp 2) (ZaW (Zah rfl rfl (N:=["_law_part","_law_works_here","_law_prices_here","_law_crowds","_law_at","_law_price","_law_some","_law_costs","_law_crowd_here","_law_best","_law_whole_here"]) (ZD (sc:=Ze ZcG) (XN:=["_law_works_here","_law_prices_here","_law_crowds","_law_at","_law_price","_law_some","_law_costs","_law_crowd_here","_law_best","_law_whole_here"])) (ZX (Zb 5)) (λ_ _ _ _ _=>(Zc6 (ZsB hr (Zb 0) (Zp 3)))) (λ_ _ _ _ _=>(Zb 0))))))))
  (Zk (ZP 3 Zai.nd (ZG Zbn (Zb 3) Zj)))))
  (Zh (Zaz 6 Zai.nd ZnM)
  (Zh (ZcZ 2 (ZbM 7 Zai.nd rfl rfl (ZX (Zb 2)) (Zk (ZaK (ZbK (Zl ZcK hr (Zd (Zb 0) (Zd (Zb 7) Zf)))) (Zk (Zgg hu 6 (Zb 7) Zj)) Z1))))
  (Zk (Zh4 100000 rfl (ZbK Zcz) (Zh (ZP 8 Zai.nd Zbx)
  (Zh (ZcZ 2 (ZbM 7 Zai.nd rfl rfl (ZX (Zb 2)) (Zk (ZaK (Zg2 hu (Zb 7) (Zp 6)) (Zk (ZqY 4 5 Zai.nd rfl rfl (ZX (Zl Zfr hr (Zd (Zb 0) (Zd (Zb 1) (Zd (Zb 7) Zf))))) (Zk (ZaK (Zas (cEq hr) (Zcw (Zah rfl rfl (N:=["_law_part","_law_works_here","_law_prices_here","_law_crowds","_law_at","_law_price","_law_some","_law_costs","_law_crowd_here","_law_best","_law_whole_here"]) (ZD (sc:=Ze ZcG) (XN:=["_law_works_here","_law_prices_here","_law_crowds","_law_at","_law_price","_law_some","_law_costs","_law_crowd_here","_law_best","_law_whole_here"])) (ZX (Zb 5)) (λ_ _ _ _ _=>(Zc6 (Zg2 hu (Zb 0) (Zp 7)))) (λ_ _ _ _ _=>(Zb 0)))) (Zcw (ZbL Zf))) (Zh (ZP 9 Zai.nd (ZG Zbn (Zb 4) (ZqZ T.n_max rfl (ZaW (Zah rfl rfl (N:=["_law_part","_law_works_here","_law_prices_here","_law_crowds","_law_at","_law_price","_law_some","_law_costs","_law_crowd_here","_law_best","_law_whole_here"]) (ZD (sc:=Ze ZcG) (XN:=["_law_works_here","_law_prices_here","_law_crowds","_law_at","_law_price","_law_some","_law_costs","_law_crowd_here","_law_best","_law_whole_here"])) (ZX (Zb 5)) (λ_ _ _ _ _=>ZaY) (λ_ _ _ _ _=>(Zgc hu (Zp 7) (Zb 0))))))))
  (Zk (ZaK (ZnX (Zld (Zas ZjQ (Zb 8) Zbx) (ZiZ (Zas cLt (Zb 9) (ZL (Zp 8) Zj))))) (Zk (ZP 8 Zai.nd (Zbq (Zd (Zb 9) (Zd (Zb 7) Zf))))) Z1))) Z1)))) Z1))))
  (Zh (ZaK (Zas ZjQ (Zb 8) Zbx) (Zk (ZcZ 6 (Zz (Zb 6)))) Z1)
  (Zk (Zgg hu 6 (ZL (Zp 8) Zj) (ZL (Zp 8) Zj)))))))))))))
theorem Zkl:Zs ["works","looks"] ["works","looks"] (Ze Zeb):=⟨rfl,rfl,rfl,by decide +kernel,rfl,by decide +kernel,by decide +kernel⟩
theorem Zkm(T:Txt K mg)(ZaI:Callee P w K mg base k "is_rising" Zaa)(Za5:Callee P w K mg base k "looks_of" Za3)(Fn:Fun K "checked_looks" "checked_looks" Zeb f fd)(hm:mg "checked_looks" = some (.ref f))(hb:Binds K fd ["works","looks"] []):Callee P w K mg base (k+1) "checked_looks" ZbC :=
 Zr Fn Zkl hm hb λcdv A outer s H E hr=>by
  have hu:=ZH hr;exact(Zh (ZaK (ZcY (ZbK (Zl ZaI hr (Zd (Zb 1) (Zd (Za8 T.n_len (Z6 (Zl Za5 hr (Zd (Zb 0) Zf)))) Zf))))) (Zk Zh3) Z1)
  (Zk (Zz (Zb 1))))
theorem Znu:Zs ["works","coming"] ["works","coming"] (Ze Zgq):=⟨rfl,rfl,rfl,by decide +kernel,rfl,by decide +kernel,by decide +kernel⟩
theorem Znv(T:Txt K mg)(Zdd:Callee P w K mg base k "costs_of" (ZbI ap))(Vff_deeds_by:GFn mg "deeds_by" 0)(Fn:Fun K "depths_of" "depths_of" Zgq f fd)(hm:mg "depths_of" = some (.ref f))(hb:Binds K fd ["works","coming"] []):Callee P w K mg base (k+1) "depths_of" (Zdy ap) :=
 Zr Fn Znu hm hb λcdv A outer s H E hr=>by have hu:=ZH hr;exact(Zk (Zz (Zl Zdd hr (Zd (Zb 0) (Zd (Zb 1) (Zd (ZsD Vff_deeds_by) Zf))))))
theorem Zln:Zs ["works","looks","crowd"] ["works","looks","crowd"] (Ze Z0):=⟨rfl,rfl,rfl,by decide +kernel,rfl,by decide +kernel,by decide +kernel⟩
theorem Zxp:ZnV ["works","looks","crowd"] (Ze Z0) (ZfP Z0) ["works","looks"] [0,1]=true:=by decide +kernel
theorem Zlo(T:Txt K mg)(ZbV:Callee P w K mg base k "reached_from" (ZaO ap))(ZbQ:Callee P w K mg base k "crowds_in" ZQ)(Zbz:Callee P w K mg base k "parted" Zar)(ZbR:Callee P w K mg base k "ways_with" Zak)(hc:ZBm K c Tl=true)(ht:(Tl,("coming_from.<locals>.<lambda>":Str))∈FX.tl)(hq:∀q,(Tl,q)∈FX.tl->q=("coming_from.<locals>.<lambda>":Str))(bm:BMod base mg)(good:∀F p cs,Clo K F p (Zsr Z0) (Zmj Z0) (ZfP Z0) ["works","looks"] cs->FX.fv 1 cs F p)(Fn:Zp2 K "coming_from" "coming_from" Z0 f fd c)(hm:mg "coming_from" = some (.ref f))(hb:Binds K fd ["works","looks","crowd"] []):Callee P w K mg base (k+1) "coming_from" (ZcE ap) :=
 Zlu Fn Zln hm hb λA outer s H E hr=>by have hu:=ZH hr;exact(Zk (Zz (Zlg ZbV hr (ZpS Zxp hc ht hq bm good) (Zl ZbQ hr (Zd (Zl Zbz hr (Zd (Zb 0) (Zd (Zb 1) (Zd (Zb 2) Zf)))) Zf)))))
theorem Zii:Zs ["works","looks","begin","depths"] ["works","looks"] (Ze Zjf):=⟨rfl,rfl,rfl,by decide +kernel,rfl,by decide +kernel,by decide +kernel⟩
theorem ZrH(T:Txt K mg)(Zb3:Callee P w K mg base k "checked" ZbG)(Zec:Callee P w K mg base k "checked_looks" ZbC)(ZbJ:Callee P w K mg base k "begin_of" Zbo)(Zgz:Callee P w K mg base k "depths_of" (Zdy ap))(ZaC:Callee P w K mg base k "cost_at_worst" ZR)(Ze3:Callee P w K mg base k "coming_from" (ZcE ap))(Zbz:Callee P w K mg base k "parted" Zar)(Fn:Fun K "fewest" "fewest" Zjf f fd)(hm:mg "fewest" = some (.ref f))(hb:Binds K fd ["works","looks"] []):Callee P w K mg base (k+1) "fewest" (Zel ap) :=
 Zr Fn Zii hm hb λcdv A outer s H E hr=>by
  have hu:=ZH hr;exact(Zh (Zj3 (Zl Zb3 hr (Zd (Zb 0) Zf)))
  (Zh (Zj3 (Zl Zec hr (Zd (Zb 0) (Zd (Zb 1) Zf))))
  (Zh (ZP 2 Zii.nd (Zl ZbJ hr (Zd (Zb 0) Zf)))
  (Zh (ZP 3 Zii.nd (Zl Zgz hr (Zd (Zb 0) (Zd (Zl Ze3 hr (Zd (Zb 0) (Zd (Zb 1) (Zd (Zb 2) Zf)))) Zf))))
  (Zk (Zz (Zl ZaC hr (Zd (Zl Zbz hr (Zd (Zb 0) (Zd (Zb 1) (Zd (Zb 2) Zf)))) (Zd (Zb 3) Zf)))))))))
theorem Znw:Zs ["works"] ["works"] (Ze Zgp):=⟨rfl,rfl,rfl,by decide +kernel,rfl,by decide +kernel,by decide +kernel⟩
theorem Znx(T:Txt K mg)(Za5:Callee P w K mg base k "looks_of" Za3)(Zb3:Callee P w K mg base k "checked" ZbG)(Fn:Fun K "all_looks" "all_looks" Zgp f fd)(hm:mg "all_looks" = some (.ref f))(hb:Binds K fd ["works"] []):Callee P w K mg base (k+1) "all_looks" Zca :=
 Zr Fn Znw hm hb λcdv A outer s H E hr=>by have hu:=ZH hr;exact(Zk (Zz (Zks T.n_tuple T.n_range rfl (Za8 T.n_len (Z6 (Zl Za5 hr (Zd (Zl Zb3 hr (Zd (Zb 0) Zf)) Zf)))))))
theorem ZhQ:Zs ["_law_script","_law_works_here","_law_prices_here","_law_found","_law_due"] ["_law_script"] (Ze Zgs):=⟨rfl,rfl,rfl,by decide +kernel,rfl,by decide +kernel,by decide +kernel⟩
theorem ZvN(T:Txt K mg)(ZgA:Callee P w K mg base k "_law_works" Zbb)(ZfN:Callee P w K mg base k "_law_prices" Zc1)(ZhA:Callee P w K mg base k "cheapest" (ZdZ ap))(Zbe:Callee P w K mg base k "_law_cell" Zam)(ZgB:Callee P w K mg base k "_law_whole" ZcD)(ZgC:Callee P w K mg base k "_law_least" ZdA)(Zjm:Callee P w K mg base k "fewest" (Zel ap))(ZcK:Callee P w K mg base k "_law_there" Zbd)(ZgD:Callee P w K mg base k "all_looks" Zca)(Fn:Fun K "law" "law" Zgs f fd):ZdG P w K mg base CX0 (k+1) f fd ["_law_script"] (spD K 1 (Zgl ap)) :=
 Zrm Fn ZhQ λcdv A outer s H E hr=>by
  have hu:=ZH hr;exact(Zh (ZP 1 ZhQ.nd (Zl ZgA hr (Zd (Zb 0) (Zd Zj Zf))))
  (Zh (ZP 2 ZhQ.nd (Zl ZfN hr (Zd (Zb 1) (Zd (Zl Zbe hr (Zd (Zb 0) (Zd Zj Zf))) Zf))))
  (Zh (ZP 3 ZhQ.nd (Zl ZhA hr (Zd (Zb 1) (Zd (Zb 2) Zf))))
  (Zh (ZP 4 ZhQ.nd (Zn2 hu (Z6 (Zl ZgC hr (Zd (Zb 1) (Zd (Zb 2) Zf)))) (ZL (Zp 1) Zj) ⟨rfl,rfl,rfl,rfl⟩))
  (Zh (ZaK (Zas (cNe hr) (ZdX ZjQ (Zb 3) Zbx) (ZdX ZjQ (Zl Zjm hr (Zd (Zb 1) (Zd (Zl ZgD hr (Zd (Zb 1) Zf)) Zf))) Zbx)) (Zk (Zz Zcz)) Z1)
  (Zh (ZaK (Zas ZjQ (Zb 4) Zbx) (Zk (Zz (ZdX ZjQ (Zb 3) Zbx))) Z1)
  (Zk (Zz (Zdr (Zl ZgB hr (Zd (Zb 3) Zf)) (Zdr (ZdX (cEq hr) (Zb 3) (Zb 4)) (ZdY (ZdX (cEq hr) (ZdX (cEq hr) (Zb 3) Zj) (Zl ZcK hr (Zd (Zb 1) (Zd (ZL (Zp 1) Zj) Zf)))))))))))))))
def FvI(K:ZzS)(t:Nat)(cs:List PyData)(F:Hp)(a:Addr):Prop :=
 (t=0/\cs=[]/\ZBS K ZAy "deeds_by" = some (some (.ref a)))\/(t=5/\cs=[]/\ZBS K ZAy "price_by" = some (some (.ref a)))\/(t=1/\Clo K F a (Zsr Z0) (Zmj Z0) (ZfP Z0) ["works","looks"] cs)\/(t=6/\Clo K F a (Zsr ZJ) (Zmj ZJ) (ZfP ZJ) ["works","prices"] cs)
theorem Zyg:Zim (ZfP Z0) "part" ["works","looks"]:=⟨rfl,rfl,rfl,by decide +kernel,rfl,by decide +kernel,by decide +kernel⟩
theorem ZxQ(T:Txt K mg)(ZbR:Callee P w K mg base k "ways_with" Zak)(qual:Str)(f:Addr)(cd:Value)(clos:List (Str × Addr))(A:Around)(outer:List PySem.Env)(s:Shared)(H:Hp)(hr:Zav k (A.deeper (ZCD qual (ZfP Z0) s.heap.objs.size f cd clos))) :
  XE (ZlX P w K mg base ["part","works","looks"] qual (ZfP Z0) f cd clos A outer s H) (Zmj Z0) (Zm Zak (Zc (Za 1) (Zc (Za 2) (Zc (Za 0) Zi)))):=by
 have hu:=ZH hr;exact(Zl ZbR hr (Zd (Zb 1) (Zd (Zb 2) (Zd (Zb 0) Zf))))
theorem Zyc:Zim (ZfP ZJ) "crowd" ["works","prices"]:=⟨rfl,rfl,rfl,by decide +kernel,rfl,by decide +kernel,by decide +kernel⟩
theorem Zw3(T:Txt K mg)(ZcI:Callee P w K mg base k "ways_to_buy" ZaN)(qual:Str)(f:Addr)(cd:Value)(clos:List (Str × Addr))(A:Around)(outer:List PySem.Env)(s:Shared)(H:Hp)(hr:Zav k (A.deeper (ZCD qual (ZfP ZJ) s.heap.objs.size f cd clos))) :
  XE (ZlX P w K mg base ["crowd","works","prices"] qual (ZfP ZJ) f cd clos A outer s H) (Zmj ZJ) (Zm ZaN (Zc (Za 1) (Zc (Za 2) (Zc (Za 0) Zi)))):=by
 have hu:=ZH hr;exact(Zl ZcI hr (Zd (Zb 1) (Zd (Zb 2) (Zd (Zb 0) Zf))))
theorem ZyS(T:Txt K mg)(V:∀t cs F a,FX.fv t cs F a->FvI K t cs F a){f0:Addr}{fd0:FuncData}(Fn0:Fun K "deeds_by" "deeds_by" Zfn f0 fd0)(hm0:mg "deeds_by" = some (.ref f0))(hn0:∀a,ZBS K ZAy "deeds_by" = some (some (.ref a))->mg "deeds_by" = some (.ref a))(ZhB:Callee P w K mg base (k+1) "deeds_by" Zda){f1:Addr}{fd1:FuncData}(Fn1:Fun K "price_by" "price_by" Zfo f1 fd1)(hm1:mg "price_by" = some (.ref f1))(hn1:∀a,ZBS K ZAy "price_by" = some (some (.ref a))->mg "price_by" = some (.ref a))(ZhC:Callee P w K mg base (k+1) "price_by" Zdb)(Lf_ways_with:Callee P w K mg base k "ways_with" Zak)(Lf_ways_to_buy:Callee P w K mg base k "ways_to_buy" ZaN):Zen P w K mg base (k+1) ap:=by
 constructor
 ·intro t cs F a h A outer s H e0 sub
  rcases V t cs F a h with⟨rfl,rfl,hn⟩ | ⟨rfl,rfl,hn⟩ | ⟨rfl,hC⟩ | ⟨rfl,hC⟩
  ·exact Zq8 Fn0 hm0 (hn0 a hn) e0
  ·exact Zq8 Fn1 hm1 (hn1 a hn) e0
  ·exact Zs7 hC e0 sub
  ·exact Zs7 hC e0 sub
 ·intro t cs F a h A outer s H e0 sub us vs ds d Q hr tb nt rv rs hap kk
  rcases V t cs F a h with⟨rfl,rfl,hn⟩ | ⟨rfl,rfl,hn⟩ | ⟨rfl,hC⟩ | ⟨rfl,hC⟩
  ·exact ZoY ZhB (hn0 a hn) e0 sub hr tb nt rv rs hap kk
  ·exact ZoY ZhC (hn1 a hn) e0 sub hr tb nt rv rs hap kk
  ·exact Zq7 Zyg (λ_ _ _ _ _ _=>rfl) (ZxQ T Lf_ways_with) hC e0 sub hr tb nt rv rs hap kk
  ·exact Zq7 Zyc (λ_ _ _ _ _ _=>rfl) (Zw3 T Lf_ways_to_buy) hC e0 sub hr tb nt rv rs hap kk
def tlI:List (Addr × Str):=[(240,"coming_from.<locals>.<lambda>"),(304,"reach_by_buying.<locals>.<lambda>")]
@[reducible] def fxI(K:ZzS):FX where
 tl:=tlI
 fv:=FvI K
 sw:=λhF hob h=>by
  rcases h with h | h | h | h
  ·exact ZAB (h)
  ·exact ZAj (ZAB (h))
  ·exact ZAj (ZAj (ZAB (⟨h.1,h.2.sw hF hob⟩)))
  ·exact ZAj (ZAj (ZAj ((⟨h.1,h.2.sw hF hob⟩))))
 drop:=λh=>by
  rcases h with h | h | h | h
  ·exact ZAB (h)
  ·exact ZAj (ZAB (h))
  ·exact ZAj (ZAj (ZAB (⟨h.1,h.2.drop⟩)))
  ·exact ZAj (ZAj (ZAj ((⟨h.1,h.2.drop⟩))))
 mono:=λh s=>by
  rcases h with h | h | h | h
  ·exact ZAB (h)
  ·exact ZAj (ZAB (h))
  ·exact ZAj (ZAj (ZAB (⟨h.1,h.2.mono s⟩)))
  ·exact ZAj (ZAj (ZAj ((⟨h.1,h.2.mono s⟩))))
structure Def(K:ZzS)(mg:Str->Option Value)(x:Str)(st:Stmt)(ps:List Str):Prop where
 ex:∃f fd,Fun K x x st f fd/\mg x=some (.ref f)/\Binds K fd ps []
theorem Zyi{kV:Value}(X:K.In h)(G:h.Ns ZAy mg)(a:ZBS K ZAy x=some (some (.ref f)))
  (l:K.lookup f=some ⟨oc,od,.func (ZBi x x (Zcl st) (Za7 st) (Ze st) .none kV doc pm an cdv ct),osl⟩) (c:ZBY K cdv x=true) (kp:ZBo K (.ref f)=true)
  (b:∀(kV doc pm:Value) (an:Option Addr) (cdv ct:Value) (us:List Value),us.length=ps.length->bindArgs (ZBi x x (Zcl st) (Za7 st) (Ze st) .none kV doc pm an cdv ct) ⟨us,[]⟩=pure (ps.zip us)):Def K mg x st ps :=
 ⟨f,_,ZoZ l c kp,ZDk X G a,(ZoZ l c kp).binds b⟩
structure Zvi(K:ZzS)(mg:Str->Option Value)(x:Str)(st:Stmt)(ps:List Str)(c T:Addr):Prop where
 ex:∃f fd,Zp2 K x x st f fd c/\mg x=some (.ref f)/\Binds K fd ps []/\ZBm K c T=true
theorem ZwH{T:Addr}{kV:Value}(X:K.In h)(G:h.Ns ZAy mg)(a:ZBS K ZAy x=some (some (.ref f)))
  (l:K.lookup f=some ⟨oc,od,.func (ZBi x x (Zcl st) (Za7 st) (Ze st) .none kV doc pm an cdv ct),osl⟩) (cc:ZBY K cdv x=true) (kp:ZBo K (.ref f)=true)
  (b:∀(kV doc pm:Value) (an:Option Addr) (cdv ct:Value) (us:List Value),us.length=ps.length->bindArgs (ZBi x x (Zcl st) (Za7 st) (Ze st) .none kV doc pm an cdv ct) ⟨us,[]⟩=pure (ps.zip us)) (e:cdv=.ref c) (hc:ZBm K c T=true):Zvi K mg x st ps c T:=by
 subst e;exact⟨f,_,Zwg l cc kp,ZDk X G a,.all (b kV doc pm an _ ct),hc⟩
def NsV(K:ZzS)(mg:Str->Option Value)(x:Str):Prop:=(∀a,ZBS K ZAy x=some (some (.ref a))->mg x=some (.ref a))/\∃f,ZBS K ZAy x=some (some (.ref f))
theorem Zw5(X:K.In h)(G:h.Ns ZAy mg)(a:ZBS K ZAy x=some (some (.ref f))):NsV K mg x:=⟨λ_ e=>ZDk X G e,f,a⟩
end
structure Ds(K:ZzS)(mg:Str->Option Value):Prop where
 Zqv:Def K mg "_law_cell" Zht ["_law_script","_law_k"]
 ZrI:Def K mg "_law_mix" Zia ["_law_cell_here","_law_prime","_law_many"]
 Zoq:Def K mg "_law_crowd" ZeH ["_law_cell_here","_law_many","_law_least_here"]
 Zqw:Def K mg "_law_deed" Zhu ["_law_cell_here","_law_many"]
 Zqx:Def K mg "_law_walk" Zhv ["_law_cell_here","_law_many"]
 Zor:Def K mg "_law_works" ZeI ["_law_script","_law_at"]
 Zny:Def K mg "_law_prices" Zc4 ["_law_works_here","_law_cell_here"]
 Zos:Def K mg "is_number" Zgm ["thing","least","most"]
 Zot:Def K mg "is_rising" Zgn ["thing","many"]
 Zqy:Def K mg "is_crowd" Zho ["thing","many"]
 ZsE:Def K mg "is_row" Zjd ["thing","least","most"]
 ZrJ:Def K mg "is_deed" ZfZ ["thing","many"]
 Zou:Def K mg "are_deeds" ZeD ["thing","many"]
 ZrK:Def K mg "is_look" Zf0 ["thing","many"]
 Zov:Def K mg "are_looks" ZeE ["thing","many"]
 Zow:Def K mg "are_works" Zgo ["thing"]
 ZrL:Def K mg "checked" Zh9 ["works"]
 Zlp:Def K mg "is_price_row" Zdm ["thing","many"]
 Zqz:Def K mg "deeds_of" Zhp ["works"]
 ZqA:Def K mg "looks_of" Zhq ["works"]
 Zkn:Def K mg "checked_prices" ZdT ["works","prices"]
 Zjn:Def K mg "crowds_in" ZcF ["rows"]
 ZkQ:Def K mg "cost_at_worst" ZcT ["rows","costs"]
 ZkA:Def K mg "deeds_by" Zfn ["way","depths"]
 ZkB:Def K mg "price_by" Zfo ["way","costs"]
 ZrM:Def K mg "seen_in" Zf1 ["works","looks","state"]
 ZsF:Def K mg "parted" Zg4 ["works","looks","crowd"]
 Zl6:Def K mg "can_be_done" ZdN ["works","crowd","deed"]
 Znz:Def K mg "deeds_with" Zd4 ["works","crowd"]
 ZsG:Def K mg "led_to" Zje ["works","crowd","deed"]
 Zox:Def K mg "ways_with" ZeG ["works","looks","crowd"]
 Zlq:Def K mg "deeds_to_buy" Zdn ["works","prices","crowd"]
 Zlr:Def K mg "looks_to_buy" Zcq ["works","prices","crowd"]
 Zl7:Def K mg "ways_to_buy" Ze0 ["works","prices","crowd"]
 ZnA:Def K mg "least_cost" Zc3 ["ways","costs","cost_by"]
 ZnB:Def K mg "next_costs" ZfJ ["reach","costs","cost_by"]
 ZrN:Def K mg "goal_of" Zh8 ["works"]
 ZqB:Def K mg "is_there" Zfm ["works","crowd"]
 ZqC:Def K mg "costs_of" Zdc ["works","reach","cost_by"]
 Zls:Def K mg "reached_from" ZeF ["crowds","ways_for"]
 ZqD:Def K mg "begin_of" Zhr ["works"]
 Zjo:Zvi K mg "reach_by_buying" ZJ ["works","prices"] 308 304
 ZqE:Def K mg "cheapest" Zhs ["works","prices"]
 Zoy:Def K mg "_law_whole" Zgr ["_law_found"]
 ZrO:Def K mg "_law_led" Zib ["_law_works_here","_law_crowd_here","_law_deed_here"]
 Zoz:Def K mg "_law_split" ZdB ["_law_works_here","_law_looks","_law_crowd_here"]
 ZqF:Def K mg "_law_ways" Zfp ["_law_works_here","_law_prices_here","_law_crowd_here"]
 ZoA:Def K mg "_law_there" ZeJ ["_law_works_here","_law_crowd_here"]
 ZoB:Def K mg "_law_least" ZcG ["_law_works_here","_law_prices_here"]
 ZkR:Def K mg "checked_looks" Zeb ["works","looks"]
 ZoC:Def K mg "depths_of" Zgq ["works","coming"]
 Zl8:Zvi K mg "coming_from" Z0 ["works","looks","crowd"] 244 240
 ZsH:Def K mg "fewest" Zjf ["works","looks"]
 ZoD:Def K mg "all_looks" Zgp ["works"]
 Nf_deeds_by:NsV K mg "deeds_by"
 Nf_price_by:NsV K mg "price_by"
section
variable[FX]{P:Program}{w:World}{K:ZzS}{mg:Str->Option Value}{base:Heap}{k:Nat}
theorem Zxq(T:Txt K mg)(hV:∀t cs F a,FX.fv t cs F a↔FvI K t cs F a)(hTL:FX.tl=tlI)(Dd:Ds K mg)(bm:BMod base mg){f:Addr}{fd:FuncData}(Fn:Fun K "law" "law" Zgs f fd):ZdG P w K mg base CX0 13 f fd ["_law_script"] (spD K 1 (Zgl ap)):=by
 have Vff_deeds_by:GFn mg "deeds_by" 0:=by obtain⟨h1,g,h2⟩:=Dd.Nf_deeds_by;exact⟨g,h1 g h2,λF=>(hV _ _ _ _).mpr (ZAB (⟨rfl,rfl,h2⟩))⟩
 have Vff_price_by:GFn mg "price_by" 5:=by obtain⟨h1,g,h2⟩:=Dd.Nf_price_by;exact⟨g,h1 g h2,λF=>(hV _ _ _ _).mpr (ZAj (ZAB (⟨rfl,rfl,h2⟩)))⟩
 have Zbe:Callee P w K mg base 1 "_law_cell" Zam:=by obtain⟨f,fd,F,m,b⟩:=Dd.Zqv.ex;exact Zn8 T  F m b
 have ZM:Callee P w K mg base 1 "_law_mix" ZI:=by obtain⟨f,fd,F,m,b⟩:=Dd.ZrI.ex;exact Zqj T  F m b
 have ZeK:Callee P w K mg base 2 "_law_crowd" ZbO:=by obtain⟨f,fd,F,m,b⟩:=Dd.Zoq.ex;exact Znb T (ZM.mono (by decide)) F m b
 have Zhw:Callee P w K mg base 2 "_law_deed" Zc8:=by obtain⟨f,fd,F,m,b⟩:=Dd.Zqw.ex;exact Zn9 T (ZM.mono (by decide)) F m b
 have Zhx:Callee P w K mg base 2 "_law_walk" Zc9:=by obtain⟨f,fd,F,m,b⟩:=Dd.Zqx.ex;exact Zoa T (ZM.mono (by decide)) F m b
 have ZgA:Callee P w K mg base 3 "_law_works" Zbb:=by obtain⟨f,fd,F,m,b⟩:=Dd.Zor.ex;exact Znc T (Zbe.mono (by decide)) (ZeK.mono (by decide)) (ZM.mono (by decide)) (Zhw.mono (by decide)) (Zhx.mono (by decide)) F m b
 have ZfN:Callee P w K mg base 2 "_law_prices" Zc1:=by obtain⟨f,fd,F,m,b⟩:=Dd.Zny.ex;exact Zl1 T (ZM.mono (by decide)) F m b
 have ZaH:Callee P w K mg base 1 "is_number" Zat:=by obtain⟨f,fd,F,m,b⟩:=Dd.Zos.ex;exact Zne T  F m b
 have ZaI:Callee P w K mg base 2 "is_rising" Zaa:=by obtain⟨f,fd,F,m,b⟩:=Dd.Zot.ex;exact Znf T (ZaH.mono (by decide)) F m b
 have Zhy:Callee P w K mg base 3 "is_crowd" Zc7:=by obtain⟨f,fd,F,m,b⟩:=Dd.Zqy.ex;exact Zoc T (ZaI.mono (by decide)) F m b
 have Z7:Callee P w K mg base 1 "is_row" Zaq:=by obtain⟨f,fd,F,m,b⟩:=Dd.ZsE.ex;exact ZrE T  F m b
 have Zic:Callee P w K mg base 3 "is_deed" Zcm:=by obtain⟨f,fd,F,m,b⟩:=Dd.ZrJ.ex;exact Zql T (Z7.mono (by decide)) (ZaI.mono (by decide)) F m b
 have Zgt:Callee P w K mg base 4 "are_deeds" ZcA:=by obtain⟨f,fd,F,m,b⟩:=Dd.Zou.ex;exact Znh T (Z7.mono (by decide)) (Zic.mono (by decide)) F m b
 have Zid:Callee P w K mg base 2 "is_look" Zcn:=by obtain⟨f,fd,F,m,b⟩:=Dd.ZrK.ex;exact Zqn T (Z7.mono (by decide)) (ZaH.mono (by decide)) F m b
 have Zgu:Callee P w K mg base 3 "are_looks" ZcB:=by obtain⟨f,fd,F,m,b⟩:=Dd.Zov.ex;exact Znj T (Z7.mono (by decide)) (Zid.mono (by decide)) F m b
 have Zgv:Callee P w K mg base 5 "are_works" ZcC:=by obtain⟨f,fd,F,m,b⟩:=Dd.Zow.ex;exact Znk T (Zhy.mono (by decide)) (ZaI.mono (by decide)) (Z7.mono (by decide)) (ZaH.mono (by decide)) (Zgt.mono (by decide)) (Zgu.mono (by decide)) F m b
 have Zb3:Callee P w K mg base 6 "checked" ZbG:=by obtain⟨f,fd,F,m,b⟩:=Dd.ZrL.ex;exact Zqp T (Zgv.mono (by decide)) F m b
 have Zdo:Callee P w K mg base 2 "is_price_row" Zbr:=by obtain⟨f,fd,F,m,b⟩:=Dd.Zlp.ex;exact ZkL T (Z7.mono (by decide)) (ZaH.mono (by decide)) F m b
 have Za4:Callee P w K mg base 1 "deeds_of" Za2:=by obtain⟨f,fd,F,m,b⟩:=Dd.Zqz.ex;exact Zoe T  F m b
 have Za5:Callee P w K mg base 1 "looks_of" Za3:=by obtain⟨f,fd,F,m,b⟩:=Dd.ZqA.ex;exact Zog T  F m b
 have ZdU:Callee P w K mg base 3 "checked_prices" Zb0:=by obtain⟨f,fd,F,m,b⟩:=Dd.Zkn.ex;exact Zjh T (Z7.mono (by decide)) (Zdo.mono (by decide)) (Za4.mono (by decide)) (Za5.mono (by decide)) F m b
 have ZbQ:Callee P w K mg base 1 "crowds_in" ZQ:=by obtain⟨f,fd,F,m,b⟩:=Dd.Zjn.ex;exact Znl T  F m b
 have Zgx:Zet P w K mg base 1 "crowds_in" ZQ:=by obtain⟨f,fd,F,m,b⟩:=Dd.Zjn.ex;exact Zl2 T  F m b
 have ZaC:Callee P w K mg base 2 "cost_at_worst" ZR:=by obtain⟨f,fd,F,m,b⟩:=Dd.ZkQ.ex;exact Zkk T (ZbQ.mono (by decide)) F m b
 have ZhB:Callee P w K mg base 3 "deeds_by" Zda:=by obtain⟨f,fd,F,m,b⟩:=Dd.ZkA.ex;exact Zoh T (ZaC.mono (by decide)) F m b
 have ZhC:Callee P w K mg base 3 "price_by" Zdb:=by obtain⟨f,fd,F,m,b⟩:=Dd.ZkB.ex;exact Zoi T (ZaC.mono (by decide)) F m b
 have Zif:Callee P w K mg base 2 "seen_in" ZdL:=by obtain⟨f,fd,F,m,b⟩:=Dd.ZrM.ex;exact Zqr T (Za5.mono (by decide)) F m b
 have Zbz:Callee P w K mg base 3 "parted" Zar:=by obtain⟨f,fd,F,m,b⟩:=Dd.ZsF.ex;exact ZrF T (Zif.mono (by decide)) F m b
 have Ze2:Callee P w K mg base 2 "can_be_done" Zb8:=by obtain⟨f,fd,F,m,b⟩:=Dd.Zl6.ex;exact Zlk T (Za4.mono (by decide)) F m b
 have ZfL:Callee P w K mg base 3 "deeds_with" Zcj:=by obtain⟨f,fd,F,m,b⟩:=Dd.Znz.ex;exact Zl4 T (Ze2.mono (by decide)) (Za4.mono (by decide)) F m b
 have Zjk:Callee P w K mg base 2 "led_to" Zdt:=by obtain⟨f,fd,F,m,b⟩:=Dd.ZsG.ex;exact ZrG T (Za4.mono (by decide)) F m b
 have ZbR:Callee P w K mg base 4 "ways_with" Zak:=by obtain⟨f,fd,F,m,b⟩:=Dd.Zox.ex;exact Znn T (Zbz.mono (by decide)) (ZfL.mono (by decide)) (Zjk.mono (by decide)) F m b
 have ZeM:Callee P w K mg base 5 "deeds_to_buy" Zco:=by obtain⟨f,fd,F,m,b⟩:=Dd.Zlq.ex;exact ZkN T (ZbR.mono (by decide)) F m b
 have ZeN:Callee P w K mg base 4 "looks_to_buy" Zcp:=by obtain⟨f,fd,F,m,b⟩:=Dd.Zlr.ex;exact ZkO T (Zbz.mono (by decide)) F m b
 have ZcI:Callee P w K mg base 6 "ways_to_buy" ZaN:=by obtain⟨f,fd,F,m,b⟩:=Dd.Zl7.ex;exact Zlm T (ZeM.mono (by decide)) (ZeN.mono (by decide)) F m b
 obtain⟨f0,fd0,F0,m0,b0⟩:=Dd.ZkA.ex;obtain⟨f1,fd1,F1,m1,b1⟩:=Dd.ZkB.ex;have CV:Zen P w K mg base 7 ap:=ZyS (k:=6) T (λt cs F a h=>(hV t cs F a).mp h) F0 m0 Dd.Nf_deeds_by.1 (ZhB.mono (by decide)) F1 m1 Dd.Nf_price_by.1 (ZhC.mono (by decide)) (ZbR.mono (by decide)) (ZcI.mono (by decide));have ZfM:Callee P w K mg base 8 "least_cost" (ZbX ap):=by obtain⟨f,fd,F,m,b⟩:=Dd.ZnA.ex;exact Zl5 T  (CV.mono (by decide)) F m b
 have Gf_next_costs:Zes P w K mg base 9 "next_costs" (ZbA ap):=by obtain⟨f,fd,F,m,b⟩:=Dd.ZnB.ex;exact ZlV T (ZfM.mono (by decide)) F m b
 have Zig:Callee P w K mg base 1 "goal_of" ZdM:=by obtain⟨f,fd,F,m,b⟩:=Dd.ZrN.ex;exact Zqt T  F m b
 have Zhz:Callee P w K mg base 2 "is_there" ZbH:=by obtain⟨f,fd,F,m,b⟩:=Dd.ZqB.ex;exact Zok T (Zig.mono (by decide)) F m b
 have Zdd:Callee P w K mg base 10 "costs_of" (ZbI ap):=by obtain⟨f,fd,F,m,b⟩:=Dd.ZqC.ex;exact Zol T (Zhz.mono (by decide)) (Gf_next_costs.mono (by decide)) F m b
 have ZbV:Callee P w K mg base 8 "reached_from" (ZaO ap):=by obtain⟨f,fd,F,m,b⟩:=Dd.Zls.ex;exact ZkP T (ZbQ.mono (by decide)) (Zgx.mono (by decide)) (CV.mono (by decide)) F m b
 have ZbJ:Callee P w K mg base 1 "begin_of" Zbo:=by obtain⟨f,fd,F,m,b⟩:=Dd.ZqD.ex;exact Zon T  F m b
 have ZdC:Callee P w K mg base 9 "reach_by_buying" (Zbj ap):=by obtain⟨f,fd,F,m,b,hc⟩:=Dd.Zjo.ex;exact ZiY T (ZbV.mono (by decide)) (ZbJ.mono (by decide)) (ZcI.mono (by decide)) hc (by rw[hTL]; decide) (by rw[hTL]; intro q h; simpa [tlI]using h) bm (λF p cs h=>(hV _ _ _ _).mpr (ZAj (ZAj (ZAj ((⟨rfl,h⟩)))))) F m b
 have ZhA:Callee P w K mg base 11 "cheapest" (ZdZ ap):=by obtain⟨f,fd,F,m,b⟩:=Dd.ZqE.ex;exact Zoo T (Zb3.mono (by decide)) (ZdU.mono (by decide)) (Zdd.mono (by decide)) (ZdC.mono (by decide)) (ZbJ.mono (by decide)) Vff_price_by F m b
 have ZgB:Callee P w K mg base 1 "_law_whole" ZcD:=by obtain⟨f,fd,F,m,b⟩:=Dd.Zoy.ex;exact Znp T  F m b
 have Zih:Callee P w K mg base 1 "_law_led" ZcS:=by obtain⟨f,fd,F,m,b⟩:=Dd.ZrO.ex;exact Zqu T  F m b
 have Zgy:Callee P w K mg base 1 "_law_split" ZbP:=by obtain⟨f,fd,F,m,b⟩:=Dd.Zoz.ex;exact Znq T  F m b
 have Zfr:Callee P w K mg base 2 "_law_ways" Zb5:=by obtain⟨f,fd,F,m,b⟩:=Dd.ZqF.ex;exact Zop T (Zih.mono (by decide)) (Zgy.mono (by decide)) F m b
 have ZcK:Callee P w K mg base 1 "_law_there" Zbd:=by obtain⟨f,fd,F,m,b⟩:=Dd.ZoA.ex;exact Zns T  F m b
 have ZgC:Callee P w K mg base 3 "_law_least" ZdA:=by obtain⟨f,fd,F,m,b⟩:=Dd.ZoB.ex;exact Znt T (Zfr.mono (by decide)) (ZcK.mono (by decide)) F m b
 have Zec:Callee P w K mg base 3 "checked_looks" ZbC:=by obtain⟨f,fd,F,m,b⟩:=Dd.ZkR.ex;exact Zkm T (ZaI.mono (by decide)) (Za5.mono (by decide)) F m b
 have Zgz:Callee P w K mg base 11 "depths_of" (Zdy ap):=by obtain⟨f,fd,F,m,b⟩:=Dd.ZoC.ex;exact Znv T (Zdd.mono (by decide)) Vff_deeds_by F m b
 have Ze3:Callee P w K mg base 9 "coming_from" (ZcE ap):=by obtain⟨f,fd,F,m,b,hc⟩:=Dd.Zl8.ex;exact Zlo T (ZbV.mono (by decide)) (ZbQ.mono (by decide)) (Zbz.mono (by decide)) (ZbR.mono (by decide)) hc (by rw[hTL]; decide) (by rw[hTL]; intro q h; simpa [tlI]using h) bm (λF p cs h=>(hV _ _ _ _).mpr (ZAj (ZAj (ZAB (⟨rfl,h⟩))))) F m b
 have Zjm:Callee P w K mg base 12 "fewest" (Zel ap):=by obtain⟨f,fd,F,m,b⟩:=Dd.ZsH.ex;exact ZrH T (Zb3.mono (by decide)) (Zec.mono (by decide)) (ZbJ.mono (by decide)) (Zgz.mono (by decide)) (ZaC.mono (by decide)) (Ze3.mono (by decide)) (Zbz.mono (by decide)) F m b
 have ZgD:Callee P w K mg base 7 "all_looks" Zca:=by obtain⟨f,fd,F,m,b⟩:=Dd.ZoD.ex;exact Znx T (Za5.mono (by decide)) (Zb3.mono (by decide)) F m b
 exact ZvN (k:=12) T (ZgA.mono (by decide)) (ZfN.mono (by decide)) (ZhA.mono (by decide)) (Zbe.mono (by decide)) (ZgB.mono (by decide)) (ZgC.mono (by decide)) (Zjm.mono (by decide)) (ZcK.mono (by decide)) (ZgD.mono (by decide)) Fn
end
theorem all_mk{l:ZEq}{w:World}{K:ZzS}{mg:Str->Option Value}{fa f4:Addr}{od4 an4:Option Addr}{sl4:Array (Option Value)}{oc4 kV4 dc4 pm4 cd4 ct4:Value}(X:K.In h)(G:h.Ns ZAy mg)(hfa:mg "law" = some (.ref fa))
  (T:Txt K mg) (Dd:Ds K mg) (a4:ZBS K ZAy "law" = some (some (.ref f4)))
  (l4:K.lookup f4=some ⟨oc4,od4,.func (ZBi "law" "law" (Zcl Zgs) (Za7 Zgs) (Ze Zgs) .none kV4 dc4 pm4 an4 cd4 ct4),sl4⟩) (c4:ZBY K cd4 "law" = true) (k4:ZBo K (.ref f4)=true) :
  ∃fd:FuncData,(∀(s:Shared) (v:Value),BindsTo s fd ⟨[v],[]⟩ [("_law_script",v)])/\∀base:Heap,K.In base->base.Ns ZAy mg->BMod base mg->ZdG l.prog w K mg base CX0 13 fa fd ["_law_script"] (@spD (fxI K) K 1 (Zgl ap)):=by
 have e:=hfa.symm.trans (ZDk X G a4);cases e;have fx0:FX:=FX0;exact⟨_,λs v=>.of_eq rfl,λbase _ _ bm=>@Zxq (fxI K) _ _ _ _ _ T (λ_ _ _ _=>Iff.rfl) rfl Dd bm _ _ (ZoZ (st:=Zgs) l4 c4 k4)⟩
theorem walk{l:ZEq}{q:Program}{loose:List Str}{XP:(Str->Option Value)->Heap->Prop}{YP:World->Heap->Prop}{d:DefRec}{K:Params->ZzS}(hn:l.most=some 63)(hdf:d.params.defaults=[])
  (ZkS:∀ns:List Int,ns.length<=63->(Zgl ap) [.list (HM.ofInts ns)]=some (.bool true)) (hY:∀(w:World) (h:Heap),YP w h->(K w.params).In h) (hYT:∀(w:World) (h:Heap),YP w h->∀q∈([(244,240),(308,304)]:List (Addr × Addr)),h.get? q.2=some (ZCE #[]))
  (hT:∀(w:World),∀q∈([(244,240),(308,304)]:List (Addr × Addr)),ZBm (K w.params) q.1 q.2=true/\(K w.params).lookup q.2=none)
  (F:∀(w:World) (mg:Str->Option Value) (fa:Addr) (h:Heap),(K w.params).In h->h.Ns ZAy mg->mg d.name=some (.ref fa) ->
   ∃fd:FuncData,(∀(s:Shared) (u:Value),BindsTo s fd ⟨[u],[]⟩ [("_law_script",u)])/\∀base:Heap,(K w.params).In base->base.Ns ZAy mg->BMod base mg->ZdG l.prog w (K w.params) mg base CX0 13 fa fd ["_law_script"] (@spD (fxI (K w.params)) (K w.params) 1 (Zgl ap))) :
  PySem.W.WalkO q loose XP YP l.row.toRowW d [] (λf vs=>PySem.call f vs) :=
 Zu4 (n:=63) (k:=13) (x:="_law_script") (sp:=λw=>@spD (fxI (K w.params)) (K w.params) 1 (Zgl ap)) (tabs:=[(244,240),(308,304)]) hn (by decide) hdf ⟨rfl,by decide,by decide⟩ hY hYT hT F λw H a ns hl hO hS=>@ZxJ (fxI (K w.params)) _ _ _ _ _ _ hO (λT q h=>by
  have:∀p∈tlI,p.1∈([(244,240),(308,304)]:List (Addr × Addr)).map (·.2):=by decide
  exact this _ h) hS (ZkS ns hl)
section
variable{P:Program}{w:World}{K:ZzS}{mg:Str->Option Value}{base:Heap}{k:Nat}
abbrev Zzd{K:ZzS}(_:K.In h)(mg:Str->Option Value):Prop:=Ds K mg
abbrev ZyK{K:ZzS}(_:K.In h)(mg:Str->Option Value):Prop:=Txt K mg
theorem int_mk{mg:Str->Option Value}{n:Str}{v:Value}{k:Int}(h:mg n=some v)(e:∃t,v=.int k t):∃t,mg n=some (.int k t):=by obtain⟨t,rfl⟩:=e;exact⟨t,h⟩
end
end HT
namespace PySem.W.Fast
theorem tw1025274157914361551:True:=⟨⟩
theorem tw10674810640251051709:True:=⟨⟩
theorem tw1101379373544878879:True:=⟨⟩
theorem tw11225059900523770447:True:=⟨⟩
theorem tw11371200931524688698:True:=⟨⟩
theorem tw1263040316000377536:True:=⟨⟩
theorem tw13710482189291067637:True:=⟨⟩
theorem tw1417618226048358620:True:=⟨⟩
theorem tw14718980957032902538:True:=⟨⟩
theorem tw15244577686330196597:True:=⟨⟩
theorem tw15319755060879801189:True:=⟨⟩
theorem tw15366270529734864029:True:=⟨⟩
theorem tw15609081851861015847:True:=⟨⟩
theorem tw17150513439176762383:True:=⟨⟩
theorem tw17186798840295145583:True:=⟨⟩
theorem tw3532710221150038951:True:=⟨⟩
theorem tw4584890454228550939:True:=⟨⟩
theorem tw486144471465869080:True:=⟨⟩
theorem tw5010322896227984315:True:=⟨⟩
theorem tw5608605526262904536:True:=⟨⟩
theorem tw5903568300141906469:True:=⟨⟩
theorem tw5981314739939674303:True:=⟨⟩
theorem tw6404284169281870814:True:=⟨⟩
theorem tw6910395631714107322:True:=⟨⟩
theorem tw7650416966110397896:True:=⟨⟩
theorem tw7667221032244773150:True:=⟨⟩
theorem tw8244979400113492018:True:=⟨⟩
theorem tw8851611825967393946:True:=⟨⟩
end PySem.W.Fast
open PySem PySem.W PyProof.Rows
set_option maxRecDepth 100000 in
set_option maxHeartbeats 0 in
theorem PySem.Challenge.cw_halfseen_k23_least_prices_holds : PySem.Challenge.rw_halfseen_k23_least_prices.Holds := by
 w_on; o_law; k_head; (case hw=>w_witness2)
 k_fill
 refine HT.walk (l:=PySem.Challenge.rw_halfseen_k23_least_prices) rfl rfl HG23.ZkS (λw h Y=>PySem.W.km_in_of Y) (λw h Y q hq=>PySem.W.km_tabs_of Y _ (by clear Y; revert q; decide)) ?Tab ?F
 case Tab =>
  intro w q hq;rcases Zz7.mp hq with e | hq
  ·cases e
   exact⟨by kernel_rfl,by kernel_rfl⟩
  cases Zz0.mp hq;exact⟨by kernel_rfl,by kernel_rfl⟩
 case F =>
  intro w mg fa h KX G hmg;have fx0:HP.FX:=HP.FX0;have T:HT.ZyK KX mg:=by
   refine⟨?_,?_,?_,?_,?_,?_,?_,?_,?_,?_,?_,?_,?_,?_,?_,?_,?_,?_,?_⟩
   all_goals first
    | (refine PySem.W.mg_none_of KX G ?z; (case z=>k_is))
    | (refine' HT.int_mk (ZDk KX G ?z) ?e; (case z=>k_is); (case e=>exact⟨_,rfl⟩))
  have Dd:HT.Zzd KX mg:=by
   refine⟨?_,?_,?_,?_,?_,?_,?_,?_,?_,?_,?_,?_,?_,?_,?_,?_,?_,?_,?_,?_,?_,?_,?_,?_,?_,?_,?_,?_,?_,?_,?_,?_,?_,?_,?_,?_,?_,?_,?_,?_,?_,?_,?_,?_,?_,?_,?_,?_,?_,?_,?_,?_,?_,?_,?_,?_⟩
   all_goals first
    | (refine' HT.Zyi KX G ?a ?l ?c ?k ?b; (case a=>k_is); (case l=>k_is); (case c=>k_is); (case k=>k_is); (case b=>first | exact λ_ _ _ _ _ _ us hl=>(match us,hl with | [_],_=>rfl) | exact λ_ _ _ _ _ _ us hl=>(match us,hl with | [_,_],_=>rfl) | exact λ_ _ _ _ _ _ us hl=>(match us,hl with | [_,_,_],_=>rfl)))
    | (refine' HT.ZwH KX G ?a ?l ?c ?k ?b ?e ?h; (case a=>k_is); (case l=>k_is); (case c=>k_is); (case k=>k_is); (case h=>kernel_rfl); (case e=>exact rfl); (case b=>first | exact λ_ _ _ _ _ _ us hl=>(match us,hl with | [_],_=>rfl) | exact λ_ _ _ _ _ _ us hl=>(match us,hl with | [_,_],_=>rfl) | exact λ_ _ _ _ _ _ us hl=>(match us,hl with | [_,_,_],_=>rfl)))
    | (refine' HT.Zw5 KX G ?z; (case z=>k_is))
  refine' HT.all_mk KX G hmg T Dd ?a4 ?l4 ?c4 ?k4
  (case a4=>k_is); (case l4=>k_is); (case c4=>k_is); (case k4=>k_is)