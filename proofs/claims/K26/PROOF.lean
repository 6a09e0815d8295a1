import PyProof.Rows.All
import Wide.All
import OpenK.AllK
import Wide.FinOn
import Lean
import PyProof.EqAt
import PyProof.EqKinds
import PyProof.TupleCall
import PyProof.P3Statements
import PyProof.P3Eq
import PyProof.NeData
import PyProof.IsiPairs
import PyProof.IsiHeapPairs
import KE.LcSums
import PyProof.IsiNone
import PyProof.DictRoadsH
import PyProof.Rows.SetFrom
import PyProof.DictWalks
import PyProof.Rows.MinMaxN
import PyProof.Rows.SumAny
import PyProof.WalkInts
import PyProof.Draws
import PyProof.EnumMake
import PyProof.TupleIter
import PySem.Challenge.RW_halfseen_k26_whole_what_looks_cost
set_option Elab.async false
set_option linter.all false
set_option maxRecDepth 100000
set_option bootstrap.genMatcherCode false
open Option renaming some->Z,none->Z_
open Bool renaming true->ZGH,false->ZGI
open PySem renaming wpAny_bind->ZBa,wpAny_pure->ZBe,starEach->ZBp,mainGlobals->ZBT,wpAny_newObj_type->ZBV,bootBuiltins->ZCg,wpAny_call_entry->ZCj,wpAny_holding->ZCm,compareOp->ZCx,wpAny_mono->ZCH,wpAny_truthy_bool->ZCI,codeAny_builtin->ZCL,sizeLine_eq->ZCN,mem_of_lookup->ZCT,intItems->ZCU,sysModules->ZCV,foldedSetIterable->ZC2,wpAny_Call_Name_kw->ZDa,codeAny_mono->ZDi,lookup_relabel_local->ZDm,behindInMarks->ZDo,wpAny_typeNameOfWhole_keyiter->ZDp,tupleKind_room_in1->ZDx,wpAny_passesOwn->ZDy,wpAny_ite_split->ZDz,attributeBase->ZDD,plainId_quiet->ZDF,swapsWith->ZDM,wpAny_setField->ZDN,binaryOp->ZDO,wpAny_typeNameOf_keyiter->ZDR,intItems_at->ZD2,firstArgMember->ZD8,wpAny_askSetting->ZEg,wpAny_field->ZEj,sliceBounds->ZEk,tupleKind->ZEn,wpAny_pyIter_tuple->ZEr,assignEach->ZEu,wpAny_seqItems->ZEz,wpAny_tryCatch->ZEA,wpAny_dictEntries->ZEE,wpAny_setState_of->ZEG,keywordEach->ZEM,numAt_eq->ZEW,wpAny_execs_nil->ZEY,letOwnedTupleGo->ZEZ,wpAny_typeOf->ZE0,wpAny_newFunctionEnv->ZE5,wpAny_rule->ZE6,wpAny_setEntries_of->ZFd,wpAny_fieldsOf->ZFh,wpAny_of_eq->ZFj,codeAmong->ZFl,wpAny_attempt->ZFw,nums_intItems->ZFy,wpAny_pyIter_list->ZFF,wpAny_pyIter_slot->ZFH,builtinsNs->ZFI,wpAny_call->ZFJ,call_meets->ZFK,intKind_is->ZFN,concat_meets->ZFR,noFill_tuple_add->ZFS,backToKw->ZFT,wpAny_isInstance->ZFX,pickOrder->ZF7,wpAny_dictEpoch->ZF8,wpAny_updateSeq->ZGb,subscripted->ZGe,wpAny_letGo->ZGi
open List renaming length_map->ZBb,mem_cons_self->ZBf,mem_map->ZBh,mem_cons_of_mem->ZBi,all_eq_true->ZBj,mem_singleton->ZBk,range->ZBm,map_cons->ZBn,mem_cons->ZBq,getElem?_eq_some_iff->ZBr,size_toArray->ZBs,getElem?_eq_getElem->ZBu,length_append->ZBv,length_cons->ZBy,map_map->ZBz,mem_range->ZBD,mem_append_right->ZBE,mem_filter->ZBF,getElem?_map->ZBG,mem_append->ZBI,map_append->ZBJ,mem_of_getElem?->ZBN,getElem?_set_ne->ZBP,getElem?_append_right->ZBQ,replicate->ZBR,any_eq_true->ZBS,mem_filterMap->ZBU,append_nil->ZBW,getElem?_append_left->ZBX,getElem?_cons_succ->ZB0,length_take->ZB1,nodup_cons->ZB4,pairwise_cons->ZB5,mem_append_left->ZB6,length->ZB7,length_replicate->ZB8,getElem?_set_self->ZB9,find?_cons->ZCc,all_cons->ZCp,length_singleton->ZCs,min?_eq_some_iff->ZCt,length_filter_le->ZCu,length_range->ZCv,length_set->ZCy,length_drop->ZCB,eq_nil_of_length_eq_zero->ZCD,filterMap_cons->ZCE,map_congr_left->ZCF,filter_eq_self->ZCG,getD->ZCS,exists_mem_of_ne_nil->ZCW,getElem_mem->ZCY,append_assoc->ZC3,replicate_succ->ZC4,lookup_cons->ZC7,nodup_nil->ZDb,mem_of_find?_eq_some->ZDf,foldl_cons->ZDj,nil_append->ZDk,nodup_append->ZDn,filter_cons->ZDt,take_of_length_le->ZDv,map_nil->ZDw,max?_eq_some_iff->ZDB,min?_eq_none_iff->ZDC,flatten_cons->ZDG,mem_flatMap->ZDQ,map_eq_nil_iff->ZDS,getElem?_replicate->ZDU,getElem?_cons_zero->ZDV,any_cons->ZDZ,getElem?_eq_none->ZD5,set_getElem_self->ZD6,max?_eq_none_iff->ZEb,pairwise_append->ZEe,mergeSort_perm->ZEl,ne_nil_of_mem->ZEt,pairwise_mergeSort->ZED,pairwise_map->ZEJ,find?_isSome->ZEK,length_pos_of_mem->ZEO,filter_eq_nil_iff->ZEQ,set_set->ZE2,mem_of_mem_take->ZE8,find?_some->ZFa,find?_eq_some_iff_append->ZFb,getElem_of_mem->ZFc,length_pos_iff->ZFe,map->ZFf,getElem?_drop->ZFm,map_take->ZFu,map_drop->ZFv,nodup_iff_pairwise_ne->ZFB,exists_cons_of_ne_nil->ZFC,find?_append->ZFG,drop_eq_getElem_cons->ZFL,pairwise_iff_getElem->ZFM,getElem?_take_of_lt->ZFQ,set_eq_of_length_le->ZFU,cons_append->ZFY,all_nil->ZFZ,length_filterMap_le->ZF0,filter_cons_of_pos->ZF3,filter_cons_of_neg->ZF4,of_mem_zip->ZF5,pairwise_lt_range->ZGj,drop_of_length_le->ZGl,dropLast_eq_take->ZGr,find?_map->ZGs
open Option renaming map_eq_some_iff->ZBc,isSome_iff_exists->ZBM,map->ZCJ,isSome_map->ZCR,isSome->ZEh,bind_eq_some_iff->ZEC,map_eq_none_iff->ZGg
open PySem.W renaming Frag->ZBd,fnOf->ZCK,codeHdIn->ZCM,keepIn->ZCO,nsIn->ZC0,codeIn->ZDq,envX->ZD9,tabObj->ZEa,mg_of->ZEi,kla_obj->ZE7,methodObj->ZFD,OpenLaw->ZGc,cellsFrom_some->ZGd,codeHd_of_K->ZGz,callWith_K->ZGC,FnAt->ZGE,callWith_F->ZGF
open PySem.Heap renaming get?_push_of_some->ZBg,lt_size->ZBt,get?_push_size->ZBw,get?_update_self->ZCk,get?_update_other->ZCP,SameBut->ZC5,size_push->ZDd,get?_push_ne->ZD4,size_update->ZEV
open Nat renaming le_refl->ZBl,ne_of_lt->ZBA,lt_of_lt_of_le->ZBK,le_trans->ZCh,zero_le->ZCC,lt_irrefl->ZC1,le_of_lt->ZDh,lt_trans->ZDl,le_of_not_lt->ZDr,lt_succ_self->ZDs,lt_succ_of_lt->ZDI,blt_eq->ZEd,ne_of_gt->ZEo,le_of_eq->ZE4,le_succ->ZGh
open PySem.SetTable renaming below->ZBo,insertAt->ZBH,insertAt_perm->ZC6,tooFull->ZEf,toList_insertAt->ZEs,fits->ZER,fill->ZES,turns->ZGm,bits->ZGu
open Bool renaming and_eq_true->ZBx,false_ne_true->ZB3,or_eq_true->ZCq,false_eq_true->ZDc,false_or->ZFt,true_and->ZGw
open Array renaming length_toList->ZBB,getElem?_toList->ZCe,getD->ZDu,toList_push->ZDH,getElem?_eq_getElem->ZDK,getElem?_eq_none->ZEN,perm_iff_toList_perm->ZFx
open Or renaming inr->ZBC,inl->ZBZ
open PySem.PyData renaming tuple->ZBL,int->ZBO,bool->ZCl,canLayAll0->ZD3,eqv->ZEx,depthAll->ZE9,eqvAll->ZFA,list->ZGk
open PySem.Str renaming ofString->ZBY
open PySem.Value renaming ref->ZB2,none->ZCf,int->ZC9,type->ZDg
open Option.some renaming inj->ZCa
open False renaming elim->ZCb
open Int renaming toNat_natCast->ZCd,toNat_of_nonneg->ZCr,le_refl->ZFk,le_antisymm->ZGa
open PySem.Heap.SameBut renaming update->ZCi,refl->ZGG
open Ne renaming symm->ZCn
open PySem.Around renaming under_plainId->ZCo,frames_deeper->ZGt
open PyProof.Rows renaming slot_tuple_getitem->ZCw,callWith_type1->ZEc,entry_list_sort->ZF9
open List.Nodup renaming length_le_of_subset->ZCz
open PySem.Obj renaming data_mapFields->ZCA,isFreed_of_fields->ZD7,mapSeq->ZEv,putSet->ZEy,cls_mapFields->ZEH,mapFields->ZGv
open PySem.F renaming plain_min_loop->ZCQ,called_set->ZCZ,plainAttrs_list->ZDW,plain_list_iadd->ZDX,args_tuple_add_2->ZEq,entry_tuple_add->ZEB,slot_tuple_add->ZEL,entry_min_loop->ZEP,slot_dict_get->ZEX,slot_dict_setdefault->ZFg,plain_proto_collect->ZFo,slot_list_append->ZFV,type_list_append->ZFW,args_dict_get_2->ZF1,plainAttrs_dict->ZF2,entry_dict_get->ZGf,plain_set_new->ZGn,slot_set_iter->ZGp
open PySem.Builtin.Tuple renaming tupleExact->ZCX,tupleItemsOf->ZFs,tupleIsExact->ZFz
open Sum renaming inl->ZC8,inr->ZFP
open Classical renaming byContradiction->ZDe
open PyProof.Rows.KeyOrd renaming kle_of_not_klt->ZDA,kle_refl->ZD0,kle_of_klt->ZEI,kle_trans->ZEU,kle_antisymm->ZGx
open PySem.NameKind renaming free->ZDE
open PySem.Builtin.Slice renaming slicePlaces->ZDJ,sliceAdjust->ZEm,sliceApplied->ZFr
open PySem.Builtin.SmallTypes renaming nextOf->ZDL
open PySem.Builtin.List renaming listTooLong->ZDP,listLengthHint->ZFn,listExtendWith->ZFp
open PySem.Builtin.Range renaming rangeSize->ZDT,small->ZGy
open PySem.Paired renaming length->ZDY
open PySem.Calls renaming callWith_builtin->ZD1,spliced_cons->ZEp,evalArgs_plain->ZE1,Name_function_global->ZFq,spliced_nil->ZFE,call_function_entry->ZFO
open True renaming intro->ZEw
open PySem.SetTable.below renaming go->ZEF
open Function renaming comp->ZET
open ForInStep renaming yield->ZE3
open PySem.Builtin.Dict_items renaming ownsTuple->ZFi
open PyProof.Rows.IsTup renaming new->ZF6
open PySem.Builtin.Dict renaming showsAll->ZGq
open PySem.SeqAt.EqAt renaming int_str->ZGA,str_int->ZGB
open PySem.Expr renaming Call->ZGD
noncomputable section
namespace L2
open PySem PySem.Spec PyProof.Rows
variable{a b f it:Addr}{A:Around}{X:Cx}{c tg:Expr}{base h:Heap}{H:Hp}{g:Int->Int->Int}{pins:List (Addr × Obj)}{ch fp:List Addr}{es:List Expr}{body:List Stmt}{N ps:List Str}{vs:List V}{us:List Value}{i n t':Nat}{o:Obj}{pos:Pos}{P:Program}{K:ZBd}{scope:Scope}{s:Shared}{σ:St}{qual x:Str}{mg:Str->Option Value}{u:Value}{E Q:Value->Shared->Prop}{w:World}
section
abbrev Key:=Sum Int Str
def Zi1:Key->Value->Bool
 | .inl k,v=>Value.isInt k v
 | .inr x,v=>Value.isStrOf x v
def ZAp(w:World):Key->Int
 | .inl k=>hashInt k
 | .inr x=>hashStr w x
theorem Zbq:∀{k:Key} {v:Value},Zi1 k v=ZGH->(∃i t,k=ZC8 i/\v=ZC9 i t)\/(∃x t,k=ZFP x/\v=Value.str x t)
 | .inl i,v,h=>by obtain⟨t,e⟩:=Value.isInt_shape (k:=i) (v:=v) h;exact .inl ⟨i,t,rfl,e⟩
 | .inr x,v,h=>by obtain⟨t,e⟩:=Value.isStrOf_shape (x:=x) (v:=v) h;exact .inr ⟨x,t,rfl,e⟩
theorem ZtA(i:Int)(t:Tok):Zi1 (.inl i) (.int i t)=ZGH:=by simp[Zi1,Value.isInt]
theorem Ztx(x:Str)(t:Tok):Zi1 (.inr x) (.str x t)=ZGH:=by simp[Zi1,Value.isStrOf]
theorem Zx0(a b:Int):decide ((ZC8 a:Key)=ZC8 b)=(a==b):=by
 by_cases e:a=b
 ·subst e; simp
 ·have h:¬(ZC8 a:Key)=ZC8 b:=λq=>e (Sum.inl.inj q)
  rw[decide_eq_false h];exact(beq_eq_false_iff_ne.mpr e).symm
theorem Zyn(a b:Str):decide ((ZFP a:Key)=ZFP b)=decide (a=b):=by
 by_cases e:a=b
 ·subst e; simp
 ·have h:¬(ZFP a:Key)=ZFP b:=λq=>e (Sum.inr.inj q)
  rw[decide_eq_false h,decide_eq_false e]
theorem Zyz(a:Int)(b:Str):decide ((ZC8 a:Key)=ZFP b)=ZGI:=decide_eq_false (λq=>nomatch q)
theorem ZyK(a:Str)(b:Int):decide ((ZFP a:Key)=ZC8 b)=ZGI:=decide_eq_false (λq=>nomatch q)
def Zay(prog:Program)(w:World):PySem.KeyKind prog w Key where
 is:=Zi1
 hash:=ZAp w
 inj:=λv a b ha hb=>by
  rcases Zbq ha with⟨i,t,rfl,rfl⟩ | ⟨x,t,rfl,rfl⟩
  ·rcases Zbq hb with⟨j,u,rfl,e⟩ | ⟨y,u,rfl,e⟩
   ·injection e with e1 _; rw[e1]
   ·exact nomatch e
  ·rcases Zbq hb with⟨j,u,rfl,e⟩ | ⟨y,u,rfl,e⟩
   ·exact nomatch e
   ·injection e with e1 _; rw[e1]
 byValue:=λk v h=>by rcases Zbq h with⟨i,t,rfl,rfl⟩ | ⟨x,t,rfl,rfl⟩<;>rfl
 pyHash:=λhv h=>by
  rcases Zbq hv with⟨i,t,rfl,rfl⟩ | ⟨x,t,rfl,rfl⟩
  ·exact wpAny_pyHash_int h
  ·exact wpAny_pyHash_str h
 eqBool:=λhu hv h=>by
  rcases Zbq hu with⟨i,t,rfl,rfl⟩ | ⟨x,t,rfl,rfl⟩
  ·rcases Zbq hv with⟨j,u,rfl,rfl⟩ | ⟨y,u,rfl,rfl⟩
   ·rw[Zx0]at h; exact wpAny_eqBool_int h
   ·rw[Zyz]at h; exact ZGA i t y u _ _ _ _ h
  ·rcases Zbq hv with⟨j,u,rfl,rfl⟩ | ⟨y,u,rfl,rfl⟩
   ·rw[ZyK]at h; exact ZGB x t j u _ _ _ _ h
   ·rw[Zyn]at h; exact wpAny_eqBool_str h
 «strs»:=λk x t v h=>by
  rcases Zbq h with⟨i,u,rfl,e⟩ | ⟨y,u,rfl,e⟩
  ·exact nomatch e
  ·injection e with e1 _
   subst e1;cases v<;>rfl
theorem Zs4(prog:Program)(w:World)(k:Key)(v:Value):(Zay prog w).is k v=Zi1 k v:=rfl
theorem Zre(prog:Program)(w:World)(i:Int)(t:Tok):(Zay prog w).is (.inl i) (.int i t)=ZGH:=ZtA i t
theorem Zrc(prog:Program)(w:World)(x:Str)(t:Tok):(Zay prog w).is (.inr x) (.str x t)=ZGH:=Ztx x t
end
section
inductive V where
 | non | bl (b:Bool) | int (i:Int) | str (x:Str) | byt (b:Array UInt8) | flt (b:UInt64) | ref (a:Addr) | ty (n:String)
 deriving DecidableEq
def RelV:V->Value->Prop
 | .non,u=>u=ZCf
 | .bl b,u=>u=Value.bool b
 | .int i,u=>∃t,u=ZC9 i t
 | .str x,u=>∃t,u=Value.str x t
 | .byt b,u=>∃t,u=Value.bytes b t
 | .flt b,u=>∃t,u=Value.float b t
 | .ref a,u=>u=ZB2 a
 | .ty n,u=>u=ZDg n
abbrev Vals:List V->List Value->Prop:=Paired RelV
theorem Vals.length{xs:List V}{us:List Value}(r:Vals xs us):xs.length=us.length:=ZDY r
theorem Vals.get:∀{xs:List V} {us:List Value} {i:Nat} {x:V},Vals xs us->xs[i]?=Z x->∃u,us[i]?=Z u/\RelV x u
 | _,_,_,_,.nil,e=>by simp at e
 | _,_,0,_,.cons r _,e=>by simp at e; subst e; exact⟨_,rfl,r⟩
 | _,_,i+1,x,.cons _ t,e=>by obtain⟨u,h1,h2⟩:=Vals.get (i:=i) (x:=x) t (by simpa using e);exact⟨u,by simpa using h1,h2⟩
theorem Vals.set{x:V}{u:Value}(r:RelV x u):∀{xs:List V} {us:List Value} (i:Nat),Vals xs us->Vals (xs.set i x) (us.set i u)
 | _,_,_,.nil=>.nil
 | _,_,0,.cons _ t=>.cons r t
 | _,_,i+1,.cons q t=>.cons q (Vals.set r i t)
theorem Vals.append:∀{xs ys:List V} {us ws:List Value},Vals xs us->Vals ys ws->Vals (xs++ys) (us++ws)
 | _,_,_,_,.nil,s=>s
 | _,_,_,_,.cons r t,s=>.cons r (Vals.append t s)
theorem Vals.take:∀{xs:List V} {us:List Value} (n:Nat),Vals xs us->Vals (xs.take n) (us.take n)
 | _,_,0,_=>.nil
 | _,_,_+1,.nil=>.nil
 | _,_,n+1,.cons r t=>.cons r (Vals.take n t)
theorem Vals.drop:∀{xs:List V} {us:List Value} (n:Nat),Vals xs us->Vals (xs.drop n) (us.drop n)
 | _,_,0,r=>r
 | _,_,_+1,.nil=>.nil
 | _,_,n+1,.cons _ t=>Vals.drop n t
def Zf3:Option V->Option Value->Prop
 | some v,Z u=>RelV v u
 | none,Z_=>True
 | _,_=>False
def KV{κ:Type}:List (κ × V)->List (κ × Value)->Prop:=Paired λ(p:κ × V) (q:κ × Value)=>p.1=q.1/\RelV p.2 q.2
def kV:Key->V
 | .inl i=>.int i
 | .inr x=>.str x
inductive HO where
 | lst (xs:List V)
 | tup (xs:List V)
 | dK (kvs:List (Key × V)) | dT (kvs:List (List Key × V))
 | set (S:Int->Bool) (n:Nat)
 | ins (C dx:Addr) (fs:List (Str × V))
 | own (x:Addr)
 | xd (fs:List (Str × V))
 | met (f x:Addr)
 | rng (lo hi:Int)
 | frz (o:Obj) (u:HO)
 | tbl (ps:Array Value)
 | ext (φ:Heap->Prop)
abbrev Hp:=Addr->Option HO
def upd(H:Hp)(a:Addr)(o:HO):Hp:=λb=>if b=a then Z o else H b
theorem ZE{o:HO}:upd H a o a=Z o:=by unfold upd; rw[if_pos rfl]
theorem ZA{o:HO}(h:b≠a):upd H a o b=H b:=by unfold upd; rw[if_neg h]
theorem Zwa{o u:HO}(h:H a=Z o)(h':H b=Z u)(d:o≠u):a≠b:=by intro e; subst e; rw[h]at h'; exact d (ZCa h')
theorem ZaA{o:HO}(h:H a=Z o)(h':H b=Z_):a≠b:=by intro e; subst e; rw[h]at h'; cases h'
section
variable(P:Program)(w:World)
def Zab(H:Hp)(h:Heap)(a:Addr):HO->Prop
 | .lst xs=>xs.length<=sizeLine/\∃(its:List Value) (n:Nat),Vals xs its/\h.get? a=Z { cls:=.type "list",data:=.seq its.toArray n }
 | .tup xs=>xs.length<=sizeLine/\∃its:List Value,Vals xs its/\IsTup h a its.toArray
 | .dK kvs=>kvs.length<=sizeLine/\(a==ZCV)=ZGI/\∃vs,KV kvs vs/\h.DictOf (Zay P w) a vs
 | .dT kvs=>kvs.length<=sizeLine/\(a==ZCV)=ZGI/\∃xs:List (List Key × Addr × Value),
   Paired (λ(p:List Key × V) (q:List Key × Addr × Value)=>p.1=q.1/\H q.2.1=Z (.tup (p.1.map kV))/\RelV p.2 q.2.2) kvs xs /\
   ∃o es ep,h.get? a=Z o/\o.ExactDict/\o.data=.dict es ep/\es.toList=xs.map (entryOfKey (ZEn (Zay P w)))/\(xs.map (·.1)).Nodup
 | .set S n=>h.SetOf (intKind P w) a S n
 | .ins C dx fs=>H dx=Z (.own a)/\fs.length<=1000/\dx≠a/\h.get? a=Z (PySem.W.instObj C dx) /\
   ∃mA,h.Ns1 dx mA/\(∀f,Zf3 (fs.lookup f) (mA f))/\PySem.Within mA (fs.map (·.1))
 | .own _=>∃o,h.get? a=Z o
 | .xd fs=>∃mA,h.Ns1 a mA/\∀f,Zf3 (fs.lookup f) (mA f)
 | .rng lo hi=>∃t u v,h.get? a=Z { cls:=.type "range",data:=.fields #[.int lo t,.int hi u,.int 1 v] }
 | .frz o u=>h.get? a=Z o/\Zab H h a u
 | .tbl ps=>h.get? a=Z { cls:=.none,data:=.fields ps }
 | .met f x=>h.get? a=Z (ZFD (.ref f) (.ref x))
 | .ext φ=>φ h/\(∃o,h.get? a=Z o)/\∀h1 h2:Heap,φ h1->(∀o,h1.get? a=Z o->h2.get? a=Z o)->φ h2
def HOk(H:Hp)(h:Heap):Prop:=∀a o,H a=Z o->Zab P w H h a o
end
section
variable{P:Program}{w:World}{H H':Hp}{h h':Heap}{a:Addr}{o:HO}
theorem Zab.lt(x:Zab P w H h a o):a<h.objs.size:=by
 cases o with
 | lst xs=>obtain⟨_,_,_,_,e⟩:=x; exact ZBt e
 | tup xs=>obtain⟨_,_,_,p⟩:=x; exact p.lt
 | dK kvs=>obtain⟨_,_,_,_,o,_,_,e,_⟩:=x; exact ZBt e
 | dT kvs=>obtain⟨_,_,_,_,o,_,_,e,_⟩:=x; exact ZBt e
 | set S n=>obtain⟨o,_,_,_,e,_⟩:=x; exact ZBt e
 | ins C dx fs=>obtain⟨_,_,_,e,_⟩:=x; exact ZBt e
 | own y=>obtain⟨_,e⟩:=x; exact ZBt e
 | xd fs=>obtain⟨_,⟨_,_,_,e,_⟩,_⟩:=x; exact ZBt e
 | rng lo hi=>obtain⟨_,_,_,e⟩:=x; exact ZBt e
 | frz ob u=>obtain⟨e,_⟩:=x; exact ZBt e
 | tbl ps=>exact ZBt (show h.get? a=Z _ from x)
 | met f y=>exact ZBt (show h.get? a=Z _ from x)
 | ext φ=>obtain⟨_,⟨_,e⟩,_⟩:=x; exact ZBt e
theorem Paired.mapP{α β:Type}{F G:α->β->Prop}:∀{l₁:List α} {l₂:List β},Paired F l₁ l₂->(∀a b,F a b->G a b)->Paired G l₁ l₂
 | _,_,.nil,_=>.nil
 | _,_,.cons r t,f=>.cons (f _ _ r) (Paired.mapP t f)
theorem Zab.stay(x:Zab P w H h a o)(k:∀b u,(b=a\/H b=Z (.own a))->h.get? b=Z u->h'.get? b=Z u)
  (ho:∀b,H b=Z (.own a)->H' b=Z (.own a)) (ht:∀b xs,H b=Z (.tup xs)->H' b=Z (.tup xs)):Zab P w H' h' a o:=by
 induction o with
 | lst xs=>obtain⟨z,its,n,r,e⟩:=x; exact⟨z,its,n,r,k _ _ (.inl rfl) e⟩
 | tup xs=>obtain⟨z,its,r,ob,e,c⟩:=x; exact⟨z,its,r,ob,k _ _ (.inl rfl) e,c⟩
 | dK kvs=>obtain⟨z,y,vs,r,ob,es,ep,e,c⟩:=x; exact⟨z,y,vs,r,ob,es,ep,k _ _ (.inl rfl) e,c⟩
 | dT kvs=>obtain⟨z,y,xs,r,ob,es,ep,e,c⟩:=x;exact⟨z,y,xs,Paired.mapP r λp q z=>⟨z.1,ht _ _ z.2.1,z.2.2⟩,ob,es,ep,k _ _ (.inl rfl) e,c⟩
 | set S n=>obtain⟨ob,es,ep,t,e,c⟩:=x; exact⟨ob,es,ep,t,k _ _ (.inl rfl) e,c⟩
 | ins C dx fs=>obtain⟨d,z,ne,e,mA,⟨od,es,ep,e2,c⟩,r⟩:=x;exact⟨ho _ d,z,ne,k _ _ (.inl rfl) e,mA,⟨od,es,ep,k _ _ (.inr d) e2,c⟩,r⟩
 | own y=>obtain⟨ob,e⟩:=x; exact⟨ob,k _ _ (.inl rfl) e⟩
 | xd fs=>obtain⟨mA,⟨od,es,ep,e,c⟩,r⟩:=x; exact⟨mA,⟨od,es,ep,k _ _ (.inl rfl) e,c⟩,r⟩
 | rng lo hi=>obtain⟨t,u,v,e⟩:=x; exact⟨t,u,v,k _ _ (.inl rfl) e⟩
 | frz ob u ih=>obtain⟨e,q⟩:=x; exact⟨k _ _ (.inl rfl) e,ih q⟩
 | tbl ps=>have e:h.get? a=Z { cls:=.none,data:=.fields ps }:=x;show h'.get? a=Z { cls:=.none,data:=.fields ps };exact k a _ (.inl rfl) e
 | met f y=>have e:h.get? a=Z (ZFD (.ref f) (.ref y)):=x;show h'.get? a=Z (ZFD (.ref f) (.ref y));exact k a _ (.inl rfl) e
 | ext φ=>obtain⟨p,⟨o,e⟩,st⟩:=x; exact⟨st _ _ p λo q=>k _ _ (.inl rfl) q,⟨o,k _ _ (.inl rfl) e⟩,st⟩
theorem HOk.lt(x:HOk P w H h)(e:H a=Z o):a<h.objs.size:=(x a o e).lt
theorem HOk.fresh(x:HOk P w H h)(e:h.objs.size<=a):H a=Z_:=by
 cases q:H a with
 | none=>rfl
 | some u=>exact absurd (ZBK (x.lt q) e) (ZC1 _)
theorem HOk.kept(x:HOk P w H h)(k:∀b u,h.get? b=Z u->h'.get? b=Z u):HOk P w H h':=λa o e=>(x a o e).stay (λb u _ q=>k b u q) (λ_ q=>q) λ_ _ q=>q
theorem HOk.laid(x:HOk P w H h)(k:∀b u,h.get? b=Z u->h'.get? b=Z u)(hp:h.objs.size<=a)(new:Zab P w (upd H a o) h' a o):HOk P w (upd H a o) h':=λb u e=>by
 have hn:=x.fresh hp
 by_cases hb:b=a
 ·subst hb; rw[ZE]at e; cases e; exact new
 ·rw[ZA hb]at e
  exact(x b u e).stay (λc v _ q=>k c v q) (λc q=>by rw[ZA (ZaA q hn)]; exact q) λc xs q=>by rw[ZA (ZaA q hn)]; exact q
end
def Rd(H:Hp)(a:Addr)(u:HO):Prop:=H a=Z u\/∃o,H a=Z (.frz o u)
theorem Rd.ok{P:Program}{w:World}{H:Hp}{h:Heap}{a:Addr}{u:HO}(r:Rd H a u)(x:HOk P w H h):Zab P w H h a u:=by
 rcases r with r | ⟨o,r⟩
 ·exact x a u r
 ·obtain⟨_,q⟩:=x a _ r
  exact q
def Mut:Option HO->Prop
 | some (.lst _)=>True
 | some (.dK _)=>True
 | some (.dT _)=>True
 | some (.set _ _)=>True
 | some (.ins _ _ _)=>True
 | some (.ext _)=>True
 | _=>False
section
variable{P:Program}{w:World}{H:Hp}{h h':Heap}{x e:Addr}{o':HO}
theorem HOk.write(ok:HOk P w H h)(mu:Mut (H x))(he:e=x\/H e=Z (.own x))(k:∀b u,b≠e->h.get? b=Z u->h'.get? b=Z u)(heo:∃u,h'.get? e=Z u)
  (new:Zab P w (upd H x o') h' x o'):HOk P w (upd H x o') h':=λb u q=>by
 have nown:∀c y,H c=Z (.own y)->c≠x:=λc y r z=>by subst z; rw[r]at mu; exact mu
 have ntup:∀c xs,H c=Z (.tup xs)->c≠x:=λc xs r z=>by subst z; rw[r]at mu; exact mu
 by_cases hb:b=x
 ·subst hb; rw[ZE]at q; cases q; exact new
 ·rw[ZA hb]at q
  by_cases hbe:b=e
  ·have q':H b=Z (.own x):=by
    rcases he with z | z
    ·exact absurd (hbe.trans z) hb
    ·rw[hbe]; exact z
   rw[q]at q'; cases q';obtain⟨v,hv⟩:=heo;exact⟨v,by rw[hbe]; exact hv⟩
  ·refine(ok b u q).stay (λc v hc r=>k c v ?_ r) (λc r=>by rw[ZA (nown c b r)]; exact r) λc xs r=>by rw[ZA (ntup c xs r)]; exact r
   rcases hc with rfl | hc
   ·exact hbe
   ·rintro rfl
    rcases he with z | z
    ·exact nown c b hc z
    ·rw[hc]at z; cases z; exact hb rfl
end
structure Un(fs ex:List Addr)(H H':Hp)(h h':Heap):Prop where
 keep:∀b o,h.get? b=Z o->H b=Z_->b ∉ fs->b ∉ ex->h'.get? b=Z o
 slot:∀b o,h.get? b=Z o->H b=Z_->b∈fs->b ∉ ex->∃sl,h'.get? b=Z { o with slots:=sl }
 free:∀b o,h.get? b=Z o->H b=Z_->b ∉ ex->H' b=Z_
 there:∀b o,h.get? b=Z o->b ∉ ex->∃o',h'.get? b=Z o'
 tups:∀b xs,H b=Z (.tup xs)->H' b=Z (.tup xs)
 frzs:∀b o u,H b=Z (.frz o u)->H' b=Z (.frz o u)
 tbls:∀b ps,H b=Z (.tbl ps)->∃more,H' b=Z (.tbl (ps++more))
section
variable{fs fs' ex ex':List Addr}{H H1 H2:Hp}{h h1 h2 h':Heap}{a x e:Addr}{o:HO}
theorem Un.any(u:Un fs ex H H1 h h1){ob:Obj}(q:h.get? b=Z ob)(n:H b=Z_)(hx:b ∉ ex):∃sl,h1.get? b=Z { ob with slots:=sl }:=by
 by_cases hb:b∈fs
 ·exact u.slot b ob q n hb hx
 ·exact⟨ob.slots,u.keep b ob q n hb hx⟩
theorem Un.kept(k:∀b u,h.get? b=Z u->h'.get? b=Z u):Un fs ex H H h h' :=
 ⟨λb ob q _ _ _=>k b ob q,λb ob q _ _ _=>⟨ob.slots,k b ob q⟩,λ_ _ _ n _=>n,λb ob q _=>⟨ob,k b ob q⟩,λ_ _ q=>q,λ_ _ _ q=>q,λ_ ps q=>⟨#[],by rw[q]; simp⟩⟩
theorem Un.refl:Un fs ex H H h h:=Un.kept λ_ _ q=>q
theorem Un.laid(k:∀b u,h.get? b=Z u->h'.get? b=Z u)(hp:h.objs.size<=a)(hn:H a=Z_):Un fs ex H (upd H a o) h h' where
 keep:=λb u q _ _ _=>k b u q
 slot:=λb u q _ _ _=>⟨u.slots,k b u q⟩
 free:=λb u q n _=>by rw[ZA (ZBA (ZBK (ZBt q) hp))]; exact n
 there:=λb u q _=>⟨u,k b u q⟩
 tups:=λb xs q=>by rw[ZA (ZaA q hn)]; exact q
 frzs:=λb u xs q=>by rw[ZA (ZaA q hn)]; exact q
 tbls:=λb ps q=>⟨#[],by rw[ZA (ZaA q hn),q]; simp⟩
theorem Un.write(mu:Mut (H x))(he:e=x\/H e=Z (.own x))(k:∀b u,b≠e->h.get? b=Z u->h'.get? b=Z u)(heo:∃u,h'.get? e=Z u):Un fs ex H (upd H x o) h h':=by
 have hx:∀b,H b=Z_->b≠x:=λb n z=>by subst z; rw[n]at mu; exact mu
 have hb:∀b,H b=Z_->b≠e:=λb n z=>by
  subst z;rcases he with r | r
  ·exact hx b n r
  ·rw[n]at r; cases r
 have hm:∀b u,H b=Z u->¬Mut (Z u)->b≠x:=λb u q nm z=>by subst z; rw[q]at mu; exact nm mu
 refine⟨λb u q n _ _=>k b u (hb b n) q,λb u q n _ _=>⟨u.slots,k b u (hb b n) q⟩,λb u q n _=>by rw[ZA (hx b n)]; exact n,λb u q _=>?_,
  λb xs q=>by rw[ZA (hm b _ q λz=>z)]; exact q,λb u xs q=>by rw[ZA (hm b _ q λz=>z)]; exact q,λb ps q=>⟨#[],by rw[ZA (hm b _ q λz=>z),q]; simp⟩⟩
 by_cases hbe:b=e
 ·subst hbe; exact heo
 ·exact⟨u,k b u hbe q⟩
end
def trk(h:Heap)(H:Hp):List Addr:=(ZBm h.objs.size).filter λa=>(H a).isSome
def ZhU(h:Heap)(H:Hp):Heap:=PySem.W.hideAll h (trk h H)
theorem ZuC(h:Heap)(H:Hp):(ZhU h H).objs.size=h.objs.size:=PySem.W.hideAll_size _ _
theorem Zvo(e:h.get? b=Z o)(n:H b=Z_):(ZhU h H).get? b=Z o :=
 PySem.W.hideAll_get _ e λhm=>by have q:(H b).isSome=ZGH:=(ZBF.mp hm).2;rw[n]at q; simp at q
theorem Zxb(e:(ZhU h H).get? b=Z o):h.get? b=Z o/\H b=Z_:=by
 have e':h.get? b=Z o:=PySem.W.of_hideAll (trk h H) e;refine⟨e',?_⟩;cases q:H b with
 | none=>rfl
 | some x=>have hm:b∈trk h H:=ZBF.mpr ⟨ZBD.mpr (ZBt e'),by simp[q]⟩;have z:(ZhU h H).get? b=Z_:=PySem.W.hideAll_none (trk h H) hm;rw[z]at e; cases e
end
section
structure Mod(K:ZBd)(mg:Str->Option Value)(base:Heap):Prop where
 kin:K.In base
 glob:base.Ns ZBT mg
 blt:∃mb,base.Ns ZFI mb/\∀x:Str,x ≠ "__name__"->mb x=ZCg x
 nolimit:base.NoLimit
structure Cx where
 prog:Program
 w:World
 K:ZBd
 mg:Str->Option Value
 base:Heap
 A:Around
 N:List Str
 s₀:Shared
 H₀:Hp
 env:Env
 outer:List Env
 stack:List Env
 ex:List Addr
 fn:Str->Bool
 calm:Bool
 pn:List (Addr × Obj)
 xe:Value->Shared->Prop
def frs(l:List Env):List Addr:=l.filterMap (·.frame)
abbrev Cx.fs(X:Cx):List Addr:=frs X.outer
def Vis(sc:Scope)(x:Str):Prop:=sc.names.lookup x=Z .local\/sc.names.lookup x=Z .cell\/sc.names.lookup x=Z .free
def Loc(sc:Scope)(x:Str):Prop:=sc.names.lookup x=Z .local\/sc.names.lookup x=Z .cell
def Look(env:Env)(h:Heap)(m:Str->Option Value)(x:Str)(u:Value):Prop :=
 (env.kindOf x=Z .local/\m x=Z u)\/((env.kindOf x=Z .cell\/env.kindOf x=Z .free)/\∃c,env.cells.lookup x=Z c/\h.IsCell c (Z u))
structure Cx.Ok(X:Cx):Prop where
 mod:Mod X.K X.mg X.base
 kind:X.env.scope.kind=.function
 glob:X.env.globals=ZBT
 blt:X.env.builtins=ZFI
 above:X.s₀.heap.objs.size<=X.env.locals
 inj:∀x y c,X.env.cells.lookup x=Z c->X.env.cells.lookup y=Z c->x=y
 has:∀x,(X.env.kindOf x=Z .cell\/X.env.kindOf x=Z .free)->∃c,X.env.cells.lookup x=Z c
 cab:∀x c,X.fn x=ZGH->X.env.cells.lookup x=Z c->X.s₀.heap.objs.size<=c
 hd:X.calm=ZGH->X.A.handled=Z_
 frames:X.A.frames=Z X.stack
 stk:X.stack=X.outer\/(X.stack=X.env::X.outer/\X.env.frame=Z X.env.locals)
 exf:∀b∈X.ex,b≠X.env.locals/\∀x c,X.env.cells.lookup x=Z c->c≠b
 bs:∀b o,X.base.get? b=Z o->X.s₀.heap.get? b=Z o/\X.H₀ b=Z_
 bsz:X.base.objs.size<=X.s₀.heap.objs.size
 noex:∀b o,X.base.get? b=Z o->b ∉ X.ex
 exfs:∀b∈X.ex,b ∉ X.fs
 funs:X.s₀.heap.FunFrames X.base X.outer
 frf:∀b∈X.fs,X.H₀ b=Z_
structure Inv(X:Cx)(pins:List (Addr × Obj))(σ:List (Option V))(H:Hp)(s:Shared):Prop where
 ok:X.Ok
 os:s.os=X.s₀.os
 bare:AllBare s.gens
 base:Un X.fs X.ex X.H₀ H X.s₀.heap s.heap
 loc:∃m,s.heap.Ns X.env.locals m/\∀(i:Nat) (x:Str) (v:V),X.N[i]?=Z x->σ[i]?=Z (Z v)->Vis X.env.scope x->∃u,RelV v u/\Look X.env s.heap m x u
 cell:∀x c,X.env.cells.lookup x=Z c->∃v,s.heap.IsCell c v
 free:H X.env.locals=Z_
 freeC:∀x c,X.env.cells.lookup x=Z c->H c=Z_
 pin:∀p∈X.pn++pins,s.heap.get? p.1=Z p.2/\H p.1=Z_/\p.1≠X.env.locals/\p.1 ∉ X.fs/\∀v,p.2.data≠.cell v
 hok:HOk X.prog X.w H s.heap
 len:σ.length=X.N.length
section
variable{X:Cx}{pins:List (Addr × Obj)}{σ:List (Option V)}{H H':Hp}{s:Shared}{h':Heap}
theorem Cx.Ok.nofr(ok:X.Ok)(e:X.base.get? b=Z o):b ∉ X.fs:=λhb=>by have:=(ok.funs.mem hb).1;rw[e]at this; cases this
theorem Inv.bs(I:Inv X pins σ H s):∀b o,X.base.get? b=Z o->s.heap.get? b=Z o/\H b=Z_:=λb o e=>⟨I.base.keep b o (I.ok.bs b o e).1 (I.ok.bs b o e).2 (I.ok.nofr e) (I.ok.noex b o e),I.base.free b o (I.ok.bs b o e).1 (I.ok.bs b o e).2 (I.ok.noex b o e)⟩
theorem Inv.bk(I:Inv X pins σ H s):∀b o,X.base.get? b=Z o->s.heap.get? b=Z o:=λb o e=>(I.bs b o e).1
theorem Inv.mod(I:Inv X pins σ H s):Mod X.K X.mg X.base:=I.ok.mod
theorem Inv.kIn(I:Inv X pins σ H s):X.K.In s.heap:=I.ok.mod.kin.keeps I.bk
theorem Inv.lt(I:Inv X pins σ H s):X.env.locals<s.heap.objs.size:=let ⟨_,hn,_⟩:=I.loc; hn.lt
theorem Inv.sz(I:Inv X pins σ H s):X.s₀.heap.objs.size<=s.heap.objs.size:=ZCh I.ok.above (ZDh I.lt)
theorem Inv.nofs(I:Inv X pins σ H s)(h:s.heap.objs.size<=a):a ∉ X.fs:=λhb=>by obtain⟨_,o,ho,_⟩:=I.ok.funs.mem hb;exact absurd (ZBK (ZBt ho) (ZCh I.sz h)) (ZC1 _)
theorem Inv.cne(I:Inv X pins σ H s):∀x c,X.env.cells.lookup x=Z c->c≠X.env.locals:=λx c e z=>by obtain⟨v,o,ho,hd⟩:=I.cell x c e;obtain⟨m,⟨o',es,ep,ho',hd',_⟩,_⟩:=I.loc;rw[z,ho']at ho; cases ho; rw[hd']at hd; cases hd
theorem Inv.funs(I:Inv X pins σ H s):s.heap.FunFrames X.base X.outer:=by
 have all:∀(l:List Env),(∀b∈frs l,b∈X.fs)->X.s₀.heap.FunFrames X.base l->s.heap.FunFrames X.base l:=by
  intro l
  induction l with
  | nil=>intro _ _; trivial
  | cons env r ih=>intro hs hl;obtain⟨hk,⟨L,o,hf,hn,ho,hd⟩,hr⟩:=hl;have hL:L∈X.fs:=hs L (by unfold frs; rw[ZCE,hf]; exact ZBf);obtain⟨sl,e⟩:=I.base.slot L o ho (I.ok.frf L hL) hL λz=>I.ok.exfs L z hL;exact⟨hk,⟨L,_,hf,hn,e,hd⟩,ih (λb hb=>hs b (by unfold frs; rw[ZCE,hf]; exact ZBi _ hb)) hr⟩
 exact all X.outer (λ_ hb=>hb) I.ok.funs
theorem Inv.stack(I:Inv X pins σ H s):s.heap.FunFrames X.base X.stack:=by
 rcases I.ok.stk with e | ⟨e,hf⟩
 ·rw[e]; exact I.funs
 ·rw[e]
  obtain⟨m,hn,_⟩:=I.loc;refine .cons (by rw[I.ok.kind]; decide) hf hn ?_ I.funs;exact Heap.get?_none_of_le (ZCh I.ok.bsz I.ok.above)
theorem Inv.stkSub(I:Inv X pins σ H s):∀b∈frs X.stack,b∈X.env.locals::X.fs:=λb hb=>by
 rcases I.ok.stk with e | ⟨e,hf⟩
 ·rw[e]at hb; exact ZBi _ hb
 ·rw[e]at hb
  unfold frs at hb;rw[ZCE,hf]at hb;exact hb
theorem Inv.stkFree(I:Inv X pins σ H s):∀b∈frs X.stack,H b=Z_:=λb hb=>by
 rcases ZBq.mp (I.stkSub b hb)with e | hb
 ·rw[e]; exact I.free
 ·obtain⟨_,o,ho,_⟩:=I.ok.funs.mem hb
  exact I.base.free b o ho (I.ok.frf b hb) λz=>I.ok.exfs b z hb
theorem Inv.step{g':Array GenState}{t':Nat}{d':Drawn}{ch:List Addr}(I:Inv X pins σ H s)
  (hch:∀b∈ch,(b∈X.ex\/X.s₀.heap.objs.size<=b)/\b≠X.env.locals/\(∀x c,X.env.cells.lookup x=Z c->c≠b)/\∀p∈X.pn++pins,p.1≠b)
  (keep:∀b o,b≠X.env.locals->b ∉ X.fs->b ∉ ch->s.heap.get? b=Z o->H b=Z_->h'.get? b=Z o)
  (slot:∀b o,b≠X.env.locals->b∈X.fs->b ∉ ch->s.heap.get? b=Z o->H b=Z_->∃sl,h'.get? b=Z { o with slots:=sl }) (free:∀b o,b ∉ ch->s.heap.get? b=Z o->H b=Z_->H' b=Z_)
  (there:∀b o,b ∉ ch->s.heap.get? b=Z o->∃o',h'.get? b=Z o')
  (tups:∀b xs,H b=Z (.tup xs)->H' b=Z (.tup xs)) (frzs:∀b o u,H b=Z (.frz o u)->H' b=Z (.frz o u)) (tbls:∀b ps,H b=Z (.tbl ps)->∃more,H' b=Z (.tbl (ps++more)))
  (ns:∀m,s.heap.Ns X.env.locals m->h'.Ns X.env.locals m) (hok:HOk X.prog X.w H' h') (hg:AllBare g') :
  Inv X pins σ H' { s with heap:=h',gens:=g',drawn:=d',toks:=t' }:=by
 have neL:∀b o,X.s₀.heap.get? b=Z o->b≠X.env.locals:=λb o e=>ZBA (ZBK (ZBt e) I.ok.above);have neC:∀b o,X.s₀.heap.get? b=Z o->b ∉ X.ex->b ∉ ch:=λb o e hx hb=>by
  rcases(hch b hb).1 with z | z
  ·exact hx z
  ·exact absurd (ZBK (ZBt e) z) (ZC1 _)
 have cellK:∀x c,X.env.cells.lookup x=Z c->∀v,s.heap.IsCell c v->h'.IsCell c v:=λx c e v ⟨o,ho,hd⟩=>by
  have nch:c ∉ ch:=λz=>(hch c z).2.2.1 x c e rfl
  by_cases hc:c∈X.fs
  ·obtain⟨sl,q⟩:=slot c o (I.cne x c e) hc nch ho (I.freeC x c e)
   exact⟨_,q,hd⟩
  ·exact⟨o,keep c o (I.cne x c e) hc nch ho (I.freeC x c e),hd⟩
 refine⟨I.ok,I.os,hg,⟨λb o e n hb hx=>?_,λb o e n hb hx=>?_,λb o e n hx=>?_,λb o e hx=>?_,λb xs e=>tups b xs (I.base.tups b xs e),λb o xs e=>frzs b o xs (I.base.frzs b o xs e),λb ps e=>?_⟩,?_,λx c e=>?_,?_,λx c e=>?_,λp hp=>?_,hok,I.len⟩
 ·exact keep b o (neL b o e) hb (neC b o e hx) (I.base.keep b o e n hb hx) (I.base.free b o e n hx)
 ·obtain⟨sl,e1⟩:=I.base.slot b o e n hb hx
  obtain⟨sl',e2⟩:=slot b _ (neL b o e) hb (neC b o e hx) e1 (I.base.free b o e n hx);exact⟨sl',e2⟩
 ·obtain⟨o',e1⟩:=I.base.there b o e hx
  exact free b o' (neC b o e hx) e1 (I.base.free b o e n hx)
 ·obtain⟨o',e1⟩:=I.base.there b o e hx
  exact there b o' (neC b o e hx) e1
 ·obtain⟨m1,e1⟩:=I.base.tbls b ps e
  obtain⟨m2,e2⟩:=tbls b _ e1;exact⟨m1++m2,by rw[e2,Array.append_assoc]⟩
 ·obtain⟨m,hn,hl⟩:=I.loc
  refine⟨m,ns m hn,λi x v e1 e2 e3=>?_⟩;obtain⟨u,r,l⟩:=hl i x v e1 e2 e3;refine⟨u,r,?_⟩;rcases l with l | ⟨k,c,e,z⟩
  ·exact .inl l
  ·exact .inr ⟨k,c,e,cellK x c e _ z⟩
 ·obtain⟨v,z⟩:=I.cell x c e
  exact⟨v,cellK x c e v z⟩
 ·obtain⟨m,⟨o,_,_,ho,_⟩,_⟩:=I.loc
  exact free _ o (λz=>(hch _ z).2.1 rfl) ho I.free
 ·obtain⟨v,o,ho,hd⟩:=I.cell x c e
  exact free c o (λz=>(hch c z).2.2.1 x c e rfl) ho (I.freeC x c e)
 ·obtain⟨e,n,ne,nf,d⟩:=I.pin p hp
  have nch:p.1 ∉ ch:=λz=>(hch p.1 z).2.2.2 p hp rfl;exact⟨keep p.1 p.2 ne nf nch e n,free p.1 p.2 nch e n,ne,nf,d⟩
theorem Inv.un(I:Inv X pins σ H s)(u:Un X.fs [] H H' s.heap h')(hok:HOk X.prog X.w H' h'):Inv X pins σ H' { s with heap:=h',toks:=t' }:=by obtain⟨m,⟨o,es,ep,ho,r⟩,_⟩:=id I.loc;obtain⟨sl,hL⟩:=u.any ho I.free (by simp);exact I.step (g':=s.gens) (d':=s.drawn) (ch:=[]) (λ_ z=>nomatch z) (λb o _ hb _ e n=>u.keep b o e n hb (by simp)) (λb o _ hb _ e n=>u.slot b o e n hb (by simp)) (λb o _ e n=>u.free b o e n (by simp)) (λb o _ e=>u.there b o e (by simp)) u.tups u.frzs u.tbls (λm' hm=>by obtain⟨o',es',ep',ho',r'⟩:=hm;rw[ho]at ho'; cases ho';exact⟨_,es',ep',hL,r'⟩) hok I.bare
theorem Inv.call{g':Array GenState}{d':Drawn}(I:Inv X pins σ H s)(u:Un (frs X.stack) ch H H' s.heap h')(hok:HOk X.prog X.w H' h')(hg:AllBare g')
  (hch:∀b∈ch,(b∈X.ex\/X.s₀.heap.objs.size<=b)/\b≠X.env.locals/\(∀x c,X.env.cells.lookup x=Z c->c≠b)/\∀p∈X.pn++pins,p.1≠b) :
  Inv X pins σ H' { s with heap:=h',gens:=g',drawn:=d',toks:=t' }:=by
 obtain⟨m,⟨o,es,ep,ho,r⟩,_⟩:=id I.loc;obtain⟨sl,hL⟩:=u.any ho I.free λz=>(hch _ z).2.1 rfl;exact I.step (ch:=ch) hch (λb o hL hb hc e n=>u.keep b o e n (λz=>(ZBq.mp (I.stkSub b z)).elim hL hb) hc) (λb o _ _ hc e n=>u.any e n hc) (λb o hc e n=>u.free b o e n hc) (λb o hc e=>u.there b o e hc) u.tups u.frzs u.tbls (λm' hm=>by obtain⟨o',es',ep',ho',r'⟩:=hm;rw[ho]at ho'; cases ho';exact⟨_,es',ep',hL,r'⟩) hok hg
theorem Inv.turned(I:Inv X pins σ H s)(k:∀b o,b≠it->s.heap.get? b=Z o->h'.get? b=Z o)(hn:H it=Z_)(hL:it≠X.env.locals)
  (h1:it∈X.ex\/X.s₀.heap.objs.size<=it) (h2:∀x c,X.env.cells.lookup x=Z c->c≠it) (h3:∀p∈X.pn++pins,p.1≠it):Inv X pins σ H { s with heap:=h',toks:=t' }:=by
 have nit:∀b u,H b=Z u->b≠it:=λb u e z=>by rw[z,hn]at e; cases e
 refine I.step (g':=s.gens) (d':=s.drawn) (ch:=[it]) (λb hb=>?_) (λb o _ _ hc e _=>k b o (λz=>hc (by simp[z])) e) (λb o _ _ hc e _=>⟨o.slots,k b o (λz=>hc (by simp[z])) e⟩) (λ_ _ _ _ n=>n)
  (λb o hc e=>⟨o,k b o (λz=>hc (by simp[z])) e⟩) (λ_ _ e=>e) (λ_ _ _ e=>e) (λb ps e=>⟨#[],by rw[e]; simp⟩) (λm hm=>?_) (λb u e=>?_) I.bare
 ·have e:b=it:=by simpa using hb
  subst e;exact⟨h1,hL,h2,h3⟩
 ·obtain⟨o,es,ep,ho,r⟩:=hm
  exact⟨o,es,ep,k _ o (ZCn hL) ho,r⟩
 ·refine(I.hok b u e).stay (λc v hc q=>k c v ?_ q) (λ_ q=>q) λ_ _ q=>q
  rcases hc with z | z
  ·rw[z]; exact nit b u e
  ·exact nit c _ z
theorem Inv.tok(I:Inv X pins σ H s)(t:Nat):Inv X pins σ H { s with toks:=t }:=I.un (h':=s.heap) (t':=t) Un.refl I.hok
theorem Inv.kept{t':Nat}(I:Inv X pins σ H s)(k:∀b u,s.heap.get? b=Z u->h'.get? b=Z u):Inv X pins σ H { s with heap:=h',toks:=t' }:=I.un (Un.kept k) (I.hok.kept k)
theorem Inv.laid{a:Addr}{o:HO}{t':Nat}(I:Inv X pins σ H s)(k:∀b u,s.heap.get? b=Z u->h'.get? b=Z u)(hp:s.heap.objs.size<=a)(new:Zab X.prog X.w (upd H a o) h' a o) :
  Inv X pins σ (upd H a o) { s with heap:=h',toks:=t' }:=I.un (Un.laid k hp (I.hok.fresh hp)) (I.hok.laid k hp new)
theorem Inv.write{x e:Addr}{o:HO}{t':Nat}(I:Inv X pins σ H s)(mu:Mut (H x))(he:e=x\/H e=Z (.own x))(k:∀b u,b≠e->s.heap.get? b=Z u->h'.get? b=Z u)(heo:∃u,h'.get? e=Z u)
  (new:Zab X.prog X.w (upd H x o) h' x o):Inv X pins σ (upd H x o) { s with heap:=h',toks:=t' }:=I.un (Un.write mu he k heo) (I.hok.write mu he k heo new)
theorem Inv.weak{σ':List (Option V)}(I:Inv X pins σ H s)(hl:σ'.length=σ.length)(w:∀(i:Nat) v,σ'[i]?=Z (Z v)->σ[i]?=Z (Z v)):Inv X pins σ' H s :=
 ⟨I.ok,I.os,I.bare,I.base,let ⟨m,hn,hl'⟩:=I.loc; ⟨m,hn,λi x v e1 e2 e3=>hl' i x v e1 (w i v e2) e3⟩,I.cell,I.free,I.freeC,I.pin,I.hok,hl.trans I.len⟩
theorem Inv.pins_of{pins':List (Addr × Obj)}(I:Inv X pins σ H s)(h:∀p∈pins',s.heap.get? p.1=Z p.2/\H p.1=Z_/\p.1≠X.env.locals/\p.1 ∉ X.fs/\∀v,p.2.data≠.cell v):Inv X pins' σ H s :=
 ⟨I.ok,I.os,I.bare,I.base,I.loc,I.cell,I.free,I.freeC,λp hp=>(ZBI.mp hp).elim (λz=>I.pin p (ZB6 _ z)) (h p),I.hok,I.len⟩
theorem Zqq(hN:N.Nodup){j:Nat}(a:N[i]?=Z x)(b:N[j]?=Z x):i=j:=by obtain⟨h1,e1⟩:=ZBr.mp a;obtain⟨h2,e2⟩:=ZBr.mp b;exact(List.getElem_inj hN).mp (e1.trans e2.symm)
theorem Znm{M:Model}{v:V}{Q:Unit->Shared->Prop}(I:Inv X pins σ H s)(hN:X.N.Nodup)(hi:X.N[i]?=Z x)(hx:Loc X.env.scope x)(r:RelV v u)
  (h:∀s',Inv X pins (σ.set i (Z v)) H s'->(∃a,ZC5 a s.heap s'.heap/\(a=X.env.locals\/X.env.cells.lookup x=Z a))->Q () s') (hf:X.fn x=ZGH\/X.env.scope.names.lookup x=Z .local:=by first | exact .inl rfl | exact .inr rfl | assumption):wpAny M A (storeName X.env x u) Q E s:=by
 obtain⟨m,hn,hl⟩:=id I.loc;have hcls:(X.env.scope.kind==.class||(X.env.scope.kind==.module&&X.env.locals != X.env.globals))=ZGI:=by rw[I.ok.kind]; rfl
 have hiσ:i<σ.length:=by rw[I.len]; exact(ZBr.mp hi).1
 have cne:=I.cne;have tracked:∀{a:Addr} {h':Heap},(∃o,s.heap.get? a=Z o/\H a=Z_)->ZC5 a s.heap h'->HOk X.prog X.w H h':=λ{a h'} ha hs b ob e=>by
  obtain⟨_,_,hfree⟩:=ha;refine(I.hok b ob e).stay (λc w' hc q=>(hs.2 c ?_).trans q) (λ_ q=>q) λ_ _ q=>q
  rintro rfl
  rcases hc with rfl | hc
  ·rw[hfree]at e; cases e
  ·rw[hfree]at hc; cases hc
 rcases hx with hk | hk
 ·refine wpAny_storeName_local hk hn (λh' hn' hs=>?_) hcls
  obtain⟨oL,_,_,hoL,_⟩:=id hn;refine h _ ⟨I.ok,I.os,I.bare,⟨λb o e n hb hx=>?_,λb o e n hb hx=>?_,I.base.free,λb o e hx=>?_,I.base.tups,I.base.frzs,I.base.tbls⟩,⟨_,hn',λj y v' e1 e2 e3=>?_⟩,λy c e=>?_,I.free,I.freeC,λp hp=>?_,tracked ⟨oL,hoL,I.free⟩ hs,by simpa using I.len⟩ ⟨_,hs,.inl rfl⟩
  ·exact(hs.2 b (ZBA (ZBK (ZBt e) I.ok.above))).trans (I.base.keep b o e n hb hx)
  ·obtain⟨sl,e1⟩:=I.base.slot b o e n hb hx
   exact⟨sl,(hs.2 b (ZBA (ZBK (ZBt e) I.ok.above))).trans e1⟩
  ·obtain⟨o',e1⟩:=I.base.there b o e hx
   exact⟨o',(hs.2 b (ZBA (ZBK (ZBt e) I.ok.above))).trans e1⟩
  ·by_cases hj:j=i
   ·subst hj
    rw[hi]at e1; cases e1;rw[ZB9 hiσ]at e2;cases e2;exact⟨u,r,.inl ⟨hk,by simp⟩⟩
   ·rw[ZBP (ZCn hj)]at e2
    obtain⟨u',r',q⟩:=hl j y v' e1 e2 e3;refine⟨u',r',?_⟩;rcases q with⟨k,e⟩ | ⟨k,c,e,z⟩
    ·refine .inl ⟨k,?_⟩
     have:y≠x:=λe=>hj (Zqq hN e1 (e▸hi));simp[this,e]
    ·exact .inr ⟨k,c,e,z.sameBut hs (cne y c e)⟩
  ·obtain⟨w',z⟩:=I.cell y c e
   exact⟨w',z.sameBut hs (cne y c e)⟩
  ·obtain⟨e,n,ne,nf,d⟩:=I.pin p hp
   exact⟨(hs.2 p.1 ne).trans e,n,ne,nf,d⟩
 ·have hfn:X.fn x=ZGH:=by
   rcases hf with z | z
   ·exact z
   ·rw[z]at hk; cases hk
  obtain⟨c,hc⟩:=I.ok.has x (.inl hk);obtain⟨w',z⟩:=I.cell x c hc;refine wpAny_storeName_cell I.ok.kind hk hc z (λh' hc' hs=>?_);obtain⟨oc,hoc,hocd⟩:=id z;refine h { s with heap:=h' } ⟨I.ok,I.os,I.bare,⟨λb o e n hb hx=>?_,λb o e n hb hx=>?_,I.base.free,λb o e hx=>?_,I.base.tups,I.base.frzs,I.base.tbls⟩,⟨m,hn.sameBut hs (ZCn (cne x c hc)),λj y v' e1 e2 e3=>?_⟩,λy c' e=>?_,I.free,I.freeC,λp hp=>?_,tracked ⟨oc,hoc,I.freeC x c hc⟩ hs,by simpa using I.len⟩ ⟨c,hs,.inr hc⟩
  ·exact(hs.2 b (ZBA (ZBK (ZBt e) (I.ok.cab x c hfn hc)))).trans (I.base.keep b o e n hb hx)
  ·obtain⟨sl,e1⟩:=I.base.slot b o e n hb hx
   exact⟨sl,(hs.2 b (ZBA (ZBK (ZBt e) (I.ok.cab x c hfn hc)))).trans e1⟩
  ·obtain⟨o',e1⟩:=I.base.there b o e hx
   exact⟨o',(hs.2 b (ZBA (ZBK (ZBt e) (I.ok.cab x c hfn hc)))).trans e1⟩
  ·by_cases hj:j=i
   ·subst hj
    rw[hi]at e1; cases e1;rw[ZB9 hiσ]at e2;cases e2;exact⟨u,r,.inr ⟨.inl hk,c,hc,hc'⟩⟩
   ·rw[ZBP (ZCn hj)]at e2
    obtain⟨u',r',q⟩:=hl j y v' e1 e2 e3;refine⟨u',r',?_⟩;rcases q with q | ⟨k,c',e,z'⟩
    ·exact .inl q
    ·refine .inr ⟨k,c',e,z'.sameBut hs ?_⟩
     rintro rfl
     exact hj (Zqq hN e1 (I.ok.inj _ _ _ e hc▸hi))
  ·by_cases hcc:c'=c
   ·subst hcc; exact⟨_,hc'⟩
   ·obtain⟨w2,z2⟩:=I.cell y c' e
    exact⟨w2,z2.sameBut hs hcc⟩
  ·obtain⟨e,n,ne,nf,d⟩:=I.pin p hp
   refine⟨(hs.2 p.1 ?_).trans e,n,ne,nf,d⟩;intro q;rw[q,hoc]at e;have q':oc=p.2:=ZCa e;exact d w' (by rw[<-q']; exact hocd)
theorem ZpV{M:Model}{v:V}{Q:Unit->Shared->Prop}(I:Inv X pins σ H s)(hN:X.N.Nodup)(hi:X.N[i]?=Z x)(hx:Loc X.env.scope x)(r:RelV v u)
  (h:∀s',Inv X pins (σ.set i (Z v)) H s'->Q () s') (hf:X.fn x=ZGH\/X.env.scope.names.lookup x=Z .local:=by first | exact .inl rfl | exact .inr rfl | assumption):wpAny M A (storeName X.env x u) Q E s :=
 Znm I hN hi hx r (λs' I' _=>h s' I') hf
theorem Inv.call'{s':Shared}(I:Inv X pins σ H s)(ho:s'.os=s.os)(u:Un (frs X.stack) ch H H' s.heap s'.heap)(hok:HOk X.prog X.w H' s'.heap)(hg:AllBare s'.gens)
  (hch:∀b∈ch,(b∈X.ex\/X.s₀.heap.objs.size<=b)/\b≠X.env.locals/\(∀x c,X.env.cells.lookup x=Z c->c≠b)/\∀p∈X.pn++pins,p.1≠b):Inv X pins σ H' s':=by
 obtain⟨h',g',d',t',o'⟩:=s';have e:o'=s.os:=ho;subst e;exact I.call (g':=g') (t':=t') (d':=d') u hok hg hch
end
abbrev XK:=Value->Option Addr->Hp->Prop
abbrev St:=List (Option V)
abbrev VK:=V->Hp->Prop
abbrev TE:=St->Hp->VK->Prop
abbrev TT:=St->Hp->(Bool->Hp->Prop)->Prop
abbrev TA:=St->Hp->(List V->Hp->Prop)->Prop
structure Ends where
 nx:St->Hp->Prop
 rt:VK
 bk:St->Hp->Prop:=λ_ _=>False
 ct:St->Hp->Prop:=λ_ _=>False
abbrev TS:=Ends->St->Hp->Prop
inductive EP(X:Cx)(pins:List (Addr × Obj))(σ:St)(Q:VK)(u:Value)(s':Shared):Prop
 | mk (v:V) (H':Hp) (I:Inv X pins σ H' s') (r:RelV v u) (q:Q v H'):EP X pins σ Q u s'
inductive TP(X:Cx)(pins:List (Addr × Obj))(σ:St)(Q:Bool->Hp->Prop)(b:Bool)(s':Shared):Prop
 | mk (H':Hp) (I:Inv X pins σ H' s') (q:Q b H'):TP X pins σ Q b s'
inductive AP(X:Cx)(pins:List (Addr × Obj))(σ:St)(Q:List V->Hp->Prop)(us:List Value)(s':Shared):Prop
 | mk (vs:List V) (H':Hp) (I:Inv X pins σ H' s') (r:Vals vs us) (q:Q vs H'):AP X pins σ Q us s'
inductive SPn(X:Cx)(pins:List (Addr × Obj))(N:St->Hp->Prop)(s':Shared):Prop
 | mk (σ':St) (H':Hp) (I:Inv X pins σ' H' s') (q:N σ' H'):SPn X pins N s'
inductive SPr(X:Cx)(pins:List (Addr × Obj))(R:V->Hp->Prop)(u:Value)(s':Shared):Prop
 | mk (v:V) (σ':St) (H':Hp) (I:Inv X pins σ' H' s') (r:RelV v u) (q:R v H'):SPr X pins R u s'
def SP(X:Cx)(pins:List (Addr × Obj))(D:Ends)(f:Flow)(s':Shared):Prop :=
 match f with
 | .next=>SPn X pins D.nx s'
 | .brk=>SPn X pins D.bk s'
 | .cont=>SPn X pins D.ct s'
 | .ret u=>SPr X pins D.rt u s'
def PE(X:Cx)(e:Expr)(t:TE):Prop :=
 ∀(pins:List (Addr × Obj)) (s:Shared) (σ:St) (H:Hp) (Q:VK),Inv X pins σ H s->t σ H Q->wpAny (model X.prog X.w) X.A (eval e X.env) (EP X pins σ Q) X.xe s
def PT(X:Cx)(e:Expr)(t:TT):Prop :=
 ∀(pins:List (Addr × Obj)) (s:Shared) (σ:St) (H:Hp) (Q:Bool->Hp->Prop),Inv X pins σ H s->t σ H Q->wpAny (model X.prog X.w) X.A (isTrue e X.env (eval e X.env)) (TP X pins σ Q) X.xe s
def PW(X:Cx)(e:Expr)(t:TT):Prop :=
 ∀(whole:Sem Value) (pins:List (Addr × Obj)) (s:Shared) (σ:St) (H:Hp) (Q:Bool->Hp->Prop),Inv X pins σ H s->t σ H Q->wpAny (model X.prog X.w) X.A (isTrue e X.env whole) (TP X pins σ Q) X.xe s
theorem PW.pt{e:Expr}{t:TT}(h:PW X e t):PT X e t:=h _
def PA(X:Cx)(es:List Expr)(t:TA):Prop :=
 ∀(pos:Pos) (pins:List (Addr × Obj)) (s:Shared) (σ:St) (H:Hp) (Q:List V->Hp->Prop),Inv X pins σ H s->t σ H Q->wpAny (model X.prog X.w) X.A (spliced (backTo pos (ZBp es X.env))) (AP X pins σ Q) X.xe s
def PS(X:Cx)(st:Stmt)(t:TS):Prop :=
 ∀(pins:List (Addr × Obj)) (s:Shared) (σ:St) (H:Hp) (D:Ends),Inv X pins σ H s->t D σ H->wpAny (model X.prog X.w) X.A (exec st X.env) (SP X pins D) X.xe s
def PSs(X:Cx)(st:List Stmt)(t:TS):Prop :=
 ∀(pins:List (Addr × Obj)) (s:Shared) (σ:St) (H:Hp) (D:Ends),Inv X pins σ H s->t D σ H->wpAny (model X.prog X.w) X.A (execs st X.env) (SP X pins D) X.xe s
theorem thn{α:Type}{t:Sem α}{Q Q':α->Shared->Prop}{M:Model}(h:wpAny M A t Q E s)(hQ:∀a s,Q a s->Q' a s):wpAny M A t Q' E s:=ZCH h hQ λ_ _ x=>x
end
section
section
variable{X:Cx}
def ZAR(i:Nat):TE:=λσ H Q=>∃v,σ[i]?=Z (Z v)/\Q v H
noncomputable def tC (v:V):TE:=λ_ H Q=>Q v H
theorem Zb9(hN:X.N[i]?=Z x)(hv:Vis X.env.scope x)(hd:(x==("__debug__":Str))=ZGI:=by decide)(hcd:(x==("__classdict__":Str))=ZGI:=by decide):PE X (.Name x pos) (ZAR i):=by
 intro pins s σ H Q I h;obtain⟨v,e,h⟩:=h;obtain⟨m,hn,hl⟩:=I.loc;obtain⟨u,r,l⟩:=hl i x v hN e hv;have fin:EP X pins σ Q u s:=⟨v,H,I,r,h⟩;rcases l with⟨hk,hm⟩ | ⟨hk,c,hc,hcell⟩
 ·exact wpAny_Name (wpAny_loadName_local I.ok.kind hk hn hm fin) hd
 ·rcases hk with hk | hk
  ·exact wpAny_Name (wpAny_loadName_cell I.ok.kind hk hc hcell fin) hd
  ·exact wpAny_Name (wpAny_loadName_free I.ok.kind hk hc hcell fin hcd) hd
theorem Zt1{i j pos}:PE X (.Constant (.int i) j pos) (tC (.int i)):=λ_ _ _ H _ I h=>wpAny_Constant_int ⟨.int i,H,I.tok _,⟨_,rfl⟩,h⟩
theorem ZzX{b j pos}:PE X (.Constant (.bool b) j pos) (tC (.bl b)):=λ_ _ _ H _ I h=>Constant_bool ⟨.bl b,H,I,rfl,h⟩
theorem Ztk{j pos}:PE X (.Constant .none j pos) (tC .non):=λ_ _ _ H _ I h=>Constant_none ⟨.non,H,I,rfl,h⟩
theorem ZyL{x j pos}:PE X (.Constant (.str x) j pos) (tC (.str x)):=λ_ _ _ H _ I h=>Calls.Constant_str ⟨.str x,H,I.tok _,⟨_,rfl⟩,h⟩
def Gl(X:Cx)(x:Str):Prop:=X.env.kindOf x=Z .globalImplicit
theorem ZmY(I:Inv X pins σ H s)(hg:Gl X x)(hm:X.mg x=Z u)(h:Q u s)
  (hd:(x==("__debug__":Str))=ZGI:=by decide):wpAny (model X.prog X.w) X.A (eval (.Name x pos) X.env) Q E s :=
 ZFq I.ok.kind hg (Calls.loadGlobal_global (by rw[I.ok.glob]; exact I.mod.glob.keeps I.bk) hm h) hd
theorem Zid(I:Inv X pins σ H s)(hg:Gl X x)(hm:X.mg x=Z_)(hv:ZCg x=Z u)(h:Q u s)
  (hn:x ≠ "__name__":=by decide) (hd:(x==("__debug__":Str))=ZGI:=by decide):wpAny (model X.prog X.w) X.A (eval (.Name x pos) X.env) Q E s:=by
 obtain⟨mb,h1,h2⟩:=I.mod.blt;exact ZFq I.ok.kind hg (Calls.loadGlobal_builtin (by rw[I.ok.glob]; exact I.mod.glob.keeps I.bk) hm (by rw[I.ok.blt]; exact h1.keeps I.bk) ((h2 x hn).trans hv) h) hd
theorem ZmH{v:V}(hg:Gl X x)(hm:X.mg x=Z u)(r:RelV v u)(hd:(x==("__debug__":Str))=ZGI:=by decide):PE X (.Name x pos) (tC v) :=
 λ_ _ _ H _ I h=>ZmY I hg hm ⟨v,H,I,r,h⟩ hd
theorem Zxl{v:V}(hg:Gl X x)(hm:X.mg x=Z_)(hv:ZCg x=Z u)(r:RelV v u)(hn:x ≠ "__name__":=by decide)(hd:(x==("__debug__":Str))=ZGI:=by decide):PE X (.Name x pos) (tC v) :=
 λ_ _ _ H _ I h=>Zid I hg hm hv ⟨v,H,I,r,h⟩ hn hd
variable{a b:Expr}{ta tb:TE}{pos:Pos}
def PC(X:Cx)(op:CmpOp)(a b:Expr)(t:TE):Prop :=
 ∀(pins:List (Addr × Obj)) (s:Shared) (σ:St) (H:Hp) (Q:VK),Inv X pins σ H s->t σ H Q ->
  wpAny (model X.prog X.w) X.A (eval a X.env) (λv s₁=>wpAny (model X.prog X.w) X.A (eval b X.env) (λu s₂=>wpAny (model X.prog X.w) X.A (ZCx op v u) (EP X pins σ Q) X.xe s₂) X.xe s₁) X.xe s
theorem Zlv(b:Expr){op:CmpOp}(h:op≠.In)(h2:op≠.NotIn):ZDo op b=ZGI:=by
 have e1:(op==CmpOp.In)=ZGI:=by cases op<;>first | rfl | exact absurd rfl h
 have e2:(op==CmpOp.NotIn)=ZGI:=by cases op<;>first | rfl | exact absurd rfl h2
 cases b<;>simp[ZDo,e1,e2]
def tB(t:TE):TT:=λσ H Q=>t σ H λx H1=>∃c,x=.bl c/\Q c H1
theorem ZtS{op:CmpOp}{t:TE}(h:PC X op a b t)(h1:ZDo op b=ZGI:=by first | exact Zlv _ (by decide) (by decide) | rfl):PT X (.Compare a [op] [b] pos) (tB t):=by intro pins s σ H Q I hw;refine wpAny_isTrue_Compare1 (thn (h pins s σ H _ I hw) λv s1 h1=>thn h1 λu s2 h2=>thn h2 λc s3 ⟨x,H1,I1,r1,q1⟩=>?_) h1;obtain⟨d,rfl,q⟩:=q1;cases r1;exact ZCI ⟨H1,I1,q⟩
theorem Zy6{e:Expr}{t:TE}(h:PE X e t)(he:∀whole,isTrue e X.env whole=(do let v <-whole; standAt e.pos; holding [v] (truthy v)):=by intro _; rfl):PT X e (tB t):=by intro pins s σ H Q I hw;refine isTrue_plain (thn (h pins s σ H _ I hw) λv s1 ⟨x,H1,I1,r1,q1⟩=>?_) (he _);obtain⟨d,rfl,q⟩:=q1;cases r1;exact ZCI ⟨H1,I1,q⟩
variable{tA tB':TT}{rest:List Expr}
def ZlF(t u:TT):TT:=λσ H Q=>t σ H λc H1=>if c=ZGH then u σ H1 Q else Q ZGI H1
def tOr(t u:TT):TT:=λσ H Q=>t σ H λc H1=>if c=ZGH then Q ZGH H1 else u σ H1 Q
def Zde(t:TT):TT:=λσ H Q=>t σ H λc H1=>Q (!c) H1
theorem Zxn(ha:PT X a tA):PW X (.BoolOp .And [a] pos) tA:=by
 intro wh pins s σ H Q I h;refine isTrue_and (thn (ha pins s σ H Q I h) λc s1 e=>?_);cases c with
 | true=>exact isTrue_and_nil e
 | false=>exact e
theorem Zx6(ha:PT X a tA):PW X (.BoolOp .Or [a] pos) tA:=by
 intro wh pins s σ H Q I h;refine isTrue_or (thn (ha pins s σ H Q I h) λc s1 e=>?_);cases c with
 | false=>exact isTrue_or_nil e
 | true=>exact e
theorem ZtP(ha:PT X a tA)(hb:PW X (.BoolOp .And (b::rest) pos) tB'):PW X (.BoolOp .And (a::b::rest) pos) (ZlF tA tB'):=by
 intro wh pins s σ H Q I h;refine isTrue_and (thn (ha pins s σ H _ I h) λc s1 ⟨H1,I1,q1⟩=>?_);cases c with
 | true=>exact hb wh pins s1 σ H1 Q I1 q1
 | false=>exact⟨H1,I1,q1⟩
theorem Zwh(ha:PT X a tA)(hb:PW X (.BoolOp .Or (b::rest) pos) tB'):PW X (.BoolOp .Or (a::b::rest) pos) (tOr tA tB'):=by
 intro wh pins s σ H Q I h;refine isTrue_or (thn (ha pins s σ H _ I h) λc s1 ⟨H1,I1,q1⟩=>?_);cases c with
 | true=>exact⟨H1,I1,q1⟩
 | false=>exact hb wh pins s1 σ H1 Q I1 q1
theorem ZyV(ha:PT X a tA):PT X (.UnaryOp .Not a pos) (Zde tA):=by intro pins s σ H Q I h;exact isTrue_not (thn (ha pins s σ H (λc H1=>Q (!c) H1) I h) λ_ _ ⟨H',I',q'⟩=>⟨H',I',q'⟩)
def Zz0(ta tb:TE):TE:=λσ H Q=>ta σ H λx H1=>∃c,x=.bl c/\if c=ZGH then tb σ H1 Q else Q (.bl ZGI) H1
def ZAE(ta tb:TE):TE:=λσ H Q=>ta σ H λx H1=>∃c,x=.bl c/\if c=ZGH then Q (.bl ZGH) H1 else tb σ H1 Q
theorem Zx8{op}{t:TE}(h:PE X a t):PE X (.BoolOp op [a] pos) t:=λpins s σ H Q I hw=>BoolOp_one (h pins s σ H Q I hw)
theorem ZtF(ha:PE X a ta)(hb:PE X (.BoolOp .And (b::rest) pos) tb):PE X (.BoolOp .And (a::b::rest) pos) (Zz0 ta tb):=by
 intro pins s σ H Q I h;refine BoolOp_and (thn (ha pins s σ H _ I h) λv s1 ⟨x,H1,I1,r1,q1⟩=>?_);obtain⟨c,rfl,q1⟩:=q1;cases r1;refine ZCI ?_;cases c with
 | true=>exact hb pins s1 σ H1 Q I1 q1
 | false=>exact⟨.bl ZGI,H1,I1,rfl,q1⟩
theorem Zwc(ha:PE X a ta)(hb:PE X (.BoolOp .Or (b::rest) pos) tb):PE X (.BoolOp .Or (a::b::rest) pos) (ZAE ta tb):=by
 intro pins s σ H Q I h;refine BoolOp_or (thn (ha pins s σ H _ I h) λv s1 ⟨x,H1,I1,r1,q1⟩=>?_);obtain⟨c,rfl,q1⟩:=q1;cases r1;refine ZCI ?_;cases c with
 | false=>exact hb pins s1 σ H1 Q I1 q1
 | true=>exact⟨.bl ZGH,H1,I1,rfl,q1⟩
def tIf(t:TT)(ta tb:TE):TE:=λσ H Q=>t σ H λc H1=>if c=ZGH then ta σ H1 Q else tb σ H1 Q
theorem ZpG(hc:PT X c tA)(ha:PE X a ta)(hb:PE X b tb):PE X (.IfExp c a b pos) (tIf tA ta tb):=by
 intro pins s σ H Q I h;refine wpAny_IfExp (thn (hc pins s σ H _ I h) λd s1 ⟨H1,I1,q1⟩=>?_);cases d with
 | true=>exact ha pins s1 σ H1 Q I1 q1
 | false=>exact hb pins s1 σ H1 Q I1 q1
end
end
section
def SqL(K:ZBd)(H:Hp)(a:Addr)(xs:List V):Prop :=
 Rd H a (.lst xs) \/
  ∃(o:Obj) (its:Array Value) (n:Nat),K.lookup a=Z o/\o.cls=.type "list"/\o.dict=Z_/\o.data=.seq its n/\its.size<=sizeLine/\Vals xs its.toList
def SqT(K:ZBd)(H:Hp)(a:Addr)(xs:List V):Prop :=
 Rd H a (.tup xs) \/
  ∃(o:Obj) (its:Array Value) (n:Nat),K.lookup a=Z o/\o.cls=.type "tuple"/\o.data=.seq its n/\its.size<=sizeLine/\Vals xs its.toList
def ZAJ:Value->Option V
 | .none=>Z .non
 | .bool b=>Z (.bl b)
 | .int i _=>Z (.int i)
 | .str x _=>Z (.str x)
 | .bytes b _=>Z (.byt b)
 | .float b _=>Z (.flt b)
 | .ref a=>Z (.ref a)
 | .type n=>Z (.ty n)
 | _=>Z_
theorem RelV.abs{x:V}(r:RelV x u):ZAJ u=Z x:=by
 cases x with
 | non=>cases r; rfl
 | bl _=>cases r; rfl
 | int _=>obtain⟨t,rfl⟩:=r; rfl
 | str _=>obtain⟨t,rfl⟩:=r; rfl
 | byt _=>obtain⟨t,rfl⟩:=r; rfl
 | flt _=>obtain⟨t,rfl⟩:=r; rfl
 | ref _=>cases r; rfl
 | ty _=>cases r; rfl
theorem RelV.inj{x y:V}{u:Value}(r:RelV x u)(q:RelV y u):x=y:=ZCa (r.abs.symm.trans q.abs)
theorem Vals.inj:∀{xs ys:List V} {us:List Value},Vals xs us->Vals ys us->xs=ys
 | _,_,_,.nil,.nil=>rfl
 | _,_,_,.cons r t,.cons r' t'=>by rw[r.inj r',Vals.inj t t']
section
variable{X:Cx}{pins:List (Addr × Obj)}{σ:St}{H:Hp}{s:Shared}{a:Addr}{xs ys:List V}
theorem SqL.of(h:H a=Z (.lst xs)):SqL K H a xs:=.inl (.inl h)
theorem SqT.of(h:H a=Z (.tup xs)):SqT K H a xs:=.inl (.inl h)
theorem Inv.list(I:Inv X pins σ H s)(h:SqL X.K H a xs):∃its:List Value,Vals xs its/\PlainL s.heap a its.toArray/\xs.length<=sizeLine:=by
 rcases h with h | ⟨o,its,n,hk,hc,hd,hs,hz,r⟩
 ·obtain⟨z,its,n,r,e⟩:=h.ok I.hok
  exact⟨its,r,⟨_,n,e,rfl,rfl,rfl⟩,z⟩
 ·refine⟨its.toList,r,⟨o,n,I.kIn a o hk,hc,hd,by simpa using hs⟩,?_⟩
  have e:=r.length;simp only[ZBB]at e;omega
theorem Inv.tuple(I:Inv X pins σ H s)(h:SqT X.K H a xs):∃its:List Value,Vals xs its/\IsTup s.heap a its.toArray/\xs.length<=sizeLine:=by
 rcases h with h | ⟨o,its,n,hk,hc,hs,hz,r⟩
 ·obtain⟨z,its,r,p⟩:=h.ok I.hok
  exact⟨its,r,p,z⟩
 ·refine⟨its.toList,r,⟨o,I.kIn a o hk,hc,n,by simpa using hs⟩,?_⟩
  have e:=r.length;simp only[ZBB]at e;omega
theorem Inv.list_inj(I:Inv X pins σ H s)(h:SqL X.K H a xs)(h':SqL X.K H a ys):xs=ys:=by
 obtain⟨its,r,⟨o,n,e,_,_,d⟩,_⟩:=I.list h;obtain⟨its',r',⟨o',n',e',_,_,d'⟩,_⟩:=I.list h';rw[e]at e'; cases e';rw[d]at d';injection d' with d1 _
 have:its=its':=by simpa using congrArg Array.toList d1
 subst this;exact r.inj r'
theorem Inv.tuple_inj(I:Inv X pins σ H s)(h:SqT X.K H a xs)(h':SqT X.K H a ys):xs=ys:=by
 obtain⟨its,r,⟨o,e,_,n,d⟩,_⟩:=I.tuple h;obtain⟨its',r',⟨o',e',_,n',d'⟩,_⟩:=I.tuple h';rw[e]at e'; cases e';rw[d]at d';injection d' with d1 _
 have:its=its':=by simpa using congrArg Array.toList d1
 subst this;exact r.inj r'
end
abbrev Cx.wish(X:Cx)(E:Value->Shared->Prop):Cx:={ X with xe:=E }
abbrev Cx.nox(X:Cx):Cx:=X.wish λ_ _=>False
theorem Cx.Ok.wish{X:Cx}(ok:X.Ok)(E:Value->Shared->Prop):(X.wish E).Ok :=
 ⟨ok.mod,ok.kind,ok.glob,ok.blt,ok.above,ok.inj,ok.has,ok.cab,ok.hd,ok.frames,ok.stk,ok.exf,ok.bs,ok.bsz,ok.noex,ok.exfs,ok.funs,ok.frf⟩
theorem Cx.Ok.unwish(ok:(X.wish E).Ok):X.Ok :=
 ⟨ok.mod,ok.kind,ok.glob,ok.blt,ok.above,ok.inj,ok.has,ok.cab,ok.hd,ok.frames,ok.stk,ok.exf,ok.bs,ok.bsz,ok.noex,ok.exfs,ok.funs,ok.frf⟩
section
variable{X:Cx}{pins:List (Addr × Obj)}{σ:St}{H:Hp}{s:Shared}{E:Value->Shared->Prop}
theorem Inv.wish(I:Inv X pins σ H s)(E:Value->Shared->Prop):Inv (X.wish E) pins σ H s:=⟨I.ok.wish E,I.os,I.bare,I.base,I.loc,I.cell,I.free,I.freeC,I.pin,I.hok,I.len⟩
theorem Inv.unwish(I:Inv (X.wish E) pins σ H s):Inv X pins σ H s:=⟨I.ok.unwish,I.os,I.bare,I.base,I.loc,I.cell,I.free,I.freeC,I.pin,I.hok,I.len⟩
theorem SP.unwish{D:Ends}{f:Flow}{s':Shared}(h:SP (X.wish E) pins D f s'):SP X pins D f s':=by
 cases f with
 | next=>obtain⟨σ',H',I,q⟩:=h; exact⟨σ',H',I.unwish,q⟩
 | brk=>obtain⟨σ',H',I,q⟩:=h; exact⟨σ',H',I.unwish,q⟩
 | cont=>obtain⟨σ',H',I,q⟩:=h; exact⟨σ',H',I.unwish,q⟩
 | ret u=>obtain⟨v,σ',H',I,r,q⟩:=h; exact⟨v,σ',H',I.unwish,r,q⟩
theorem PSs.nox{st:List Stmt}{t:TS}(h:PSs X.nox st t):PSs X st t:=λpins s σ H D I hw=>ZCH (h pins s σ H D (I.wish _) hw) (λ_ _ q=>q.unwish) λ_ _ z=>ZCb z
end
section
variable{X:Cx}{st:Stmt}{rest:List Stmt}{t u:TS}{e:Expr}{te:TE}{pos:Pos}
noncomputable def ZzF:TS:=λD σ H=>D.nx σ H
noncomputable def ZAv (t u:TS):TS:=λD σ H=>t { D with nx:=u D } σ H
theorem ZxA:PSs X [] ZzF:=λ_ _ σ H _ I h=>ZEY ⟨σ,H,I,h⟩
theorem ZiX(h1:PS X st t)(h2:PSs X rest u):PSs X (st::rest) (ZAv t u):=by
 intro pins s σ H D I h;refine wpAny_execs_cons (thn (h1 pins s σ H { D with nx:=u D } I h) λf s1 q=>?_);cases f with
 | next=>obtain⟨σ',H',I',q⟩:=q;exact h2 pins s1 σ' H' D I' q
 | ret v=>exact q
 | brk=>exact q
 | cont=>exact q
theorem ZrL(h1:PS X st t):PSs X [st] t:=by
 intro pins s σ H D I h;refine wpAny_execs_cons (thn (h1 pins s σ H D I h) λf s1 q=>?_);cases f with
 | next=>exact ZEY q
 | ret v=>exact q
 | brk=>exact q
 | cont=>exact q
theorem Inv.quiet(I:Inv X pins σ H s):interactive X.env=ZGI:=by simp[interactive,I.ok.kind]
def ZzZ(te:TE):TS:=λD σ H=>te σ H λ_ H1=>D.nx σ H1
theorem Zkz(he:PE X e te)(hs:ZDM e Z_ pos.line X.env=pure ZGI:=by rfl):PS X (.Expr e pos) (ZzZ te):=by intro pins s σ H D I h;exact wpAny_Expr_any (thn (he pins s σ H _ I h) λv s1 ⟨x,H1,I1,r1,q1⟩=>⟨σ,H1,I1,q1⟩) I.quiet hs
def ZAQ(te:TE):TS:=λD σ H=>te σ H D.rt
theorem Zqh(he:PE X e te):PS X (.Return (Z e) pos) (ZAQ te):=by intro pins s σ H D I h;exact wpAny_Return_some (thn (he pins s σ H _ I h) λv s1 ⟨x,H1,I1,r1,q1⟩=>⟨x,σ,H1,I1,r1,q1⟩)
def ZAU(c:TT)(t u:TS):TS:=λD σ H=>c σ H λb H1=>if b=ZGH then t D σ H1 else u D σ H1
theorem Zwj{a b:List Stmt}{tc:TT}(hc:PT X c tc)(ha:PSs X a t)(hb:PSs X b u):PS X (.If c a b pos) (ZAU tc t u):=by
 intro pins s σ H D I h;refine wpAny_If (thn (hc pins s σ H _ I h) λd s1 ⟨H1,I1,q1⟩=>?_);cases d with
 | true=>exact ha pins s1 σ H1 D I1 q1
 | false=>exact hb pins s1 σ H1 D I1 q1
def Zy7:TS:=λ_ _ _=>False
theorem Zhp{sts:List Stmt}:PSs X sts Zy7:=λ_ _ _ _ _ _ h=>h.elim
end
abbrev TG:=V->St->Hp->(St->Hp->Prop)->Prop
abbrev TGs:=List V->St->Hp->(St->Hp->Prop)->Prop
def PG(X:Cx)(target:Expr)(t:TG):Prop :=
 ∀(pins:List (Addr × Obj)) (s:Shared) (σ:St) (H:Hp) (v:V) (u:Value) (Q:St->Hp->Prop),Inv X pins σ H s->RelV v u->t v σ H Q ->
  wpAny (model X.prog X.w) X.A (assign target X.env u) (λ_ s'=>∃σ' H',Inv X pins σ' H' s'/\Q σ' H') X.xe s
def PGs(X:Cx)(ts:List Expr)(t:TGs):Prop :=
 ∀(pins:List (Addr × Obj)) (s:Shared) (σ:St) (H:Hp) (vs:List V) (us:List Value) (Q:St->Hp->Prop),Inv X pins σ H s->Vals vs us->t vs σ H Q ->
  wpAny (model X.prog X.w) X.A (assignInOrder ((ZEu ts X.env).map (·.2)) us) (λ_ s'=>∃σ' H',Inv X pins σ' H' s'/\Q σ' H') X.xe s
abbrev ZuS:=V->V->V->Hp->(Hp->Prop)->Prop
def Zzi(X:Cx)(t:ZuS):Prop :=
 ∀(pins:List (Addr × Obj)) (s:Shared) (σ:St) (H:Hp) (o i v:V) (ov iv u:Value) (Q:Hp->Prop),Inv X pins σ H s->RelV o ov->RelV i iv->RelV v u->t o i v H Q ->
  wpAny (model X.prog X.w) X.A (setItem ov iv u) (λ_ s'=>∃H',Inv X pins σ H' s'/\Q H') X.xe s
section
variable{X:Cx}{pos:Pos}
def Zwd(i:Nat):TG:=λv σ H Q=>Q (σ.set i (Z v)) H
theorem Zkr(hN:X.N.Nodup)(hi:X.N[i]?=Z x)(hx:Loc X.env.scope x)(hf:X.fn x=ZGH\/X.env.scope.names.lookup x=Z .local:=by first | exact .inl rfl | exact .inr rfl | assumption):PG X (.Name x pos) (Zwd i):=by intro pins s σ H v u Q I r h;exact wpAny_assign_Name (ZpV I hN hi hx r (λs' I'=>⟨_,H,I',h⟩) hf)
def ZAS:TGs:=λvs σ H Q=>vs=[]/\Q σ H
def ZzD(t:TG)(u:TGs):TGs:=λvs σ H Q=>∃v r,vs=v::r/\t v σ H λσ' H'=>u r σ' H' Q
theorem ZwY:PGs X [] ZAS:=by intro pins s σ H vs us Q I r h;obtain⟨e,h⟩:=h;subst e;cases r;exact assignInOrder_nil ⟨σ,H,I,h⟩
theorem Zph{e:Expr}{t:TG}{u:TGs}(h1:PG X e t)(h2:PGs X es u)
  (hs:(ZEu (e::es) X.env).map (·.2)=assign e X.env::(ZEu es X.env).map (·.2):=by rfl):PGs X (e::es) (ZzD t u):=by
 intro pins s σ H vs us Q I r h;obtain⟨v,vr,e1,h⟩:=h;subst e1;cases r with
 | cons r rr=>rw[hs];refine assignInOrder_cons (thn (h1 pins s σ H _ _ _ I r h) λ_ s1 ⟨σ1,H1,I1,q1⟩=>?_);exact h2 pins s1 σ1 H1 _ _ Q I1 rr q1
def ZAF(K:ZBd)(n:Nat)(t:TGs):TG:=λv σ H Q=>∃a xs,v=.ref a/\SqT K H a xs/\xs.length=n/\t xs σ H Q
theorem ZyG{k:Nat}{t:TGs}(hc:X.calm=ZGH)(h:PGs X es t)
  (hn:(ZEu es X.env).length=n:=by rfl) (hst:(ZEu es X.env).findIdx? (·.1)=Z_:=by rfl):PG X (.Tuple es k pos) (ZAF X.K n t):=by
 intro pins s σ H v u Q I r hw;obtain⟨a,xs,e1,hq,hl,hw⟩:=hw;subst e1;cases r;obtain⟨its,rv,ht,hz⟩:=I.tuple hq;refine assign_Tuple_tuple (I.ok.hd hc) ht (by simp[hn,<-hl,rv.length]) hst λh' hx=>?_;have I1:Inv X pins σ H { s with heap:=h' }:=I.kept (t':=s.toks) λb o e=>hx b o (ZBA (ZBt e)) e;exact h pins _ σ H xs _ Q I1 (by simpa using rv) hw
def Zm3(to ti:TE)(t:ZuS):TG:=λv σ H Q=>to σ H λo H1=>ti σ H1 λi H2=>t o i v H2 λH3=>Q σ H3
theorem Zy2{o i:Expr}{to ti:TE}{t:ZuS}(ho:PE X o to)(hi:PE X i ti)(hs:Zzi X t)
  (ha:∀v,assign (.Subscript o i pos) X.env v=(do
   let ov <-holding [v] (eval o X.env)
   let iv <-holding [v,ov] (eval i X.env)
   standAt pos
   holding [v,ov,iv] (setItem ov iv v)
   release [v,ov,iv] []):=by intro _; rfl):PG X (.Subscript o i pos) (Zm3 to ti t):=by
 intro pins s σ H v u Q I r h;rw[ha];refine ZBa (ZCm (thn (ho pins s σ H _ I h) λov s1 ⟨x,H1,I1,r1,q1⟩=>?_));refine ZBa (ZCm (thn (hi pins s1 σ H1 _ I1 q1) λiv s2 ⟨y,H2,I2,r2,q2⟩=>?_));refine ZBa (wpAny_standAt (ZBa (ZCm (thn (hs pins s2 σ H2 x y v ov iv u _ I2 r1 r2 r q2) λ_ s3 ⟨H3,I3,q3⟩=>?_))));exact wpAny_release ⟨σ,H3,I3,q3⟩
def ZyU(te:TE)(g:TG):TS:=λD σ H=>te σ H λx H1=>g x σ H1 D.nx
theorem Zx7{e:Expr}{te:TE}{g:TG}(he:PE X e te)(hg:PG X tg g)(hs:swapsWithSole [tg] e pos.line X.env=pure ZGI:=by rfl)(hw:swappedStores [tg] e X.env=pure Z_:=by rfl)
  (h1:(ZEu [tg] X.env).map (·.2)=[assign tg X.env]:=by rfl):PS X (.Assign [tg] e pos) (ZyU te g):=by
 intro pins s σ H D I h;refine wpAny_Assign_stores (thn (he pins s σ H _ I h) λv s1 ⟨x,H1,I1,r1,q1⟩=>?_) hs hw;rw[h1];exact thn (hg pins s1 σ H1 x v _ I1 r1 q1) λ_ s2 ⟨σ',H',I',q'⟩=>⟨σ',H',I',q'⟩
theorem ZpD{e:Expr}{te:TE}{pos':Pos}(hN:X.N.Nodup)(hi:X.N[i]?=Z x)(hx:Loc X.env.scope x)(he:PE X e te)(hs:ZDM e (Z (.Name x pos')) pos.line X.env=pure ZGI:=by rfl)(hf:X.fn x=ZGH\/X.env.scope.names.lookup x=Z .local:=by first | exact .inl rfl | exact .inr rfl | assumption) :
  PS X (.Assign [.Name x pos'] e pos) (ZyU te (Zwd i)):=by
 intro pins s σ H D I h;refine wpAny_Assign_Name (thn (he pins s σ H _ I h) λv s1 ⟨y,H1,I1,r1,q1⟩=>?_) hs;exact ZpV I1 hN hi hx r1 (λs2 I2=>⟨_,H1,I2,q1⟩) hf
end
section
variable{X:Cx}{pos:Pos}
def Zzr(c:TT)(tb:TS):TS:=λD σ H=>∃W:Nat->St->Hp->Prop,(∃m,W m σ H)/\∀m σ H,W m σ H ->
 c σ H λb H1=>if b=ZGH then ∃N:St->Hp->Prop,(∀σ' H',N σ' H'->∃m',m'<m/\W m' σ' H')/\tb { D with nx:=N,ct:=N,bk:=D.nx } σ H1 else D.nx σ H1
theorem Zvz{tc:TT}{tb:TS}(hp:PassesOwn (model X.prog X.w) X.A X.env X.xe)(hc:PT X c tc)(hb:PSs X body tb):PS X (.While c body [] pos) (Zzr tc tb):=by
 intro pins s σ H D I h;obtain⟨W,⟨m0,w0⟩,turn⟩:=h;refine wpAny_While (codeAny_whileLoop (λn s'=>∃σ' H',Inv X pins σ' H' s'/\W n σ' H') ?_ m0 ⟨σ,H,I,w0⟩)
 rintro n s1 ⟨σ1,H1,I1,w1⟩
 refine ZDy hp (thn (hc pins s1 σ1 H1 _ I1 (turn n σ1 H1 w1)) λb s2 ⟨H2,I2,q2⟩=>?_);cases b with
 | true =>
  obtain⟨N,hN,q2⟩:=q2;rw[if_pos rfl];refine ZDy hp (thn (hb pins s2 σ1 H2 _ I2 q2) λf s3 q3=>?_);cases f with
  | next=>obtain⟨σ3,H3,I3,n3⟩:=q3;obtain⟨m',hm,w3⟩:=hN σ3 H3 n3;exact⟨m',hm,σ3,H3,I3,w3⟩
  | cont=>obtain⟨σ3,H3,I3,n3⟩:=q3;obtain⟨m',hm,w3⟩:=hN σ3 H3 n3;exact⟨m',hm,σ3,H3,I3,w3⟩
  | brk=>exact q3
  | ret v=>exact q3
 | false=>rw[if_neg ZB3];exact ZEY ⟨σ1,H2,I2,q2⟩
end
structure It where
 go:Nat->Hp->Prop
 yld:Nat->Hp->V->Hp->Prop
 stop:Nat->Hp->Prop
def Zf1(X:Cx)(pins:List (Addr × Obj))(H:Hp)(b:Addr):Prop :=
 H b=Z_/\b≠X.env.locals/\b ∉ X.fs/\(b∈X.ex\/X.s₀.heap.objs.size<=b)/\(∀x c,X.env.cells.lookup x=Z c->c≠b)/\∀p∈X.pn++pins,p.1≠b
theorem Inv.fpOk{H':Hp}(I:Inv X pins σ H s)(hb:s.heap.objs.size<=b)(hn:H' b=Z_):Zf1 X pins H' b:=by
 refine⟨hn,ZEo (ZBK I.lt hb),I.nofs hb,.inr (ZCh I.sz hb),λx c e z=>?_,λp hp z=>?_⟩
 ·obtain⟨v,q⟩:=I.cell x c e
  exact absurd (ZBK q.lt (by rw[z]; exact hb)) (ZC1 _)
 ·exact absurd (ZBK (ZBt (I.pin p hp).1) (by rw[z]; exact hb)) (ZC1 _)
structure Turn(P:Program)(w:World)(K:ZBd)(tg:Expr)(J:It)(fp:List Addr)(it:Addr)(tn:Nat->Heap->Prop):Prop where
 mem:it∈fp
 obj:∀i h,tn i h->∀b∈fp,∃o,h.get? b=Z o/\∀v,o.data≠.cell v
 keep:∀i h h',tn i h->(∀b∈fp,∀o,h.get? b=Z o->h'.get? b=Z o)->tn i h'
 item:∀(X:Cx),X.prog=P->X.w=w->X.K=K->X.calm=ZGH->∀(i:Nat) (pins:List (Addr × Obj)) (s:Shared) (σ:St) (H:Hp) (E:Value->Shared->Prop),Inv X pins σ H s->(∀b∈fp,Zf1 X pins H b)->tn i s.heap->J.go i H ->
  wpAny (model P w) X.A (pyNext (.ref it)) (λr s1=>∃u,r=Z u /\
   wpAny (model P w) X.A (ZEZ tg (.ref it) u) (λ_ s2=>∃x H',Inv X pins σ H' s2/\RelV x u/\J.yld i H x H'/\tn (i+1) s2.heap/\∀b∈fp,H' b=Z_) E s1) E s
 done:∀(X:Cx),X.prog=P->X.w=w->X.K=K->X.calm=ZGH->∀(i:Nat) (pins:List (Addr × Obj)) (s:Shared) (σ:St) (H:Hp) (E:Value->Shared->Prop),Inv X pins σ H s->(∀b∈fp,Zf1 X pins H b)->tn i s.heap->J.stop i H ->
  wpAny (model P w) X.A (pyNext (.ref it)) (λr s1=>r=Z_/\Inv X pins σ H s1) E s
 self:∀(A:Around) (i:Nat) (s:Shared) (Q:Value->Shared->Prop) (E:Value->Shared->Prop),tn i s.heap->Q (.ref it) s->wpAny (model P w) A (pyIter (.ref it)) Q E s
abbrev TI:=St->Hp->(It->Hp->Prop)->Prop
def PIE(X:Cx)(pins:List (Addr × Obj))(σ:St)(tg:Expr)(R:It->Hp->Prop)(itv:Value)(s2:Shared):Prop :=
 ∃(it:Addr) (fp:List Addr) (tn:Nat->Heap->Prop) (J:It) (H':Hp),itv=.ref it/\Inv X pins σ H' s2/\Turn X.prog X.w X.K tg J fp it tn/\tn 0 s2.heap/\(∀b∈fp,Zf1 X pins H' b)/\R J H'
def PI(X:Cx)(tg iter:Expr)(wi:TI):Prop :=
 ∀(pins:List (Addr × Obj)) (s:Shared) (σ:St) (H:Hp) (R:It->Hp->Prop),Inv X pins σ H s->wi σ H R ->
  wpAny (model X.prog X.w) X.A (eval iter X.env) (λv s1=>wpAny (model X.prog X.w) X.A (pyIter v) (PIE X pins σ tg R) X.xe s1) X.xe s
theorem Zoi{M:Model}{n:String}{vs:Array Value}{Q:Unit->Shared->Prop}(ho:s.heap.get? it=Z o)(hc:o.cls=.type n)(hd:o.data=.fields vs)
    (hn:["enumerate","zip","dict_itemiterator","dict_reverseitemiterator","odict_iterator","itertools.zip_longest","itertools.pairwise"].contains n=ZGI) (hQ:Q () s):wpAny M A (ZEZ tg (.ref it) u) Q E s:=by
  unfold ZEZ
  cases tg<;>first
    | exact ZBe hQ
    | (cases u<;>first
        | exact ZBe hQ
        | (refine ZBa (wpAny_load ho ?_)
           rw [hc, hd]
           show wpAny M A (if (["enumerate", "zip", "dict_itemiterator", "dict_reverseitemiterator", "odict_iterator", "itertools.zip_longest", "itertools.pairwise"].contains n && vs[0]? == Z (rawInt _)) = ZGH then _ else _) Q E s
           rw [if_neg (by intro h; rw [hn, Bool.false_and] at h; cases h)]
           exact ZBe hQ))
def Itl(K:ZBd)(a:Addr):It :=
 ⟨λi H=>∃xs x,SqL K H a xs/\xs[i]?=Z x,λi H x H'=>H'=H/\∀xs,SqL K H a xs->xs[i]?=Z x,λi H=>∃xs,SqL K H a xs/\xs.length<=i⟩
def Itt(K:ZBd)(a:Addr):It :=
 ⟨λi H=>∃xs x,SqT K H a xs/\xs[i]?=Z x,λi H x H'=>H'=H/\∀xs,SqT K H a xs->xs[i]?=Z x,λi H=>∃xs,SqT K H a xs/\xs.length<=i⟩
def Itr(lo:Int)(n:Nat):It:=⟨λi _=>i<n,λi H x H'=>H'=H/\x=.int (lo+i),λi _=>n<=i⟩
theorem Zuz(a it:Addr):Turn P w K tg (Itl K a) [it] it (λi h=>h.IsListIter it a i) where
 mem:=by simp
 obj:=λi h st b hb=>by
  have e:b=it:=by simpa using hb
  subst e;obtain⟨o,e,c,d⟩:=st;exact⟨o,e,λv z=>by rw[d]at z; cases z⟩
 keep:=λi h h' st k=>st.at λo e=>k it (by simp) o e
 item:=by intro X hP hw hK hc i pins s σ H E I hf st hg;subst hP hw hK;obtain⟨xs,x,hq,hx⟩:=hg;obtain⟨its,rv,p,hz⟩:=I.list hq;obtain⟨u,hu,ru⟩:=rv.get hx;obtain⟨f0,f1,f2,f3,f4,f5⟩:=hf it (by simp);refine wpAny_pyNext_list_item st p.isList (x:=u) (by simpa using hu) λh' st' sb=>?_;have I1:Inv X pins σ H { s with heap:=h' }:=I.turned (t':=s.toks) (λb o hb e=>(sb.2 b hb).trans e) f0 f1 f3 f4 f5;obtain⟨o,e,c,d⟩:=id st';exact⟨u,rfl,Zoi (s:={ s with heap:=h' }) e c d (by decide) ⟨x,H,I1,ru,⟨rfl,λys hy=>by rw[I.list_inj hy hq]; exact hx⟩,st',λb hb=>(hf b hb).1⟩⟩
 done:=by intro X hP hw hK hc i pins s σ H E I hf st hg;subst hP hw hK;obtain⟨xs,hq,hx⟩:=hg;obtain⟨its,rv,p,hz⟩:=I.list hq;obtain⟨f0,f1,f2,f3,f4,f5⟩:=hf it (by simp);have hl:=rv.length;exact wpAny_pyNext_list_end (I.ok.hd hc) st p.isList (by simp; omega) λh' eb=>⟨rfl,I.turned (t':=s.toks) (λb o hb e=>eb b o hb e) f0 f1 f3 f4 f5⟩
 self:=λ_ _ _ _ _ st h=>wpAny_pyIter_listiter st h
theorem Zss(a it:Addr):Turn P w K tg (Itt K a) [it] it (λi h=>h.IsTupleIter it a i) where
 mem:=by simp
 obj:=λi h st b hb=>by
  have e:b=it:=by simpa using hb
  subst e;obtain⟨o,e,c,d⟩:=st;exact⟨o,e,λv z=>by rw[d]at z; cases z⟩
 keep:=λi h h' st k=>st.at λo e=>k it (by simp) o e
 item:=by intro X hP hw hK hc i pins s σ H E I hf st hg;subst hP hw hK;obtain⟨xs,x,hq,hx⟩:=hg;obtain⟨its,rv,p,hz⟩:=I.tuple hq;obtain⟨u,hu,ru⟩:=rv.get hx;obtain⟨f0,f1,f2,f3,f4,f5⟩:=hf it (by simp);refine wpAny_pyNext_tuple_item st (show s.heap.IsTuple a its.toArray from p) (x:=u) (by simpa using hu) λh' st' sb=>?_;have I1:Inv X pins σ H { s with heap:=h' }:=I.turned (t':=s.toks) (λb o hb e=>(sb.2 b hb).trans e) f0 f1 f3 f4 f5;obtain⟨o,e,c,d⟩:=id st';exact⟨u,rfl,Zoi (s:={ s with heap:=h' }) e c d (by decide) ⟨x,H,I1,ru,⟨rfl,λys hy=>by rw[I.tuple_inj hy hq]; exact hx⟩,st',λb hb=>(hf b hb).1⟩⟩
 done:=by intro X hP hw hK hc i pins s σ H E I hf st hg;subst hP hw hK;obtain⟨xs,hq,hx⟩:=hg;obtain⟨its,rv,p,hz⟩:=I.tuple hq;obtain⟨f0,f1,f2,f3,f4,f5⟩:=hf it (by simp);have hl:=rv.length;exact wpAny_pyNext_tuple_end (I.ok.hd hc) st (show s.heap.IsTuple a its.toArray from p) (by simp; omega) λh' eb=>⟨rfl,I.turned (t':=s.toks) (λb o hb e=>eb b o hb e) f0 f1 f3 f4 f5⟩
 self:=λ_ _ _ _ _ st h=>wpAny_pyIter_tupleiter st h
theorem ZsC(it:Addr)(lo:Int)(n:Nat):Turn P w K tg (Itr lo n) [it] it (λi h=>IsRangeIter h it (lo+(i:Nat)*1) ((n:Int)-(i:Nat)) 1) where
 mem:=by simp
 obj:=λi h st b hb=>by
  have e:b=it:=by simpa using hb
  subst e;exact⟨_,st,λv z=>by have z':Data.fields _=Data.cell v:=z;cases z'⟩
 keep:=λi h h' st k=>k it (by simp) _ st
 item:=by intro X hP hw hK hc i pins s σ H E I hf st hg;subst hP hw hK;obtain⟨f0,f1,f2,f3,f4,f5⟩:=hf it (by simp);have W:=Walks.range (prog:=X.prog) (w:=X.w) (I.ok.hd hc) it lo 1 n;refine W.item i s _ _ hg st λv h' tk hv st' kk=>?_;obtain⟨t,rfl⟩:=hv;have I1:Inv X pins σ H { s with heap:=h',toks:=tk }:=I.turned (λb o hb e=>kk b o (by simpa using hb) e) f0 f1 f3 f4 f5;refine⟨_,rfl,Zoi (s:={ s with heap:=h',toks:=tk }) (n:="range_iterator") st' rfl rfl (by decide) ⟨.int (lo+i),H,I1,⟨t,?_⟩,⟨rfl,rfl⟩,st',λb hb=>(hf b hb).1⟩⟩;rw[Int.mul_one]
 done:=by intro X hP hw hK hc i pins s σ H E I hf st hg;subst hP hw hK;obtain⟨f0,f1,f2,f3,f4,f5⟩:=hf it (by simp);exact wpAny_pyNext_range_end (I.ok.hd hc) st (by have:n<=i:=hg; omega) λh' eb=>⟨rfl,I.turned (t':=s.toks) (λb o hb e=>eb b o hb e) f0 f1 f3 f4 f5⟩
 self:=λ_ _ _ _ _ st h=>wpAny_pyIter_rangeiter st h
end
section
section
variable{X:Cx}{tg:Expr}
theorem Zvt{R:It->Hp->Prop}{lo hi:Int}{t u v:Tok}{tk:Nat}(I:Inv X pins σ H s)(h1:-(2 ^ 62)<=lo)(h2:lo<2 ^ 62)(h3:-(2 ^ 62)<=hi)(h4:hi<2 ^ 62)
  (q:R (Itr lo (hi-lo).toNat) H):wpAny (model X.prog X.w) X.A (pyIter (.ref s.heap.objs.size)) (PIE X pins σ tg R) E { s with heap:=s.heap.push { cls:=.type "range",data:=.fields #[.int lo t,.int hi u,.int 1 v] },toks:=tk }:=by
 refine wpAny_pyIter_range (IsRange.new ..) (small_one h1 h2 h3 h4) ?_;have I1:Inv X pins σ H { s with heap:=s.heap.push { cls:=.type "range",data:=.fields #[.int lo t,.int hi u,.int 1 v] },toks:=tk }:=I.kept λb o e=>ZBg _ e;refine⟨(s.heap.push { cls:=.type "range",data:=.fields #[.int lo t,.int hi u,.int 1 v] }).objs.size,[(s.heap.push { cls:=.type "range",data:=.fields #[.int lo t,.int hi u,.int 1 v] }).objs.size],_,_,H,rfl,
  I1.kept (t':=tk) λb o e=>ZBg _ e,ZsC _ lo (hi-lo).toNat,?_,λb hb=>?_,q⟩
 ·have e1:lo+((0:Nat):Int)*1=lo:=by simp
  have e2:(((hi-lo).toNat:Nat):Int)-((0:Nat):Int)=ZDT lo hi 1:=by rw[rangeSize_one]; split<;>omega
  show IsRangeIter _ _ (lo+((0:Nat):Int)*1) ((((hi-lo).toNat:Nat):Int)-((0:Nat):Int)) 1;rw[e1,e2];exact ZBw _ rfl
 ·have e:b=(s.heap.push { cls:=.type "range",data:=.fields #[.int lo t,.int hi u,.int 1 v] }).objs.size:=by simpa using hb
  subst e;exact I1.fpOk (ZBl _) (I1.hok.fresh (ZBl _))
def ZbI(ta:TA):TI:=λσ H R=>ta σ H λvs H1=>∃j:Int,vs=[.int j]/\-(2 ^ 62)<=j/\j<2 ^ 62/\R (Itr 0 j.toNat) H1
theorem ZtN{a:Expr}{ta:TA}{p:Pos}(hg:Gl X "range")(hm:X.mg "range" = Z_)(ha:PA X [a] ta)(hs:ZBp [a] X.env=[(ZGI,eval a X.env)]:=by rfl):PI X tg (.Call (.Name "range" p) [a] [] pos) (ZbI ta):=by
 intro pins s σ H R I h;refine Call_ (Zid I hg hm boot_range (ZEc (thn (ha pos pins s σ H _ I h) λus s1 ⟨vs,H1,I1,r1,q1⟩=>?_) hs rfl));obtain⟨j,e,q1,q2,q⟩:=q1;subst e;cases r1 with
 | cons r rr=>cases rr;obtain⟨t,rfl⟩:=r;exact call_range_1 (Zvt I1 (by omega) (by omega) q1 q2 (by simpa using q))
def ZAA(wi:TI)(g:TG)(tb:TS):TS:=λD σ H=>wi σ H λJ H1=>∃W:Nat->Nat->St->Hp->Prop,(∃m,W 0 m σ H1)/\∀i m σ H,W i m σ H ->
 (J.stop i H/\D.nx σ H)\/(J.go i H/\∃N:St->Hp->Prop,(∀σ' H',N σ' H'->∃m',m'<m/\W (i+1) m' σ' H')/\∀x H',J.yld i H x H'->g x σ H' λσ2 H2=>tb { D with nx:=N,ct:=N,bk:=D.nx } σ2 H2)
def ZjU(fp:List Addr)(h:Heap):List (Addr × Obj):=fp.filterMap λb=>(h.get? b).map λo=>(b,o)
theorem Zgm(hb:b∈fp)(e:h.get? b=Z o):(b,o)∈ZjU fp h:=ZBU.mpr ⟨b,hb,by rw[e]; rfl⟩
theorem ZtY{p:Addr × Obj}(hp:p∈ZjU fp h):p.1∈fp/\h.get? p.1=Z p.2:=by
 obtain⟨b,hb,e⟩:=ZBU.mp hp;cases q:h.get? b with
 | none=>rw[q]at e; cases e
 | some o=>rw[q]at e;have e':(b,o)=p:=ZCa e;subst e';exact⟨hb,q⟩
theorem Inv.pinned(I:Inv X pins σ H s)(hf:∀b∈fp,Zf1 X pins H b)(ho:∀b∈fp,∃o,s.heap.get? b=Z o/\∀v,o.data≠.cell v):Inv X (pins++ZjU fp s.heap) σ H s :=
 I.pins_of λp hp=>(ZBI.mp hp).elim (λz=>I.pin p (ZBE _ z)) λz=>by obtain⟨hb,e⟩:=ZtY z;obtain⟨f0,f1,f2,_⟩:=hf p.1 hb;obtain⟨o,e',d⟩:=ho p.1 hb;rw[e]at e'; cases e';exact⟨e,f0,f1,f2,d⟩
theorem Inv.unpinned{pl:List (Addr × Obj)}(I:Inv X (pins++pl) σ H s):Inv X pins σ H s:=I.pins_of λp hp=>I.pin p (ZBE _ (ZB6 _ hp))
theorem Zy4{iter:Expr}{wi:TI}{g:TG}{tb:TS}(hp:PassesOwn (model X.prog X.w) X.A X.env X.xe)(hc:X.calm=ZGH)(hi:PI X tg iter wi)(hg:PG X tg g)(hb:PSs X body tb)
  (hs:∀x,ZC2 iter X.env x=pure x:=by intro _; rfl):PS X (.For tg iter body [] pos) (ZAA wi g tb):=by
 intro pins s σ H D I h;refine wpAny_For (thn (hi pins s σ H _ I h) λv s1 h1=>thn h1 λitv s2 h2=>?_) hs;obtain⟨it,fp,tn,J,H2,e,I2,T,st2,f2,W,⟨m0,w0⟩,turn⟩:=h2;subst e;have stat:∀{H':Hp},(∀b∈fp,H' b=Z_)->∀b∈fp,Zf1 X pins H' b:=λhn b hb=>⟨hn b hb,(f2 b hb).2⟩;refine codeAny_forLoop_any (λn s'=>∃i σ' H',Inv X pins σ' H' s'/\tn i s'.heap/\(∀b∈fp,H' b=Z_)/\W i n σ' H') ?_ m0 ⟨0,σ,H2,I2,st2,λb hb=>(f2 b hb).1,w0⟩
 rintro n s3 ⟨i,σ3,H3,I3,st3,fr3,w3⟩
 rcases turn i n σ3 H3 w3 with⟨stop,qn⟩ | ⟨go,N,hN,step⟩
 ·refine ZDy hp (thn (T.done X rfl rfl rfl hc i pins s3 σ3 H3 X.xe I3 (stat fr3) st3 stop) λr s4 ⟨hr,I4⟩=>?_)
  subst hr;exact ZEY ⟨σ3,H3,I4,qn⟩
 ·refine ZDy hp (thn (T.item X rfl rfl rfl hc i pins s3 σ3 H3 X.xe I3 (stat fr3) st3 go) λr s4 ⟨u,hr,h4⟩=>?_)
  subst hr;refine ZDy hp (thn h4 λ_ s5 ⟨x,H5,I5,r5,y5,st5,fr5⟩=>?_);have I5':=I5.pinned (stat fr5) (T.obj _ _ st5);refine ZDy hp (thn (hg _ s5 σ3 H5 x u _ I5' r5 (step x H5 y5)) λ_ s6 ⟨σ6,H6,I6,q6⟩=>?_);refine ZDy hp (thn (hb _ s6 σ6 H6 _ I6 q6) λf s7 q7=>?_);have again:∀{σ7:St} {H7:Hp},Inv X (pins++ZjU fp s5.heap) σ7 H7 s7->N σ7 H7->∃m,m<n/\∃i σ' H',Inv X pins σ' H' s7/\tn i s7.heap/\(∀b∈fp,H' b=Z_)/\W i m σ' H':=λ{σ7 H7} I7 n7=>by obtain⟨m',hm,w7⟩:=hN σ7 H7 n7;refine⟨m',hm,i+1,σ7,H7,I7.unpinned,T.keep _ _ _ st5 λb hb o e=>(I7.pin (b,o) (ZBE _ (ZBE _ (Zgm hb e)))).1,λb hb=>?_,w7⟩;obtain⟨o,e,d⟩:=T.obj _ _ st5 b hb;exact(I7.pin (b,o) (ZBE _ (ZBE _ (Zgm hb e)))).2.1
  cases f with
  | next=>obtain⟨σ7,H7,I7,n7⟩:=q7; exact again I7 n7
  | cont=>obtain⟨σ7,H7,I7,n7⟩:=q7; exact again I7 n7
  | brk=>obtain⟨σ7,H7,I7,q7⟩:=q7; exact⟨σ7,H7,I7.unpinned,q7⟩
  | ret v=>obtain⟨x7,σ7,H7,I7,r7,q7⟩:=q7; exact⟨x7,σ7,H7,I7.unpinned,r7,q7⟩
end
end
section
abbrev R2:=V->V->Hp->VK->Prop
def OpR(X:Cx)(f:Value->Value->Sem Value)(r:R2):Prop :=
 ∀(pins:List (Addr × Obj)) (s:Shared) (σ:St) (H:Hp) (x y:V) (v u:Value) (Q:VK),Inv X pins σ H s->RelV x v->RelV y u->r x y H Q ->
  wpAny (model X.prog X.w) X.A (f v u) (EP X pins σ Q) X.xe s
def ZaO(X:Cx)(f:Value)(r:List V->Hp->VK->Prop):Prop :=
 ∀(pins:List (Addr × Obj)) (s:Shared) (σ:St) (H:Hp) (xs:List V) (us:List Value) (Q:VK),Inv X pins σ H s->Vals xs us->r xs H Q ->
  wpAny (model X.prog X.w) X.A (call f us) (EP X pins σ Q) X.xe s
def tOp(r:R2)(ta tb:TE):TE:=λσ H Q=>ta σ H λx H1=>tb σ H1 λy H2=>r x y H2 Q
def rI(C:Int->Int->Prop)(g:Int->Int->V):R2:=λx y H Q=>∃i j,x=.int i/\y=.int j/\C i j/\Q (g i j) H
def rI0(g:Int->Int->V):R2:=λx y H Q=>∃i j,x=.int i/\y=.int j/\Q (g i j) H
section
variable{X:Cx}{a b c:Expr}{ta tb tc:TE}{pos:Pos}
theorem Zu4(ha:PE X a ta)(hb:PE X b tb){R:V->V->Hp->Prop}(I:Inv X pins σ H s)
  (h:ta σ H λx H1=>tb σ H1 λy H2=>R x y H2) {Q:Value->Shared->Prop} {f:Value->Value->Sem Value}
  (hf:∀v u s2 x y H2,Inv X pins σ H2 s2->RelV x v->RelV y u->R x y H2->wpAny (model X.prog X.w) X.A (f v u) Q X.xe s2) :
  wpAny (model X.prog X.w) X.A (eval a X.env) (λv s₁=>wpAny (model X.prog X.w) X.A (eval b X.env) (λu s₂=>wpAny (model X.prog X.w) X.A (f v u) Q X.xe s₂) X.xe s₁) X.xe s:=by
 refine thn (ha pins s σ H _ I h) λv s1 ⟨x,H1,I1,r1,q1⟩=>?_;refine thn (hb pins s1 σ H1 _ I1 q1) λu s2 ⟨y,H2,I2,r2,q2⟩=>?_;exact hf v u s2 x y H2 I2 r1 r2 q2
theorem Zmi{op:Operator}{r:R2}(ho:OpR X (ZDO op) r)(ha:PE X a ta)(hb:PE X b tb):PE X (.BinOp a op b pos) (tOp r ta tb):=by intro pins s σ H Q I h;exact wpAny_BinOp (Zu4 ha hb I h λv u s2 x y H2 I2 rx ry q=>ho pins s2 σ H2 x y v u Q I2 rx ry q)
theorem opI{f:Value->Value->Sem Value}{C:Int->Int->Prop}
  (rule:∀(i j:Int) (t u:Tok) (s:Shared) (Q:Value->Shared->Prop) (E:Value->Shared->Prop),C i j->Q (.int (g i j) s.toks) { s with toks:=s.toks+1 }->wpAny (model X.prog X.w) X.A (f (.int i t) (.int j u)) Q E s) :
  OpR X f (rI C λi j=>.int (g i j)):=by
 intro pins s σ H x y v u Q I rx ry h;obtain⟨i,j,rfl,rfl,hc,q⟩:=h;obtain⟨t,rfl⟩:=rx;obtain⟨t',rfl⟩:=ry;exact rule i j t t' s _ _ hc ⟨.int (g i j),H,I.tok _,⟨_,rfl⟩,q⟩
theorem Zyj{f:Value->Value->Sem Value}
  (rule:∀(i j:Int) (t u:Tok) (s:Shared) (Q:Value->Shared->Prop) (E:Value->Shared->Prop),Q (.int (g i j) s.toks) { s with toks:=s.toks+1 }->wpAny (model X.prog X.w) X.A (f (.int i t) (.int j u)) Q E s) :
  OpR X f (rI0 λi j=>.int (g i j)):=by
 intro pins s σ H x y v u Q I rx ry h;obtain⟨i,j,rfl,rfl,q⟩:=h;obtain⟨t,rfl⟩:=rx;obtain⟨t',rfl⟩:=ry;exact rule i j t t' s _ _ ⟨.int (g i j),H,I.tok _,⟨_,rfl⟩,q⟩
theorem Zs1{f:Value->Value->Sem Value}{g:Int->Int->Bool}
  (rule:∀(i j:Int) (t u:Tok) (s:Shared) (Q:Value->Shared->Prop) (E:Value->Shared->Prop),Q (.bool (g i j)) s->wpAny (model X.prog X.w) X.A (f (.int i t) (.int j u)) Q E s) :
  OpR X f (rI0 λi j=>.bl (g i j)):=by
 intro pins s σ H x y v u Q I rx ry h;obtain⟨i,j,rfl,rfl,q⟩:=h;obtain⟨t,rfl⟩:=rx;obtain⟨t',rfl⟩:=ry;exact rule i j t t' s _ _ ⟨.bl (g i j),H,I,rfl,q⟩
def ZsA(i j:Int):Prop:=(-(2 ^ 64)<i/\i<2 ^ 64)\/(-(2 ^ 64)<j/\j<2 ^ 64)
theorem ZsA.ok{i j:Int}(h:ZsA i j):IntMulOk i j:=by
 rcases h with⟨h1,h2⟩ | ⟨h1,h2⟩
 ·exact .of_left (intBits_le_64 h1 h2)
 ·exact .of_right (intBits_le_64 h1 h2)
theorem Zyk:OpR X (ZDO .Add) (rI0 λi j=>.int (i+j)):=Zyj λ_ _ _ _ _ _ _ q=>add_int q
theorem Zzn:OpR X (ZDO .Sub) (rI0 λi j=>.int (i-j)):=Zyj λ_ _ _ _ _ _ _ q=>sub_int q
theorem ZyI:OpR X (ZDO .Mult) (rI ZsA λi j=>.int (i*j)):=opI λ_ _ _ _ _ _ _ hc q=>mul_int q hc.ok
theorem ZyD:OpR X (ZDO .Mod) (rI (λ_ j=>0<j) λi j=>.int (i % j)):=opI λi j _ _ _ _ _ hc q=>by have h1:(0:Int)<j:=hc;exact mod_int' (by omega) (by rw[Int.fmod_eq_emod_of_nonneg i (by omega)]; exact q)
end
section
variable{X:Cx}{a b c:Expr}{ta tb tc:TE}{pos:Pos}
theorem Ztr{Q:VK}{k k':Bool}(I:Inv X pins σ H s)(q:Q (.bl k) H)(e:k=k'):EP X pins σ Q (.bool k') s:=by subst e;exact⟨.bl k,H,I,rfl,q⟩
theorem ZzC:OpR X (ZCx .Lt) (rI0 λi j=>.bl (decide (i<j))):=Zs1 λ_ _ _ _ _ _ _ q=>lt_int q
theorem ZzJ:OpR X (ZCx .LtE) (rI0 λi j=>.bl (decide (i<=j))):=Zs1 λ_ _ _ _ _ _ _ q=>le_int q
theorem ZzN:OpR X (ZCx .Gt) (rI0 λi j=>.bl (decide (j<i))):=Zs1 λ_ _ _ _ _ _ _ q=>gt_int q
theorem ZzI:OpR X (ZCx .GtE) (rI0 λi j=>.bl (decide (j<=i))):=Zs1 λ_ _ _ _ _ _ _ q=>ge_int q
theorem Zzo:OpR X (ZCx .Is) (λx y H Q=>y=.non/\Q (.bl (decide (x=.non))) H):=by
 intro pins s σ H x y v u Q I rx ry h;obtain⟨rfl,q⟩:=h;cases ry;refine is_none_gen (Ztr I q ?_);cases x<;>first
  | (cases rx; rfl)
  | (obtain⟨t,rfl⟩:=rx; rfl)
theorem ZwN:OpR X (ZCx .IsNot) (λx y H Q=>y=.non/\Q (.bl (!decide (x=.non))) H):=by
 intro pins s σ H x y v u Q I rx ry h;obtain⟨rfl,q⟩:=h;cases ry;refine isnot_none_gen (Ztr I q ?_);cases x<;>first
  | (cases rx; rfl)
  | (obtain⟨t,rfl⟩:=rx; rfl)
theorem ZrO{op:CmpOp}{r:R2}(ho:OpR X (ZCx op) r)(ha:PE X a ta)(hb:PE X b tb)(hm:ZDo op b=ZGI):PE X (.Compare a [op] [b] pos) (tOp r ta tb):=by intro pins s σ H Q I h;exact wpAny_Compare1 (Zu4 ha hb I h λv u s2 x y H2 I2 rx ry q=>ho pins s2 σ H2 x y v u Q I2 rx ry q) hm
def Zwg(t:TE):TT:=λσ H Q=>t σ H λx H'=>∃k,x=.bl k/\Q k H'
theorem ZwP{op:CmpOp}{r:R2}(ho:OpR X (ZCx op) r)(ha:PE X a ta)(hb:PE X b tb)(hm:ZDo op b=ZGI):PT X (.Compare a [op] [b] pos) (Zwg (tOp r ta tb)):=by intro pins s σ H Q I h;refine wpAny_isTrue_Compare1 (thn (ha pins s σ H _ I h) λv s1 ⟨x,H1,I1,r1,q1⟩=>thn (hb pins s1 σ H1 _ I1 q1) λu s2 ⟨y,H2,I2,r2,q2⟩=>thn (ho pins s2 σ H2 x y v u _ I2 r1 r2 q2) λc s3 ⟨z,H3,I3,r3,k,e,q3⟩=>?_) hm;subst e;cases r3;exact ZCI ⟨H3,I3,q3⟩
def ZtC(r r':R2)(ta tb tc:TE):TE:=λσ H Q=>ta σ H λx H1=>tb σ H1 λy H2=>r x y H2 λz H3=>∃k,z=.bl k /\
 (if k=ZGH then tc σ H3 λw' H4=>r' y w' H4 Q else Q (.bl ZGI) H3)
theorem Zo3{op op':CmpOp}{r r':R2}(ho:OpR X (ZCx op) r)(ho':OpR X (ZCx op') r')(ha:PE X a ta)(hb:PE X b tb)(hc:PE X c tc)
  (hm:lastMarks [op,op'] [b,c]=ZGI:=by with_unfolding_all rfl):PE X (.Compare a [op,op'] [b,c] pos) (ZtC r r' ta tb tc):=by
 intro pins s σ H Q I h;refine Compare_chain (thn (ha pins s σ H _ I h) λv s1 ⟨x,H1,I1,r1,q1⟩=>chain_link (thn (hb pins s1 σ H1 _ I1 q1) λu s2 ⟨y,H2,I2,r2,q2⟩=>thn (ho pins s2 σ H2 x y v u _ I2 r1 r2 q2) λd s3 ⟨z,H3,I3,r3,k,e,q3⟩=>?_)) hm;subst e;cases r3;refine ZCI ?_;cases k with
 | false=>exact ite_ff ⟨.bl ZGI,H3,I3,rfl,q3⟩
 | true=>exact ite_tt (chain_last (thn (hc pins s3 σ H3 _ I3 q3) λw' s4 ⟨z',H4,I4,r4,q4⟩=>ho' pins s4 σ H4 y z' u w' Q I4 r2 r4 q4))
theorem Zpa{op op':CmpOp}{r r':R2}(ho:OpR X (ZCx op) r)(ho':OpR X (ZCx op') r')(ha:PE X a ta)(hb:PE X b tb)(hc:PE X c tc)
  (hm:lastMarks [op,op'] [b,c]=ZGI:=by with_unfolding_all rfl):PT X (.Compare a [op,op'] [b,c] pos) (Zwg (ZtC r r' ta tb tc)):=by
 intro pins s σ H Q I h;refine isTrue_chain (thn (ha pins s σ H _ I h) λv s1 ⟨x,H1,I1,r1,q1⟩=>test_link (thn (hb pins s1 σ H1 _ I1 q1) λu s2 ⟨y,H2,I2,r2,q2⟩=>thn (ho pins s2 σ H2 x y v u _ I2 r1 r2 q2) λd s3 ⟨z,H3,I3,r3,k,e,q3⟩=>?_)) hm;subst e;cases r3;refine ZCI ?_;cases k with
 | false=>obtain⟨k',e',q'⟩:=q3;cases e';exact ite_ff ⟨H3,I3,q'⟩
 | true=>refine ite_tt (test_last (thn (hc pins s3 σ H3 _ I3 q3) λw' s4 ⟨z',H4,I4,r4,q4⟩=>thn (ho' pins s4 σ H4 y z' u w' _ I4 r2 r4 q4) λd' s5 ⟨z2,H5,I5,r5,k2,e2,q5⟩=>?_));subst e2;cases r5;exact ZCI ⟨H5,I5,q5⟩
theorem ZjN:(sizeLine:Nat)<2 ^ 63:=by rw[ZCN]; decide
theorem vals1{x:V}(r:Vals [x] us):∃u,us=[u]/\RelV x u:=by
 cases r with
 | cons r1 r2=>cases r2; exact⟨_,rfl,r1⟩
theorem vals2{x y:V}(r:Vals [x,y] us):∃u w',us=[u,w']/\RelV x u/\RelV y w':=by
 cases r with
 | cons r1 r2 =>
  cases r2 with
  | cons r3 r4=>cases r4; exact⟨_,_,rfl,r1,r3⟩
theorem Zun(hc:X.calm=ZGH):ZaO X (.builtin "max") (λxs H Q=>∃i j,xs=[.int i,.int j]/\Q (.int (if j > i then j else i)) H):=by
 intro pins s σ H xs us Q I r h;obtain⟨i,j,rfl,q⟩:=h;obtain⟨u,w',rfl,⟨t,rfl⟩,⟨t',rfl⟩⟩:=vals2 r;refine max_two_ints (I.ok.hd hc) λh' tk k=>⟨_,H,I.kept k,?_,q⟩
 by_cases hj:j > i
 ·rw[if_pos hj,if_pos hj]; exact⟨_,rfl⟩
 ·rw[if_neg hj,if_neg hj]; exact⟨_,rfl⟩
theorem Zt2(hc:X.calm=ZGH):ZaO X (.builtin "min") (λxs H Q=>∃i j,xs=[.int i,.int j]/\Q (.int (if j<i then j else i)) H):=by
 intro pins s σ H xs us Q I r h;obtain⟨i,j,rfl,q⟩:=h;obtain⟨u,w',rfl,⟨t,rfl⟩,⟨t',rfl⟩⟩:=vals2 r;refine min_two_ints (I.ok.hd hc) λh' tk k=>⟨_,H,I.kept k,?_,q⟩
 by_cases hj:j<i
 ·rw[if_pos hj,if_pos hj]; exact⟨_,rfl⟩
 ·rw[if_neg hj,if_neg hj]; exact⟨_,rfl⟩
theorem ZnD:ZaO X (.type "int") (λxs H Q=>(∃i,xs=[.int i]/\Q (.int i) H)\/∃k,xs=[.bl k]/\Q (.int (if k then 1 else 0)) H):=by
 intro pins s σ H xs us Q I r h;rcases h with⟨i,rfl,q⟩ | ⟨k,rfl,q⟩
 ·obtain⟨u,rfl,t,rfl⟩:=vals1 r
  exact call_int_int ⟨.int i,H,I,⟨_,rfl⟩,q⟩
 ·obtain⟨u,rfl,r1⟩:=vals1 r
  cases r1;exact call_int_bool ⟨.int (if k then 1 else 0),H,I.tok _,⟨_,rfl⟩,q⟩
end
end
section
theorem Zf3.some_of{v:V}{o:Option Value}(r:Zf3 (Z v) o):∃u,o=Z u/\RelV v u:=by
 cases o with
 | none=>exact(show False from r).elim
 | some u=>exact⟨u,rfl,r⟩
end
section
structure Zav(k:Nat)(A:Around):Prop where
 hd:A.handled=Z_
 dp:A.depth+3*k+5<recursionLimit
 un:A.units+16*k+200<cLine
theorem Zav.mono{j k:Nat}{A:Around}(r:Zav k A)(h:j<=k):Zav j A:=⟨r.hd,by have:=r.dp; omega,by have:=r.un; omega⟩
theorem Zav.deeper{k:Nat}{A:Around}(r:Zav (k+1) A)(env:Env):Zav k (A.deeper env) :=
 ⟨r.hd,by have:=r.dp; show A.depth+1+3*k+5<_; omega,by have:=r.un; show A.units+3+16*k+200<_; omega⟩
theorem Zav.depth{k:Nat}{A:Around}(r:Zav k A):A.depth<recursionLimit:=by have:=r.dp; omega
theorem Zav.units{k:Nat}{A:Around}(r:Zav k A):A.units+64<cLine:=by have:=r.un; omega
def ZAm:TA:=λ_ H Q=>Q [] H
def ZzK(ta:TE)(tr:TA):TA:=λσ H Q=>ta σ H λx H1=>tr σ H1 λxs H2=>Q (x::xs) H2
section
variable{X:Cx}{e:Expr}{es:List Expr}{te:TE}{t:TA}{pos:Pos}
theorem Zca:PA X [] ZAm:=λ_ _ _ _ H Q I h=>ZFE ⟨[],H,I,.nil,h⟩
theorem ZaL(ha:PE X e te)(hr:PA X es t)(hs:ZBp (e::es) X.env=(ZGI,eval e X.env)::ZBp es X.env:=by rfl):PA X (e::es) (ZzK te t):=by intro pos pins s σ H Q I h;rw[hs];show wpAny _ _ (spliced ((ZGI,eval e X.env)::backTo pos (ZBp es X.env))) _ _ s;refine ZEp (thn (ha pins s σ H _ I h) λu s1 ⟨x,H1,I1,r1,q1⟩=>?_);exact thn (hr pos pins s1 σ H1 _ I1 q1) λus s2 ⟨xs,H2,I2,r2,q2⟩=>⟨x::xs,H2,I2,.cons r1 r2,q2⟩
def ZAN(t:TA):TE:=λσ H Q=>t σ H λxs H1=>xs.length<=sizeLine/\∀p,H1 p=Z_->Q (.ref p) (upd H1 p (.tup xs))
def ZAw(t:TA):TE:=λσ H Q=>t σ H λxs H1=>xs.length<=sizeLine/\∀p,H1 p=Z_->Q (.ref p) (upd H1 p (.lst xs))
theorem ZyA{x1}(h:PA X es t):PE X (.Tuple es x1 pos) (ZAN t):=by intro pins s σ H Q I hq;refine wpAny_Tuple_spliced (thn (h pos pins s σ H _ I hq) λus s1 ⟨xs,H1,I1,r,z,q⟩=>⟨by rw[<-r.length]; exact z,?_⟩);have hf:H1 s1.heap.objs.size=Z_:=I1.hok.fresh (ZBl _);refine⟨.ref s1.heap.objs.size,upd H1 s1.heap.objs.size (.tup xs),I1.laid (t':=s1.toks) (λb u e=>ZBg _ e) (ZBl _) ?_,rfl,q _ hf⟩;exact⟨z,us,r,⟨_,ZBw _ rfl,rfl,_,rfl⟩⟩
theorem Zyw(h:PA X es t):PE X (.List es pos) (ZAw t):=by intro pins s σ H Q I hq;refine wpAny_List_spliced (thn (h pos pins s σ H _ I hq) λus s1 ⟨xs,H1,I1,r,z,q⟩=>⟨by rw[<-r.length]; exact z,?_⟩);have hf:H1 s1.heap.objs.size=Z_:=I1.hok.fresh (ZBl _);refine⟨.ref s1.heap.objs.size,upd H1 s1.heap.objs.size (.lst xs),I1.laid (t':=s1.toks) (λb u e=>ZBg _ e) (ZBl _) ?_,rfl,q _ hf⟩;exact⟨z,us,0,r,ZBw _ rfl⟩
end
abbrev Sp:=List V->Hp->VK->XK->Prop
abbrev CXT:=List Env->Hp->Shared->XK->Value->Shared->Prop
structure Zfp(P:Program)(w:World)(K:ZBd)(mg:Str->Option Value)(base:Heap)(A:Around)(outer:List Env)(s:Shared)(H:Hp):Prop where
 frames:A.frames=Z outer
 mod:Mod K mg base
 bs:∀b o,base.get? b=Z o->s.heap.get? b=Z o/\H b=Z_
 bsz:base.objs.size<=s.heap.objs.size
 funs:s.heap.FunFrames base outer
 frf:∀b∈frs outer,H b=Z_
 hok:HOk P w H s.heap
 bare:AllBare s.gens
def CE(outer:List Env)(P:Program)(w:World)(H:Hp)(s:Shared)(Q:VK)(u:Value)(s':Shared):Prop :=
 ∃v H',s'.os=s.os/\AllBare s'.gens/\Un (frs outer) [] H H' s.heap s'.heap/\HOk P w H' s'.heap/\RelV v u/\Q v H'
def CR(CX:CXT)(outer:List Env)(P:Program)(w:World)(H:Hp)(s:Shared)(Q:VK)(E:XK)(r:Result)(s':Shared):Prop :=
 match r with
 | .ok (.ret u)=>CE outer P w H s Q u s'
 | .ok _=>False
 | .error e=>CX outer H s E e s'
structure ZdH(P:Program)(w:World)(K:ZBd)(mg:Str->Option Value)(base:Heap)(CX:CXT)(k:Nat)(f:Addr)(fd:FuncData)(ps:List Str)(sp:Sp):Prop where
 len:∀vs H Q E,sp vs H Q E->vs.length=ps.length
 run:∀(A:Around) (outer:List Env) (s:Shared) (H:Hp) (args:Args) (us:List Value) (vs:List V) (Q:VK) (E:XK),Zav k A->Zfp P w K mg base A outer s H->BindsTo s fd args (ps.zip us)->Vals vs us->sp vs H Q E ->
  codeAny (model P w) A (.call (.ref f) args) (CR CX outer P w H s Q E) s
theorem ZdH.mono{P:Program}{w:World}{K:ZBd}{mg:Str->Option Value}{base:Heap}{CX:CXT}{j k:Nat}{f:Addr}{fd:FuncData}{ps:List Str}{sp:Sp}(F:ZdH P w K mg base CX j f fd ps sp)(h:j<=k) :
  ZdH P w K mg base CX k f fd ps sp:=⟨F.len,λA outer s H args us vs Q E hr=>F.run A outer s H args us vs Q E (hr.mono h)⟩
section
variable{X:Cx}{pins:List (Addr × Obj)}{σ:St}{H:Hp}{s s':Shared}
theorem Inv.env0(I:Inv X pins σ H s):Zfp X.prog X.w X.K X.mg X.base X.A X.stack s H :=
 ⟨I.ok.frames,I.ok.mod,I.bs,ZCh I.ok.bsz I.sz,I.stack,I.stkFree,I.hok,I.bare⟩
theorem Inv.after{Q:VK}(I:Inv X pins σ H s)(h:CE X.stack X.prog X.w H s Q u s'):EP X pins σ Q u s':=by obtain⟨v,H',os,bare,un,hok,r,q⟩:=h;obtain⟨hh,g,d,t,os'⟩:=s';obtain rfl:os'=s.os:=os;exact⟨v,H',I.call (h':=hh) (g':=g) (d':=d) (t':=t) (ch:=[]) un hok bare (λb z=>absurd z (by simp)),r,q⟩
end
noncomputable def ZzP (sp:Sp) (dvs:List V) (E:XK) (t:TA):TE:=λσ H Q=>t σ H λvs H1=>sp (vs++dvs) H1 Q E
def Binds(K:ZBd)(fd:FuncData)(ps:List Str)(ds:List Value):Prop :=
 ∀(s:Shared) (us:List Value),K.In s.heap->(us++ds).length=ps.length->BindsTo s fd ⟨us,[]⟩ (ps.zip (us++ds))
theorem Binds.all{fd:FuncData}(h:∀us:List Value,us.length=ps.length->bindArgs fd ⟨us,[]⟩=pure (ps.zip us)):Binds K fd ps []:=λs us _ hl=>by rw[ZBW]at hl ⊢;exact .of_eq (h us hl)
def Passes(CX:CXT)(X:Cx)(E:XK):Prop:=∀(pins:List (Addr × Obj)) (σ:St) (H:Hp) (s:Shared) (e:Value) (s':Shared),Inv X pins σ H s->CX X.stack H s E e s'->X.xe e s'
section
variable{X:Cx}{CX:CXT}{k:Nat}{f C:Addr}{fd:FuncData}{ps:List Str}{sp:Sp}{dvs:List V}{ds:List Value}{E:XK}{x m:Str}{p pos apos:Pos}{e o:Expr}{es:List Expr}{ta:TE}{t:TA}
theorem Zze{Q:VK}(F:ZdH X.prog X.w X.K X.mg X.base CX k f fd ps sp)(hr:Zav k X.A)(hb:Binds X.K fd ps ds)(hd:Vals dvs ds)(hx:Passes CX X E)
  (I:Inv X pins σ H s) (r:Vals vs us) (h:sp (vs++dvs) H Q E):wpAny (model X.prog X.w) X.A (call (.ref f) us) (EP X pins σ Q) X.xe s:=by
 have r2:Vals (vs++dvs) (us++ds):=r.append hd;have hl:(us++ds).length=ps.length:=by rw[<-r2.length]; exact F.len _ _ _ _ h
 refine ZFJ (ZDi (F.run X.A X.stack s H ⟨us,[]⟩ (us++ds) (vs++dvs) Q E hr I.env0 (hb s us I.kIn hl) r2 h) λr s' hq=>?_);cases r with
 | error e=>exact hx pins σ H s e s' I hq
 | ok fl =>
  cases fl with
  | ret u=>exact I.after hq
  | next=>exact ZCb hq
  | brk=>exact ZCb hq
  | cont=>exact ZCb hq
theorem ZmI(F:ZdH X.prog X.w X.K X.mg X.base CX k f fd ps sp)(hr:Zav k X.A)(hg:Gl X x)(hm:X.mg x=Z (.ref f))(hk:ZCO X.K (.ref f)=ZGH)(hb:Binds X.K fd ps ds)(hd:Vals dvs ds)(hx:Passes CX X E)
  (ha:PA X (e::es) t) (hdb:(x==("__debug__":Str))=ZGI:=by decide) (he:ZBp (e::es) X.env=(ZGI,eval e X.env)::ZBp es X.env:=by rfl) (hpl:(backTo pos (ZBp es X.env)).any (·.1)=ZGI:=by rfl) :
  PE X (.Call (.Name x p) (e::es) [] pos) (ZzP sp dvs E t):=by
 intro pins s σ H Q I h;refine ZDa (ZmY I hg hm ?_ hdb);refine ZGC (h₀:=X.base) I.ok.mod.kin hk (thn (ha pos pins s σ H _ I h) λus s1 ⟨vs,H1,I1,r,q⟩=>⟨I1.kIn,?_⟩) he hpl;exact Zze F hr hb hd hx I1 r q
end
structure Zr(N P:List Str)(sc:Scope):Prop where
 kind:sc.kind=.function
 co:sc.isCoroutine=ZGI
 gen:sc.isGenerator=ZGI
 nd:N.Nodup
 pre:N.take P.length=P
 par:∀x∈P,sc.names.lookup x=Z .local\/sc.names.lookup x=Z .cell
 nofree:∀y∈sc.names,y.2≠.free
theorem Znx{kindOf:Str->Option NameKind}{x:Str}:∀{binds:List (Str × Value)} {m:Str->Option Value},(∀v,(x,v) ∉ binds)->bindL kindOf binds m x=m x
 | [],_,_=>rfl
 | (n,v)::r,m,h=>by
  unfold bindL;rw[Znx λw hw=>h w (ZBi _ hw)];split
  ·have:x≠n:=by rintro rfl; exact h v ZBf
   simp[this]
  ·rfl
theorem Znr{kindOf:Str->Option NameKind}{x:Str}:∀{binds:List (Str × Value)} {m:Str->Option Value},(∀v,(x,v) ∉ binds)->bindC kindOf binds m x=m x
 | [],_,_=>rfl
 | (n,v)::r,m,h=>by
  unfold bindC;rw[Znr λw hw=>h w (ZBi _ hw)];split
  ·rfl
  ·have:x≠n:=by rintro rfl; exact h v ZBf
   simp[this]
theorem Znh{kindOf:Str->Option NameKind}{x:Str}{v:Value}:∀{P:List Str} {vs:List Value} {i:Nat} {m:Str->Option Value},P.Nodup->P[i]?=Z x->vs[i]?=Z v->kindOf x=Z .local ->
  bindL kindOf (P.zip vs) m x=Z v
 | [],_,_,_,_,h,_,_=>by simp at h
 | _::_,[],_,_,_,_,h,_=>by simp at h
 | p::P,w::vs,0,m,nd,h1,h2,hk=>by simp at h1 h2; subst h1; subst h2;show bindL kindOf ((p,w)::P.zip vs) m p=_;unfold bindL;rw[Znx λv hv=>(ZB4.mp nd).1 (ZF5 hv).1,if_pos hk];simp
 | p::P,w::vs,i+1,m,nd,h1,h2,hk=>by show bindL kindOf ((p,w)::P.zip vs) m x=_;unfold bindL;exact Znh (i:=i) (ZB4.mp nd).2 (by simpa using h1) (by simpa using h2) hk
theorem Znk{kindOf:Str->Option NameKind}{x:Str}{v:Value}:∀{P:List Str} {vs:List Value} {i:Nat} {m:Str->Option Value},P.Nodup->P[i]?=Z x->vs[i]?=Z v->kindOf x≠Z .local ->
  bindC kindOf (P.zip vs) m x=Z v
 | [],_,_,_,_,h,_,_=>by simp at h
 | _::_,[],_,_,_,_,h,_=>by simp at h
 | p::P,w::vs,0,m,nd,h1,h2,hk=>by simp at h1 h2; subst h1; subst h2;show bindC kindOf ((p,w)::P.zip vs) m p=_;unfold bindC;rw[Znr λv hv=>(ZB4.mp nd).1 (ZF5 hv).1,if_neg hk];simp
 | p::P,w::vs,i+1,m,nd,h1,h2,hk=>by show bindC kindOf ((p,w)::P.zip vs) m x=_;unfold bindC;exact Znk (i:=i) (ZB4.mp nd).2 (by simpa using h1) (by simpa using h2) hk
def start(N:List Str)(vs:List V):St:=vs.map Z++ZBR (N.length-vs.length) Z_
def Zf8(CX:CXT)(P:Program)(w:World)(K:ZBd)(mg:Str->Option Value)(base:Heap)(N:List Str)(qual:Str)(scope:Scope)(f:Addr)(cd:Value)(A:Around)(outer:List Env)(s:Shared)(H:Hp)(E:XK):Cx where
 prog:=P
 w:=w
 K:=K
 mg:=mg
 base:=base
 A:=A.deeper (envOfC qual scope s.heap.objs.size f cd)
 N:=N
 s₀:=s
 H₀:=H
 env:=envOfC qual scope s.heap.objs.size f cd
 outer:=outer
 stack:=envOfC qual scope s.heap.objs.size f cd::outer
 ex:=[]
 calm:=ZGH
 fn:=λ_=>ZGH
 pn:=[]
 xe:=λe s'=>wpAny (model P w) (A.deeper (envOfC qual scope s.heap.objs.size f cd)) (leaving (envOfC qual scope s.heap.objs.size f cd) e) (λ_ s''=>CX outer H s E e s'') (λe' s''=>CX outer H s E e' s'') s'
theorem Zo2{sc:Scope}(h:sc.names.lookup x=Z .cell):∃c,(cellsFrom n sc.names []).lookup x=Z c:=by have q:=ZGd sc.names n [] (.inl h);exact ZBM.mp q
theorem Zt8{CX:CXT}{cd:Value}{outer:List Env}{s1:Shared}{E:XK}
  (S:Zr N ps scope) (hd:A.handled=Z_) (e0:Zfp P w K mg base A outer s H) (hl:vs.length=ps.length) (r:Vals vs us)
  (x:InCallC s s.heap.objs.size (bindL (envOfC qual scope s.heap.objs.size f cd).kindOf (ps.zip us) λ_=>Z_) (cellsFrom (s.heap.objs.size+1) scope.names []) (bindC (envOfC qual scope s.heap.objs.size f cd).kindOf (ps.zip us) λ_=>Z_) s1) :
  Inv (Zf8 CX P w K mg base N qual scope f cd A outer s H E) [] (start N vs) H s1:=by
 have hpl:ps.length<=N.length:=by have:=congrArg ZB7 S.pre; rw[ZB1]at this; omega
 obtain⟨h1,tk,rfl,hk⟩:=x.done;have noA:∀b:Addr,b ∉ (Zf8 CX P w K mg base N qual scope f cd A outer s H E).ex:=λb z=>absurd (show b∈([]:List Addr) from z) (by simp);refine⟨⟨e0.mod,S.kind,rfl,rfl,ZBl _,λy z c h1 h2=>?_,λy hy=>?_,λy c _ h=>?_,λ_=>hd,ZGt e0.frames,.inr ⟨rfl,rfl⟩,λb z=>absurd z (noA b),e0.bs,e0.bsz,λb _ _=>noA b,λb z=>absurd z (noA b),e0.funs,e0.frf⟩,
  rfl,e0.bare,Un.kept hk,⟨_,x.toInCall.ns,λi y v h1 h2 h3=>?_⟩,λy c h=>⟨_,x.cell y c h⟩,e0.hok.fresh (ZBl _),λy c h=>?_,λp hp=>absurd (show p∈([]:List (Addr × Obj)) from hp) (by simp),e0.hok.kept hk,?_⟩
 ·exact name_of_addr x.apart (ZCT h1) (ZCT h2)
 ·have hy:scope.names.lookup y=Z .cell\/scope.names.lookup y=Z .free:=hy
  rcases hy with hy | hy
  ·exact Zo2 hy
  ·exact absurd rfl (S.nofree _ (ZCT hy))
 ·exact ZDh (x.above y c (ZCT h))
 ·have hi:i<vs.length:=by
   unfold start at h2
   by_cases hi:i<vs.length
   ·exact hi
   ·rw[ZBQ (by simpa using hi)]at h2
    rw[ZDU]at h2;split at h2<;>cases h2
  have ha:vs[i]?=Z v:=by
   unfold start at h2;rw[ZBX (by simpa using hi),ZBG]at h2;cases e:vs[i]? with
   | none=>rw[e]at h2; cases h2
   | some a=>rw[e]at h2; cases h2; rfl
  obtain⟨u,hu,rv⟩:=r.get ha;have hp:ps[i]?=Z y:=by rw[<-S.pre,ZFQ (by omega)]; exact h1
  have ndP:ps.Nodup:=by rw[<-S.pre]; exact S.nd.sublist (List.take_sublist _ _)
  refine⟨u,rv,?_⟩;rcases S.par y (ZBN hp)with k | k
  ·exact .inl ⟨k,Znh ndP hp hu k⟩
  ·obtain⟨c,e⟩:=Zo2 (n:=s.heap.objs.size+1) k
   refine .inr ⟨.inl k,c,e,?_⟩;have q:=x.cell y c e;rw[Znk ndP hp hu (by show scope.names.lookup y≠_; rw[k]; decide)]at q;exact q
 ·exact e0.hok.fresh (ZDh (x.above y c (ZCT h)))
 ·unfold start
  show _=N.length;rw[ZBv,ZBb,ZB8];omega
theorem Zwn{CX:CXT}{k:Nat}{name:Str}{params:Arguments}{dV kV doc pm cdv ct oc:Value}{an od:Option Addr}
  {osl:Array (Option Value)} {N ps:List Str} {sp:Sp} (lk:K.lookup f=Z ⟨oc,od,.func (ZCK name qual params body scope dV kV doc pm an cdv ct),osl⟩) (hcd:ZDq K cdv qual=ZGH) (S:Zr N ps scope)
  (len:∀vs H Q E,sp vs H Q E->vs.length=ps.length)
  (hbody:∀(A:Around) (outer:List Env) (s:Shared) (H:Hp) (vs:List V) (Q:VK) (E:XK),Zav k (A.deeper (envOfC qual scope s.heap.objs.size f cdv))->sp vs H Q E ->
   ∃t,PSs (Zf8 CX P w K mg base N qual scope f cdv A outer s H E) body t/\t { nx:=λ_ H'=>Q .non H',rt:=Q } (start N vs) H) :
  ZdH P w K mg base CX (k+1) f (ZCK name qual params body scope dV kV doc pm an cdv ct) ps sp:=by
 refine⟨len,λA outer s H args us vs Q E hr e0 hb r hsp=>?_⟩;have hl:=len _ _ _ _ hsp;have KX:K.In s.heap:=e0.mod.kin.keeps λb o e=>(e0.bs b o e).1;have lim:s.heap.NoLimit:=e0.mod.nolimit.keeps λb o e=>(e0.bs b o e).1;have hkind:∀y∈ps.zip us,scope.names.lookup y.1=Z .local\/(scope.names.lookup y.1=Z .cell/\((cellsFrom (s.heap.objs.size+1) scope.names []).lookup y.1).isSome=ZGH):=λ⟨n,v⟩ hy=>by
  rcases S.par n (ZF5 hy).1 with q | q
  ·exact .inl q
  ·exact .inr ⟨q,ZGd _ _ _ (.inl q)⟩
 refine codeAny_call_function hr.depth (KX _ _ lk) rfl S.co S.gen rfl (PySem.W.codeRec_of KX hcd) (hb _ _ _ _ ?_);refine wpAny_newFunctionEnv_cells S.kind hkind λenv he s1 x=>?_;subst he;refine⟨lim.keeps x.toInCall.keep,codeAny_func ?_⟩;obtain⟨t,ht,hq⟩:=hbody A outer s H vs Q E (hr.deeper _) hsp;have I:Inv (Zf8 CX P w K mg base N qual scope f cdv A outer s H E) [] (start N vs) H s1:=Zt8 S hr.hd e0 hl r x;refine ZCH (ht [] s1 (start N vs) H _ I hq) (λfl s' hs=>?_) λe s' hs=>hs;have fin:∀{σ':St} {H':Hp} {v:V} {u:Value},Inv (Zf8 CX P w K mg base N qual scope f cdv A outer s H E) [] σ' H' s'->RelV v u->Q v H'->CE outer P w H s Q u s' :=
  λ{σ' H' v u} J rv q=>⟨v,H',J.os,J.bare,J.base,J.hok,rv,q⟩
 cases fl with
 | ret u=>obtain⟨v,σ',H',J,rv,q⟩:=hs;exact fin J rv q
 | next=>obtain⟨σ',H',J,q⟩:=hs;exact fin (v:=V.non) (u:=ZCf) J rfl q
 | brk=>obtain⟨_,_,_,q⟩:=hs;exact ZCb q
 | cont=>obtain⟨_,_,_,q⟩:=hs;exact ZCb q
end
section
section
variable{X:Cx}{x:Str}{p pos:Pos}{e:Expr}{es:List Expr}{t:TA}{id T:String}{r:List V->Hp->VK->Prop}
def tCB(r:List V->Hp->VK->Prop)(t:TA):TE:=λσ H Q=>t σ H λvs H1=>r vs H1 Q
theorem ZbT(hc:ZaO X (.builtin id) r)(hg:Gl X x)(hm:X.mg x=Z_)(hv:ZCg x=Z (.builtin id))(ha:PA X (e::es) t)(hn:x ≠ "__name__":=by decide)(hdb:(x==("__debug__":Str))=ZGI:=by decide)
  (he:ZBp (e::es) X.env=(ZGI,eval e X.env)::ZBp es X.env:=by rfl) (hpl:(backTo pos (ZBp es X.env)).any (·.1)=ZGI:=by rfl):PE X (.Call (.Name x p) (e::es) [] pos) (tCB r t):=by
 intro pins s σ H Q I h;refine ZDa (Zid I hg hm hv ?_ hn hdb);exact PyProof.Rows.callWith_builtin1 (thn (ha pos pins s σ H _ I h) λus s1 ⟨vs,H1,I1,r1,q1⟩=>hc pins s1 σ H1 vs us Q I1 r1 q1) he hpl
theorem ZdD(hc:ZaO X (.type T) r)(hg:Gl X x)(hm:X.mg x=Z_)(hv:ZCg x=Z (.type T))(ha:PA X (e::es) t)(hn:x ≠ "__name__":=by decide)(hdb:(x==("__debug__":Str))=ZGI:=by decide)
  (he:ZBp (e::es) X.env=(ZGI,eval e X.env)::ZBp es X.env:=by rfl) (hpl:(backTo pos (ZBp es X.env)).any (·.1)=ZGI:=by rfl):PE X (.Call (.Name x p) (e::es) [] pos) (tCB r t):=by
 intro pins s σ H Q I h;refine ZDa (Zid I hg hm hv ?_ hn hdb);exact ZEc (thn (ha pos pins s σ H _ I h) λus s1 ⟨vs,H1,I1,r1,q1⟩=>hc pins s1 σ H1 vs us Q I1 r1 q1) he hpl
end
end
end L2
namespace HT
set_option maxHeartbeats 8000000
open PySem PyProof.Rows
variable{sl:Addr}{hi lo:Option Int}{vl vu:Value}{Q:Value->Shared->Prop}
section
open PySem.SeqAt
open PySem.AutoSeq1 (wpAny_loadPart')
open PySem.MeetsSeq PySem.MeetsSeq2 PySem.MeetsSeq3
end
section
variable{prog:Program}{w:World}{A:Around}{E:Value->Shared->Prop}{s:Shared}
theorem ZwM{t b:Addr}{vs ws:List Value}(ht:IsTup s.heap t vs.toArray)(hb:IsTup s.heap b ws.toArray)(hv:vs≠[])
  (h1:ws=[]->Q (.ref t) s) (h2:ws≠[]->Q (.ref s.heap.objs.size) { s with heap:=s.heap.push { cls:=.type "tuple",data:=.seq (vs++ws).toArray } })
  (hsz:vs.length+ws.length<=sizeLine):wpAny (model prog w) A (ZDO .Add (.ref t) (.ref b)) Q E s:=by
 obtain⟨⟨cls,dd,data,sl⟩,ho,hc,n,hd⟩:=id ht;obtain⟨⟨cls2,dd2,data2,sl2⟩,ho2,hc2,n2,hd2⟩:=id hb;simp only at hc hd hc2 hd2;subst hc hd hc2 hd2;have e:vs.toArray++ws.toArray=(vs++ws).toArray:=by simp
 by_cases hw:ws=[]
 ·exact ZFR ⟨_,ho,rfl⟩ ⟨_,ho2,rfl⟩ ZFS seq_tuple_add ZEL ZEB (ZEq _ _)
   (tuple_addW1 t b vs.toArray ws.toArray n n2 dd dd2 sl sl2 (by simpa using hv) (by simp[hw])) ⟨ho,ho2,h1 hw⟩
 ·refine ZFR ⟨_,ho,rfl⟩ ⟨_,ho2,rfl⟩ ZFS seq_tuple_add ZEL ZEB (ZEq _ _)
   (tuple_addW2 t b vs.toArray ws.toArray n n2 dd dd2 sl sl2 (by simpa using hv) (by simpa using hw) (by rw[ZBs,ZBs]; exact hsz)) ⟨ho,ho2,?_⟩
  rw[e];exact h2 hw
def sIx(n d:Nat):Option Int->Nat
 | none=>d
 | some v=>if v<0 then(v+(n:Int)).toNat else min v.toNat n
theorem Zuk(n d:Nat)(hd:d<=n)(o:Option Int):sIx n d o<=n:=by
 cases o with
 | none=>exact hd
 | some v =>
  show(if v<0 then(v+(n:Int)).toNat else min v.toNat n)<=n
  by_cases hv:v<0
  ·rw[if_pos hv]; omega
  ·rw[if_neg hv]; exact Nat.min_le_right _ _
theorem ZrP(v:Int)(n d:Nat):(if v<0 then max (v+(n:Int)) 0 else min v (n:Int))=((sIx n d (Z v):Nat):Int):=by
 show(if v<0 then max (v+(n:Int)) 0 else min v (n:Int))=(((if v<0 then(v+(n:Int)).toNat else min v.toNat n):Nat):Int)
 by_cases hv:v<0
 ·simp only[if_pos hv]; omega
 ·simp only[if_neg hv]; omega
theorem Zsm(lo hi:Option Int)(n:Nat):ZEm lo hi 1 (n:Int)=(((sIx n 0 lo:Nat):Int),((sIx n n hi:Nat):Int)):=by
 have h1:¬((1:Int)<0):=by omega
 unfold ZEm;simp only[h1,if_false];refine Prod.ext ?_ ?_
 ·cases lo with
  | none=>rfl
  | some v=>exact ZrP v n 0
 ·cases hi with
  | none=>rfl
  | some v=>exact ZrP v n n
theorem Zsp(i j:Nat):ZDJ (i:Int) (j:Int) 1=j-i:=by
 unfold ZDJ;have h1:(1:Int) > 0:=by omega
 simp only[h1,if_true,Int.ediv_one];split<;>omega
theorem Zl2{v:Value}{o:Option Int}{Q:Option Int->Shared->Prop}(p:IsPart v o)(h:Q o s):wpAny (model prog w) A (Builtin.Slice.slicePartIndex v) Q E s:=by
 cases p with
 | none=>exact slicePart_none h
 | int i t=>exact slicePart_int h
theorem Zg3{n:Nat}{Q:Int × Int × Nat->Shared->Prop}(hs:s.heap.IsSliceOf sl vl vu .none)(pl:IsPart vl lo)(pu:IsPart vu hi)
  (h:Q (((sIx n 0 lo:Nat):Int),1,sIx n n hi-sIx n 0 lo) s):wpAny (model prog w) A (ZFr (.ref sl) (pure (n:Int))) Q E s:=by
 obtain⟨os,hos,hcs,hds⟩:=id hs;unfold ZFr Builtin.Slice.sliceFields;refine ZBa (ZBa (ZEj hos hds (x:=vl) rfl (ZBa (ZEj hos hds (x:=vu) rfl (ZBa (ZEj hos hds (x:=.none) rfl (ZBe ?_)))))));refine ZBa (slicePart_none ?_);show wpAny _ _ (if((1:Int)==0)=ZGH then _ else _) _ _ s;rw[if_neg (by decide)];refine ZBa (Zl2 pl (ZBa (Zl2 pu (ZBa (ZBe ?_)))));show wpAny _ _ (match ZEm lo hi 1 (n:Int)with | (lo,hi)=>pure (lo,(1:Int),ZDJ lo hi 1)) _ _ s;rw[Zsm lo hi n];show wpAny _ _ (pure (((sIx n 0 lo:Nat):Int),(1:Int),ZDJ ((sIx n 0 lo:Nat):Int) ((sIx n n hi:Nat):Int) 1)) _ _ s;rw[Zsp];exact ZBe h
theorem Zvf(xs:Array Value)(i k:Nat):((ZBm k).filterMap λ(m:Nat)=>xs[((i:Int)+(m:Int)*1).toNat]?).toArray=((xs.toList.drop i).take k).toArray:=by
 have e:(λ(m:Nat)=>xs[((i:Int)+(m:Int)*1).toNat]?)=λm=>xs[i+m]?:=by
  funext m
  have:((i:Int)+(m:Int)*1).toNat=i+m:=by omega
  rw[this]
 rw[e];have:=pick_run xs i k;rw[List.filterMap_map]at this;have e2:((λx=>xs[x]?)∘λx=>i+x)=λm=>xs[i+m]?:=rfl;rw[e2]at this;rw[this]
theorem ZkL{t:Addr}{items:Array Value}(ht:IsTup s.heap t items)(hs:s.heap.IsSliceOf sl vl vu .none)(pl:IsPart vl lo)(pu:IsPart vu hi)
  (hw:¬(sIx items.size 0 lo=0/\sIx items.size items.size hi=items.size))
  (h:Q (.ref s.heap.objs.size) { s with heap:=s.heap.push { cls:=.type "tuple",data:=.seq ((items.toList.drop (sIx items.size 0 lo)).take (sIx items.size items.size hi-sIx items.size 0 lo)).toArray } })
  (hsz:items.size<=sizeLine):wpAny (model prog w) A (getItem (.ref t) (.ref sl)) Q E s:=by
 have htake:sizeOk (.seq ((items.toList.drop (sIx items.size 0 lo)).take (sIx items.size items.size hi-sIx items.size 0 lo)).toArray):=by show((items.toList.drop (sIx items.size 0 lo)).take (sIx items.size items.size hi-sIx items.size 0 lo)).toArray.size<=sizeLine;rw[ZBs,ZB1,ZCB,ZBB];omega
 have hj:sIx items.size items.size hi<=items.size:=Zuk _ _ (ZBl _) hi;obtain⟨os,hos,hcs,hds⟩:=id hs;have hTs:s.TypeIs (.ref sl) "slice":=⟨os,hos,hcs⟩;unfold getItem
 try with_reducible refine ZCm ?_
 first | refine ZBa (ZBe ?_) | skip
 refine ZBa (wpAny_sequenceKey ht.typeIs (by decide) ?_);refine ZBa (wpAny_callSpecial?_slot (name:=ZBY "__getitem__") ht.typeIs ZCw
  (ZCj ZCw ht.typeIs entry_tuple_getitem ?_ (args_tuple_getitem _ _)))
 show wpAny _ _ (ZFs (.ref t) >>= _) _ _ s;refine ZBa (tupleItemsOf_ ht ?_);refine ZBa (ZE0 hTs ?_);rw[if_pos (by decide)];refine ZBa (Zg3 hs pl pu ?_);have hno:¬((((sIx items.size 0 lo:Nat):Int)==0&&(1:Int)==1&&(sIx items.size items.size hi-sIx items.size 0 lo)==items.size)=ZGH):=by intro q;rw[ZBx,ZBx]at q;have q1:((sIx items.size 0 lo:Nat):Int)=0:=eq_of_beq q.1.1;have q2:sIx items.size items.size hi-sIx items.size 0 lo=items.size:=eq_of_beq q.2;exact hw ⟨by omega,by omega⟩
 show wpAny _ _ (if(((sIx items.size 0 lo:Nat):Int)==0&&(1:Int)==1&&(sIx items.size items.size hi-sIx items.size 0 lo)==items.size)=ZGH then _ else _) _ _ s;rw[if_neg hno,Zvf]
 first
  | exact ZBa (m:=ZCX _) (ZBV (ZBe ⟨_,rfl,ZBe h⟩) htake)
  | exact ZBa (m:=ZCX _) (ZBV (ZBa (ZBe (ZBe ⟨_,rfl,ZBe h⟩))) htake)
  | exact ZBa (ZBa (m:=ZCX _) (ZBV (ZBe (ZBe ⟨_,rfl,ZBe h⟩)) htake))
  | exact ZBa (ZBa (m:=ZCX _) (ZBV (ZBe ⟨_,rfl,ZBe h⟩) htake))
end
end HT
namespace L2
open PySem PySem.Spec PyProof.Rows
variable{a b:Addr}{A:Around}{X:Cx}{h':Heap}{H H':Hp}{i:Int}{pins:List (Addr × Obj)}{xs:List (List Key × Addr × Value)}{kvs:List (List Key × V)}{its its':List Value}{n t':Nat}{o:Option V}{pos:Pos}{P:Program}{s:Shared}{σ:St}{T:String}{x y:V}{u:Value}{Q:Value->Shared->Prop}{w:World}
section
abbrev TO:=St->Hp->(Option Int->Hp->Prop)->Prop
def PO(X:Cx)(e:Option Expr)(t:TO):Prop :=
 ∀(pins:List (Addr × Obj)) (s:Shared) (σ:St) (H:Hp) (Q:Option Int->Hp->Prop),Inv X pins σ H s->t σ H Q ->
  wpAny (model X.prog X.w) X.A (evalPart e X.env) (λu s'=>∃o H',Inv X pins σ H' s'/\IsPart u o/\Q o H') X.xe s
def Zw9:TO:=λ_ H Q=>Q Z_ H
def ZzS(t:TE):TO:=λσ H Q=>t σ H λx H1=>∃i,x=.int i/\Q (Z i) H1
section
variable{X:Cx}{e:Expr}{te:TE}{lo hi:Option Expr}{tl th:TO}{pos p2:Pos}
theorem Zxt:PO X Z_ Zw9:=by intro pins s σ H Q I h;rw[evalPart_none];exact ZBe ⟨Z_,H,I,.none,h⟩
theorem Zxs(h:PE X e te):PO X (Z e) (ZzS te):=by intro pins s σ H Q I hw;rw[evalPart_some];refine thn (h pins s σ H _ I hw) λu s1 ⟨x,H1,I1,r1,q1⟩=>?_;obtain⟨i,rfl,q⟩:=q1;obtain⟨t,rfl⟩:=r1;exact⟨Z i,H1,I1,.int i t,q⟩
def SlR(X:Cx)(r:V->Option Int->Option Int->Hp->VK->Prop):Prop :=
 ∀(pins:List (Addr × Obj)) (s:Shared) (σ:St) (H:Hp) (x:V) (v vl vu:Value) (lo hi:Option Int) (sl:Addr) (Q:VK),Inv X pins σ H s->RelV x v->s.heap.IsSliceOf sl vl vu .none->IsPart vl lo->IsPart vu hi->r x lo hi H Q ->
  ∃T id,typeLookup (.type T) "__getitem__" = pure (Z (.builtin id))/\s.TypeIs v T/\wpAny (model X.prog X.w) X.A (getItem v (.ref sl)) (EP X pins σ Q) X.xe s
theorem SlR.or{r r':V->Option Int->Option Int->Hp->VK->Prop}(h:SlR X r)(h':SlR X r'):SlR X (λx lo hi H Q=>r x lo hi H Q\/r' x lo hi H Q):=by
 intro pins s σ H x v vl vu lo hi sl Q I rx hs pl pu q;rcases q with q | q
 ·exact h pins s σ H x v vl vu lo hi sl Q I rx hs pl pu q
 ·exact h' pins s σ H x v vl vu lo hi sl Q I rx hs pl pu q
def tSl(r:V->Option Int->Option Int->Hp->VK->Prop)(te:TE)(tl th:TO):TE:=λσ H Q=>te σ H λx H1=>tl σ H1 λl H2=>th σ H2 λu H3=>r x l u H3 Q
theorem Zpu{r:V->Option Int->Option Int->Hp->VK->Prop}(hr:SlR X r)(he:PE X e te)(hl:PO X lo tl)(hu:PO X hi th):PE X (.Subscript e (.Slice lo hi Z_ p2) pos) (tSl r te tl th):=by intro pins s σ H Q I h;refine Subscript_ (thn (he pins s σ H _ I h) λv s1 ⟨x,H1,I1,r1,q1⟩=>?_);refine wpAny_Slice (thn (hl pins s1 σ H1 _ I1 q1) λvl s2 ⟨l,H2,I2,pl,q2⟩=>thn (hu pins s2 σ H2 _ I2 q2) λvu s3 ⟨u,H3,I3,pu,q3⟩=>?_);rw[evalPart_none];refine ZBe ?_;have I4:Inv X pins σ H3 { s3 with heap:=s3.heap.push { cls:=.type "slice",data:=.fields #[vl,vu,.none] } }:=I3.kept (t':=s3.toks) λb ob q=>ZBg _ q;obtain⟨T,id,hT,ht,hg⟩:=hr pins { s3 with heap:=s3.heap.push { cls:=.type "slice",data:=.fields #[vl,vu,.none] } } σ H3 x v vl vu l u s3.heap.objs.size Q I4 r1 (Heap.IsSliceOf.new ..) pl pu q3;show wpAny (model X.prog X.w) X.A (subscriptTail e (.Slice lo hi Z_ p2) v (.ref s3.heap.objs.size)) (EP X pins σ Q) X.xe { s3 with heap:=s3.heap.push { cls:=.type "slice",data:=.fields #[vl,vu,.none] } };exact tail_any (ops:=[.ref s3.heap.objs.size,v]) ht hT hg (by with_unfolding_all rfl)
def Zh1(xs:List V)(lo hi:Option Int):List V:=(xs.drop (HT.sIx xs.length 0 lo)).take (HT.sIx xs.length xs.length hi-HT.sIx xs.length 0 lo)
theorem Zk5(xs:List V)(lo hi:Option Int):(Zh1 xs lo hi).length<=xs.length:=by unfold Zh1;rw[ZB1,ZCB];omega
def ZAC(K:ZBd):V->Option Int->Option Int->Hp->VK->Prop:=λx lo hi H Q=>∃a xs,x=.ref a/\SqT K H a xs /\
 ¬(HT.sIx xs.length 0 lo=0/\HT.sIx xs.length xs.length hi=xs.length)/\∀p,H p=Z_->Q (.ref p) (upd H p (.tup (Zh1 xs lo hi)))
theorem Zyc:SlR X (ZAC X.K):=by
 intro pins s σ H x v vl vu lo hi sl Q I rx hs pl pu h;obtain⟨a,xs,rfl,hx,hw,q⟩:=h;cases rx;obtain⟨its,r,ht,hz⟩:=I.tuple hx;have hlen:its.toArray.size=xs.length:=by rw[ZBs]; exact r.length.symm
 refine⟨"tuple",_,ZCw.lookup,ht.typeIs,?_⟩;refine HT.ZkL ht hs pl pu (by rw[hlen]; exact hw) ?_ (by rw[hlen]; exact hz);rw[hlen];refine⟨.ref s.heap.objs.size,_,I.laid (t':=s.toks) (o:=.tup (Zh1 xs lo hi)) (λb ob q=>ZBg _ q) (ZBl _) ?_,rfl,q _ (I.hok.fresh (ZBl _))⟩;exact⟨ZCh (Zk5 xs lo hi) hz,_,(r.drop (HT.sIx xs.length 0 lo)).take (HT.sIx xs.length xs.length hi-HT.sIx xs.length 0 lo),ZF6 _ _⟩
def Zzz(K:ZBd):R2:=λx y H Q=>∃a b xs ys,x=.ref a/\y=.ref b/\SqT K H a xs/\SqT K H b ys/\xs≠[]/\xs.length+ys.length<=sizeLine /\
 (ys=[]->Q (.ref a) H)/\(ys≠[]->∀p,H p=Z_->Q (.ref p) (upd H p (.tup (xs++ys))))
theorem Vals.nil_iff{xs:List V}{us:List Value}(r:Vals xs us):us=[]↔xs=[]:=by
 cases r with
 | nil=>simp
 | cons _ _=>simp
theorem ZwF:OpR X (ZDO .Add) (Zzz X.K):=by intro pins s σ H x y v u Q I rx ry h;obtain⟨a,b,xs,ys,rfl,rfl,ha,hb,hx,hz,q1,q2⟩:=h;cases rx;cases ry;obtain⟨its,r1,p1,_⟩:=I.tuple ha;obtain⟨its2,r2,p2,_⟩:=I.tuple hb;refine HT.ZwM p1 p2 (λz=>hx (r1.nil_iff.mp z)) (λz=>⟨.ref a,H,I,rfl,q1 (r2.nil_iff.mp z)⟩) (λz=>?_) (by rw[<-r1.length,<-r2.length]; exact hz);refine⟨.ref s.heap.objs.size,_,I.laid (t':=s.toks) (o:=.tup (xs++ys)) (λb ob q=>ZBg _ q) (ZBl _) ?_,rfl,q2 (λw=>z (r2.nil_iff.mpr w)) _ (I.hok.fresh (ZBl _))⟩;exact⟨by rw[ZBv]; exact hz,_,r1.append r2,ZF6 _ _⟩
end
end
section
def ixN(n:Nat)(i:Int):Option Nat:=if 0<=i then(if i<n then Z i.toNat else Z_)else if -(n:Int)<=i then Z (i+n).toNat else Z_
def atI{α:Type}(xs:List α)(i:Int):Option α:=(ixN xs.length i).bind λj=>xs[j]?
theorem ZrA{j:Nat}(h:ixN n i=Z j):seqIndex? i n=Z j/\j<n/\-(n:Int)<=i/\i<n:=by
 unfold ixN at h
 by_cases h0:0<=i
 ·rw[if_pos h0]at h
  by_cases h1:i<n
  ·rw[if_pos h1]at h
   have e:i.toNat=j:=ZCa h;exact⟨by rw[seqIndex_of h0 h1,e],by omega,by omega,h1⟩
  ·rw[if_neg h1]at h; cases h
 ·rw[if_neg h0]at h
  by_cases h1:-(n:Int)<=i
  ·rw[if_pos h1]at h
   have e:(i+n).toNat=j:=ZCa h;exact⟨by rw[seqIndex_neg (by omega) h1,e],by omega,h1,by omega⟩
  ·rw[if_neg h1]at h; cases h
theorem ZmW{α:Type}{xs:List α}{v:α}(h:atI xs i=Z v):∃j,seqIndex? i xs.length=Z j/\xs[j]?=Z v/\j<xs.length/\-(xs.length:Int)<=i/\i<xs.length:=by
 unfold atI at h;cases e:ixN xs.length i with
 | none=>rw[e]at h; cases h
 | some j=>rw[e]at h;obtain⟨h1,h2,h3,h4⟩:=ZrA e;exact⟨j,h1,h,h2,h3,h4⟩
def Zrt(b:Expr):Prop:=∀o i,ZGe b ZGI o i=operate [o,i] (getItem o i)
def IxR(X:Cx)(r:R2):Prop :=
 ∀(value slice:Expr) (pins:List (Addr × Obj)) (s:Shared) (σ:St) (H:Hp) (x y:V) (v u:Value) (Q:VK),Inv X pins σ H s->RelV x v->RelV y u->r x y H Q ->
  ZGe slice ZGI v u=operate [v,u] (getItem v u)->wpAny (model X.prog X.w) X.A (subscriptTail value slice v u) (EP X pins σ Q) X.xe s
def MtR(X:Cx)(id:String)(r:V->List V->Hp->VK->Prop):Prop :=
 ∀(pins:List (Addr × Obj)) (s:Shared) (σ:St) (H:Hp) (x:V) (xs:List V) (v:Value) (us:List Value) (Q:VK),Inv X pins σ H s->RelV x v->Vals xs us->r x xs H Q ->
  wpAny (model X.prog X.w) X.A (call (.builtin id) (v::us)) (EP X pins σ Q) X.xe s
section
variable{X:Cx}{a b:Expr}{ta tb:TE}{pos:Pos}
theorem IxR.or{r r':R2}(h:IxR X r)(h':IxR X r'):IxR X (λx y H Q=>r x y H Q\/r' x y H Q):=by
 intro value slice pins s σ H x y v u Q I rx ry q hs;rcases q with q | q
 ·exact h value slice pins s σ H x y v u Q I rx ry q hs
 ·exact h' value slice pins s σ H x y v u Q I rx ry q hs
theorem Zz3{r:R2}(hr:IxR X r)(ha:PE X a ta)(hb:PE X b tb)(hs:Zrt b):PE X (.Subscript a b pos) (tOp r ta tb):=by intro pins s σ H Q I h;exact Subscript_ (Zu4 ha hb I h λv u s2 x y H2 I2 rx ry q=>hr a b pins s2 σ H2 x y v u Q I2 rx ry q (hs _ _))
def ZyJ(K:ZBd):R2:=λx y H Q=>∃p xs i v,x=.ref p/\y=.int i/\SqL K H p xs/\atI xs i=Z v/\Q v H
def Zy9(K:ZBd):R2:=λx y H Q=>∃p xs i v,x=.ref p/\y=.int i/\SqT K H p xs/\atI xs i=Z v/\Q v H
def Zyr:R2:=λx y H Q=>∃z i c,x=.str z/\y=.int i/\z.length<=sizeLine/\atI z.cps.toList i=Z c/\Q (.str ⟨#[c]⟩) H
theorem ZwT:IxR X (ZyJ X.K):=by
 intro value slice pins s σ H x y v u Q I rx ry h hs;obtain⟨p,xs,i,z,rfl,rfl,hq,he,q⟩:=h;cases rx;obtain⟨t,rfl⟩:=ry;obtain⟨its,r,pl,hz⟩:=I.list hq;obtain⟨j,h1,h2,h3,h4,h5⟩:=ZmW he;obtain⟨w,ew,rw'⟩:=r.get h2;have hl:=r.length;have hn:=ZjN;have fin:EP X pins σ Q w s:=⟨z,H,I,rw',q⟩
 by_cases h0:0<=i
 ·have hj:i.toNat=j:=by
   rw[seqIndex_of h0 h5]at h1;exact ZCa h1
  exact item_listR pl.isList h0 (by omega) (by rw[hj]; simpa using ew) fin hs
 ·have hj:(i+(its.toArray.size:Int)).toNat=j:=by
   rw[seqIndex_neg (by omega) h4]at h1;rw[ZBs,<-hl];exact ZCa h1
  exact subscriptTail_builtinR (x:=w) pl.isList.typeIs slot_list_getitem.lookup
   (wpAny_getItem_list_neg (Q:=λr s'=>r=w/\EP X pins σ Q r s') pl.isList (by omega) (by rw[ZBs]<;>omega) (by omega) (by rw[hj]; simpa using ew) ⟨rfl,fin⟩) hs
theorem Zyq:IxR X (Zy9 X.K):=by
 intro value slice pins s σ H x y v u Q I rx ry h hs;obtain⟨p,xs,i,z,rfl,rfl,hq,he,q⟩:=h;cases rx;obtain⟨t,rfl⟩:=ry;obtain⟨its,r,pl,hz⟩:=I.tuple hq;obtain⟨j,h1,h2,h3,h4,h5⟩:=ZmW he;obtain⟨w,ew,rw'⟩:=r.get h2;have hl:=r.length;have hn:=ZjN;have fin:EP X pins σ Q w s:=⟨z,H,I,rw',q⟩;exact subscriptTail_builtinR (x:=w) pl.typeIs slot_tuple_getitem.lookup
  (getItem_tuple (j:=j) (Q:=λr s'=>r=w/\EP X pins σ Q r s') pl (by omega) (by omega) (by rw[ZBs,<-hl]; exact h1) (by simpa using ew) ⟨rfl,fin⟩) hs
theorem ZyQ:IxR X Zyr:=by
 intro value slice pins s σ H x y v u Q I rx ry h hs;obtain⟨z,i,c,rfl,rfl,hz,he,q⟩:=h;obtain⟨t,rfl⟩:=rx;obtain⟨t',rfl⟩:=ry;obtain⟨j,h1,h2,h3,h4,h5⟩:=ZmW he;have hl:z.cps.toList.length=z.length:=by simp[Str.length]
 rw[hl]at h1 h4 h5;have hn:=ZjN;exact tail_any (typeIs_str s z t) slot_str_getitem.lookup (getItem_str (c:=c) (by have e1:decide (i < -(2 ^ 63:Int))=ZGI:=decide_eq_false (by omega);have e2:decide (i ≥ 2 ^ 63)=ZGI:=decide_eq_false (by omega);rw[e1,e2,Bool.or_false]) (by rw[h1]; simpa using h2) ⟨.str ⟨#[c]⟩,H,I.tok _,⟨_,rfl⟩,q⟩) hs
def rIx(K:ZBd):R2:=λx y H Q=>ZyJ K x y H Q\/Zy9 K x y H Q\/Zyr x y H Q
theorem Zyb:IxR X (rIx X.K):=ZwT.or (Zyq.or ZyQ)
theorem Zso(its:List Value)(n j:Nat)(u:Value):ZEv (·.setIfInBounds j u) { cls:=.type "list",data:=.seq its.toArray n }={ cls:=.type "list",data:=.seq (its.set j u).toArray n }:=by simp[ZEv]
theorem Inv.lst{pins:List (Addr × Obj)}{σ:St}{H:Hp}{s:Shared}{p:Addr}{xs:List V}(I:Inv X pins σ H s)(h:H p=Z (.lst xs)) :
  ∃(its:List Value) (n:Nat),Vals xs its/\s.heap.get? p=Z { cls:=.type "list",data:=.seq its.toArray n }/\xs.length<=sizeLine:=by
 obtain⟨z,its,n,r,e⟩:=I.hok p _ h;exact⟨its,n,r,e,z⟩
theorem Inv.lstUpd{p:Addr}{xs ys:List V}{n':Nat}{f:Obj->Obj}(I:Inv X pins σ H s)(h:H p=Z (.lst xs))
  (ho:s.heap.get? p=Z { cls:=.type "list",data:=.seq its.toArray n }) (hf:f { cls:=.type "list",data:=.seq its.toArray n }={ cls:=.type "list",data:=.seq its'.toArray n' }) (r:Vals ys its') (hz:ys.length<=sizeLine) (t:Nat) :
  Inv X pins σ (upd H p (.lst ys)) { s with heap:=s.heap.update p f,toks:=t }:=by
 have e:(s.heap.update p f).get? p=Z { cls:=.type "list",data:=.seq its'.toArray n' }:=by rw[ZCk f ho (by rw[hf]<;>rfl),hf]
 refine I.write (x:=p) (e:=p) (by rw[h]; trivial) (.inl rfl) (λb u hb q=>(ZCP _ _ (ZCn hb)).trans q) ⟨_,e⟩ ?_;exact⟨hz,its',n',r,e⟩
def ZzA:V->V->V->Hp->(Hp->Prop)->Prop:=λo i v H Q=>∃p xs k j,o=.ref p/\i=.int k/\H p=Z (.lst xs)/\ixN xs.length k=Z j/\Q (upd H p (.lst (xs.set j v)))
theorem set_list:Zzi X ZzA:=by
 intro pins s σ H o i v ov iv u Q I ro ri rv h;obtain⟨p,xs,k,j,rfl,rfl,hp,hj,q⟩:=h;cases ro;obtain⟨t,rfl⟩:=ri;obtain⟨its,n,r,ho,hz⟩:=I.lst hp;obtain⟨h1,h2,h3,h4⟩:=ZrA hj;have hl:=r.length;have hn:=ZjN;have I':Inv X pins σ (upd H p (.lst (xs.set j v))) { s with heap:=s.heap.update p (ZEv (·.setIfInBounds j u)) } :=
  I.lstUpd hp ho (Zso its n j u) (r.set rv j) (by rw[ZCy]; exact hz) s.toks
 by_cases h0:0<=k
 ·have hk:k.toNat=j:=by
   rw[seqIndex_of h0 h4]at h1;exact ZCa h1
  exact PySem.W.ki_setAt ho h0 (by omega) (by rw[ZBs,<-hl]; exact h4) (by rw[hk]; exact⟨_,I',q⟩)
 ·have hk:(k+(its.toArray.size:Int)).toNat=j:=by
   rw[seqIndex_neg (by omega) h3]at h1;rw[ZBs,<-hl];exact ZCa h1
  exact PySem.W.ki_setBack ho (by omega) (by rw[ZBs,<-hl]; exact h3) (by omega) (by rw[hk]; exact⟨_,I',q⟩)
theorem Zqi(lo hi:Option Int)(n:Nat):(ZEk lo hi Z_ n).1=((HT.sIx n 0 lo:Nat):Int)/\(ZEk lo hi Z_ n).2.1=((HT.sIx n n hi:Nat):Int)/\(ZEk lo hi Z_ n).2.2=1:=by
 refine⟨?_,?_,rfl⟩
 ·cases lo with
  | none=>simp[ZEk,HT.sIx]
  | some i =>
   simp only[ZEk,HT.sIx,Option.getD_none,show(1:Int) > 0 by decide,if_true]
   by_cases h:i<0
   ·simp only[h,if_true]<;>omega
   ·simp only[h,if_false]<;>omega
 ·cases hi with
  | none=>simp[ZEk,HT.sIx]
  | some i =>
   simp only[ZEk,HT.sIx,Option.getD_none,show(1:Int) > 0 by decide,if_true]
   by_cases h:i<0
   ·simp only[h,if_true]<;>omega
   ·simp only[h,if_false]<;>omega
theorem Zob(its:List Value)(lo hi:Option Int):slicePick its.toArray lo hi Z_=((its.drop (HT.sIx its.length 0 lo)).take (HT.sIx its.length its.length hi-HT.sIx its.length 0 lo)).toArray:=by obtain⟨h1,h2,h3⟩:=Zqi lo hi its.toArray.size;unfold slicePick;rw[h1,h2,h3];simp only[sliceRange_one,pick_run,ZBs]<;>rfl
def ZAD(K:ZBd):V->Option Int->Option Int->Hp->VK->Prop:=λx lo hi H Q=>∃a xs,x=.ref a/\SqL K H a xs/\∀p,H p=Z_->Q (.ref p) (upd H p (.lst (Zh1 xs lo hi)))
theorem Zxc:SlR X (ZAD X.K):=by intro pins s σ H x v vl vu lo hi sl Q I rx hs pl pu h;obtain⟨a,xs,rfl,hx,q⟩:=h;cases rx;obtain⟨its,r,ht,hz⟩:=I.list hx;have hlen:=r.length;refine⟨"list",_,slot_list_getitem.lookup,ht.isList.typeIs,?_⟩;refine wpAny_getItem_list_slice ht.isList hs pl pu .none (by simp) ?_ (by rw[ZBs]<;>omega);rw[Zob,<-hlen];refine⟨.ref s.heap.objs.size,_,I.laid (t':=s.toks) (o:=.lst (Zh1 xs lo hi)) (λb ob q=>ZBg _ q) (ZBl _) ?_,rfl,q _ (I.hok.fresh (ZBl _))⟩;exact⟨ZCh (Zk5 xs lo hi) hz,_,0,(r.drop (HT.sIx xs.length 0 lo)).take (HT.sIx xs.length xs.length hi-HT.sIx xs.length 0 lo),ZBw _ rfl⟩
def ZbR:V->Bool
 | .non=>ZGH
 | .bl _=>ZGH
 | .int _=>ZGH
 | .str _=>ZGH
 | _=>ZGI
def eqV:V->V->Bool
 | .non,.non=>ZGH
 | .bl a,.bl b=>a==b
 | .bl a,.int b=>(if a then 1 else 0)==b
 | .int a,.bl b=>a==(if b then 1 else 0)
 | .int a,.int b=>a==b
 | .str a,.str b=>a==b
 | _,_=>ZGI
theorem Zyy{v:Value}(ry:RelV y u)(rx:RelV x v)(fy:ZbR y=ZGH)(fx:ZbR x=ZGH):SeqAt.EqAt A s u v (eqV y x):=by
 cases y with
 | non =>
  cases ry;cases x with
  | non=>cases rx; exact SeqAt.EqAt.same _
  | bl b=>cases rx; exact SeqAt.EqAt.none_bool b
  | int b=>obtain⟨t,rfl⟩:=rx; exact SeqAt.EqAt.none_int b t
  | str b=>obtain⟨t,rfl⟩:=rx; exact SeqAt.EqAt.none_str b t
  | _=>exact absurd (show ZGI=ZGH from fx) ZB3
 | bl a =>
  cases ry;cases x with
  | non=>cases rx; exact SeqAt.EqAt.bool_none a
  | bl b=>cases rx; exact SeqAt.EqAt.bool_bool a b
  | int b=>obtain⟨t,rfl⟩:=rx; exact SeqAt.EqAt.bool_int a b t
  | str b=>obtain⟨t,rfl⟩:=rx; exact SeqAt.EqAt.bool_str a b t
  | _=>exact absurd (show ZGI=ZGH from fx) ZB3
 | int a =>
  obtain⟨t',rfl⟩:=ry;cases x with
  | non=>cases rx; exact SeqAt.EqAt.int_none a t'
  | bl b=>cases rx; exact SeqAt.EqAt.int_bool a t' b
  | int b=>obtain⟨t,rfl⟩:=rx; exact SeqAt.EqAt.int_int a t' b t
  | str b=>obtain⟨t,rfl⟩:=rx; exact ZGA a t' b t
  | _=>exact absurd (show ZGI=ZGH from fx) ZB3
 | str a =>
  obtain⟨t',rfl⟩:=ry;cases x with
  | non=>cases rx; exact SeqAt.EqAt.str_none a t'
  | bl b=>cases rx; exact SeqAt.EqAt.str_bool a t' b
  | int b=>obtain⟨t,rfl⟩:=rx; exact ZGB a t' b t
  | str b=>obtain⟨t,rfl⟩:=rx; exact SeqAt.EqAt.str_str a t' b t
  | _=>exact absurd (show ZGI=ZGH from fx) ZB3
 | _=>exact absurd (show ZGI=ZGH from fy) ZB3
def eqU(x:V)(u:Value):Bool:=match u with
 | .none=>eqV .non x
 | .bool b=>eqV (.bl b) x
 | .int i _=>eqV (.int i) x
 | .str z _=>eqV (.str z) x
 | _=>ZGI
theorem ZtQ(r:RelV y u)(f:ZbR y=ZGH):eqU x u=eqV y x:=by
 cases y with
 | non=>cases r; rfl
 | bl b=>cases r; rfl
 | int i=>obtain⟨t,rfl⟩:=r; rfl
 | str z=>obtain⟨t,rfl⟩:=r; rfl
 | _=>exact absurd (show ZGI=ZGH from f) ZB3
theorem ZmL{x:V}:∀{xs:List V} {us:List Value},Vals xs us->xs.all ZbR=ZGH->us.any (eqU x)=xs.any λy=>eqV y x
 | _,_,.nil,_=>rfl
 | y::xs,u::us,.cons r t,f=>by rw[ZCp,ZBx]at f;rw[ZDZ,ZDZ,ZtQ r f.1,ZmL t f.2]
theorem Zlu{A:Around}{s:Shared}{x:V}{v:Value}(rx:RelV x v)(fx:ZbR x=ZGH):∀{xs:List V} {us:List Value},Vals xs us->xs.all ZbR=ZGH->∀u∈us,SeqAt.EqAt A s u v (eqU x u)
 | _,_,.nil,_=>λu hu=>by cases hu
 | y::xs,u::us,.cons r t,f=>λu' hu=>by
  rw[ZCp,ZBx]at f;rcases ZBq.mp hu with rfl | hu
  ·rw[ZtQ r f.1]; exact Zyy r rx f.1 fx
  ·exact Zlu rx fx t f.2 u' hu
def inV(x:V)(xs:List V):Bool:=xs.any λy=>eqV y x
def rIn(K:ZBd)(neg:Bool):R2:=λx y H Q=>∃p xs,y=.ref p/\(SqL K H p xs\/SqT K H p xs)/\ZbR x=ZGH/\xs.all ZbR=ZGH/\Q (.bl (if neg then !inV x xs else inV x xs)) H
theorem Zt7:OpR X (ZCx .In) (rIn X.K ZGI):=by
 intro pins s σ H x y v u Q I rx ry h;obtain⟨p,xs,rfl,hq,fx,fs,q⟩:=h;cases ry;rcases hq with hq | hq
 ·obtain⟨its,r,pl,hz⟩:=I.list hq
  refine SeqAt.in_listAt (eqU x) pl.isList (λw hw=>Zlu rx fx r fs w (by simpa using hw)) ⟨.bl _,H,I,rfl,?_⟩;rw[show its.toArray.any (eqU x)=its.any (eqU x) by simp,ZmL r fs];exact q
 ·obtain⟨its,r,pl,hz⟩:=I.tuple hq
  refine SeqAt.in_tupleAt (eqU x) pl (λw hw=>Zlu rx fx r fs w (by simpa using hw)) ⟨.bl _,H,I,rfl,?_⟩;rw[show its.toArray.any (eqU x)=its.any (eqU x) by simp,ZmL r fs];exact q
theorem ZpU:ZaO X (.builtin "len") (λxs H Q=>∃p ys,xs=[.ref p]/\(SqL X.K H p ys\/SqT X.K H p ys)/\Q (.int ys.length) H):=by
 intro pins s σ H xs us Q I r h;obtain⟨p,ys,rfl,hq,q⟩:=h;obtain⟨u,rfl,rx⟩:=vals1 r;cases rx;have hn:=ZjN;rcases hq with hq | hq
 ·obtain⟨its,r',pl,hz⟩:=I.list hq
  have hlen:=r'.length;exact Calls.call_len_list pl.isList (by simp only[ZBs]<;>omega) ⟨.int ys.length,H,I.tok _,⟨s.toks+1,by rw[ZBs,hlen]⟩,q⟩
 ·obtain⟨its,r',pl,hz⟩:=I.tuple hq
  have hlen:=r'.length;exact len_tuple pl (by simp only[ZBs]<;>omega) ⟨.int ys.length,H,I.tok _,⟨s.toks+1,by rw[ZBs,hlen]⟩,q⟩
theorem ZaO.or{f:Value}{r r':List V->Hp->VK->Prop}(h:ZaO X f r)(h':ZaO X f r'):ZaO X f (λxs H Q=>r xs H Q\/r' xs H Q):=by
 intro pins s σ H xs us Q I rs q;rcases q with q | q
 ·exact h pins s σ H xs us Q I rs q
 ·exact h' pins s σ H xs us Q I rs q
theorem Zo9:ZaO X (.type "list") (λxs H Q=>∃p ys,xs=[.ref p]/\(SqL X.K H p ys\/SqT X.K H p ys)/\∀l,H l=Z_->Q (.ref l) (upd H l (.lst ys))):=by
 intro pins s σ H xs us Q I r h;obtain⟨p,ys,rfl,hq,q⟩:=h;obtain⟨u,rfl,rx⟩:=vals1 r;cases rx;have fin:∀(its:List Value),Vals ys its->ys.length<=sizeLine->∀(h':Heap) (c':Nat),(∀b o',s.heap.get? b=Z o'->h'.get? b=Z o') ->
   h'.get? s.heap.objs.size=Z { cls:=.type "list",dict:=Z_,data:=.seq its.toArray c',slots:=#[] }->EP X pins σ Q (.ref s.heap.objs.size) { s with heap:=h' }:=λits r' hz h' c' kp e =>
  ⟨.ref s.heap.objs.size,_,I.laid (t':=s.toks) kp (ZBl _) (show Zab X.prog X.w _ h' _ (.lst ys) from⟨hz,its,c',r',e⟩),rfl,q _ (I.hok.fresh (ZBl _))⟩
 rcases hq with hq | hq
 ·obtain⟨its,r',pl,hz⟩:=I.list hq
  have hlen:=r'.length;obtain⟨o,ho,hc,n,hd⟩:=pl.isList;exact call_list_seq p (.inl rfl) ho hc hd (λh' c' kp e=>fin its r' hz h' c' kp e) (by simp only[ZBs]<;>omega)
 ·obtain⟨its,r',pl,hz⟩:=I.tuple hq
  have hlen:=r'.length;obtain⟨o,ho,hc,n,hd⟩:=pl;exact call_list_seq p (.inr rfl) ho hc hd (λh' c' kp e=>fin its r' hz h' c' kp e) (by simp only[ZBs]<;>omega)
theorem Zn4:ZaO X (.type "tuple") (λxs H Q=>∃p ys,xs=[.ref p]/\((SqL X.K H p ys/\∀l,H l=Z_->Q (.ref l) (upd H l (.tup ys)))\/(SqT X.K H p ys/\Q (.ref p) H))):=by
 intro pins s σ H xs us Q I r h;obtain⟨p,ys,rfl,h⟩:=h;obtain⟨u,rfl,rx⟩:=vals1 r;cases rx;rcases h with⟨hq,q⟩ | ⟨hq,q⟩
 ·obtain⟨its,r',pl,hz⟩:=I.list hq
  have hlen:=r'.length;refine call_tuple_list pl.isList (λh' kp=>?_) (by simp only[ZBs]<;>omega);have I1:Inv X pins σ H { s with heap:=h' }:=I.kept (t':=s.toks) kp;have I2:Inv X pins σ (upd H h'.objs.size (.tup ys)) { s with heap:=h'.push { cls:=.type "tuple",data:=.seq its.toArray } } :=
   I1.laid (t':=s.toks) (λb o e=>ZBg _ e) (ZBl _) (show Zab X.prog X.w _ _ _ (.tup ys) from⟨hz,its,r',ZF6 _ _⟩)
  exact⟨.ref h'.objs.size,_,I2,rfl,q _ (I1.hok.fresh (ZBl _))⟩
 ·obtain⟨its,r',pl,hz⟩:=I.tuple hq
  exact call_tuple_same pl ⟨.ref p,H,I,rfl,q⟩
def tyV(K:ZBd)(T:String)(x:V)(H:Hp):Prop:=match x with
 | .str _=>T = "str"
 | .int _=>T = "int"
 | .ref p=>(T = "list"/\∃xs,SqL K H p xs)\/(T = "tuple"/\∃o,K.lookup p=Z o/\o.cls=.type "tuple"/\o.dict=Z_) \/
   (T = "dict"/\((∃kvs,H p=Z (.dK kvs))\/∃kvs,H p=Z (.dT kvs)))\/(T = "set"/\∃S n,H p=Z (.set S n))
 | _=>False
theorem ZtL{v:Value}(I:Inv X pins σ H s)(r:RelV x v)(ty:tyV X.K T x H) :
  s.TypeIs v T/\∀a,v=.ref a->∃ob,s.heap.get? a=Z ob/\ob.dict=Z_:=by
 cases x with
 | str z=>obtain⟨t,rfl⟩:=r;cases(show T = "str" from ty);exact⟨typeIs_str s z t,λ_ e=>nomatch e⟩
 | int i=>obtain⟨t,rfl⟩:=r;cases(show T = "int" from ty);exact⟨typeIs_int s i t,λ_ e=>nomatch e⟩
 | ref p =>
  cases r;rcases ty with⟨rfl,xs,hq⟩ | ⟨rfl,o,hk,hc,hd⟩ | ⟨rfl,hk⟩ | ⟨rfl,S,n,hk⟩
  ·obtain⟨its,_,pl,_⟩:=I.list hq
   refine⟨pl.isList.typeIs,λa e=>?_⟩;cases e;obtain⟨o,n,e,c,hd,_⟩:=pl;exact⟨o,e,hd⟩
  ·refine⟨⟨o,I.kIn p o hk,hc⟩,λa e=>?_⟩
   cases e;exact⟨o,I.kIn _ o hk,hd⟩
  ·have z:∃o,s.heap.get? p=Z o/\o.ExactDict:=by
    rcases hk with⟨kvs,hk⟩ | ⟨kvs,hk⟩
    ·obtain⟨_,_,_,_,o,_,_,e,ex,_⟩:=I.hok p _ hk
     exact⟨o,e,ex⟩
    ·obtain⟨_,_,_,_,o,_,_,e,ex,_⟩:=I.hok p _ hk
     exact⟨o,e,ex⟩
   obtain⟨o,e,ex⟩:=z;refine⟨⟨o,e,ex.1⟩,λa e2=>?_⟩;cases e2;exact⟨o,e,ex.2.1⟩
  ·obtain⟨o,_,_,_,e,ex,_⟩:=I.hok p _ hk
   refine⟨⟨o,e,ex.1⟩,λa e2=>?_⟩;cases e2;exact⟨o,e,ex.2.1⟩
 | _=>exact ZCb ty
def ZAP(K:ZBd)(T:String)(r:V->List V->Hp->VK->Prop)(to:TE):TE:=λσ H Q=>to σ H λx H1=>tyV K T x H1/\r x [] H1 Q
def tBM(K:ZBd)(T:String)(r:V->List V->Hp->VK->Prop)(to:TE)(t:TA):TE:=λσ H Q=>to σ H λx H1=>tyV K T x H1/\t σ H1 λxs H2=>r x xs H2 Q
variable{o e:Expr}{es:List Expr}{to:TE}{t:TA}{name:Str}{apos cpos:Pos}{T id:String}{r:V->List V->Hp->VK->Prop}
theorem Zzq(pa:PlainAttrs T)(slot:Slot T name id)(hty:typeOf (.builtin id)=pure (.type "method_descriptor"))(hm:MtR X id r)(ho:PE X o to)
  (hbase:ZDD o name X.env (eval o X.env)=eval o X.env:=by rfl) (hline:(apos.endLine==cpos.line)=ZGH:=by rfl):PE X (.Call (.Attribute o name apos) [] [] cpos) (ZAP X.K T r to):=by
 intro pins s σ H Q I h;refine wpAny_Call_method0_late hbase hline (thn (ho pins s σ H _ I h) λv s1 ⟨x,H1,I1,r1,ty,q1⟩=>?_);obtain⟨h1,h2⟩:=ZtL I1 r1 ty;exact⟨T,id,pa,slot,hty,h1,h2,ZD1 rfl (PySem.evalArgs_none (hm pins s1 σ H1 x [] v [] Q I1 r1 .nil q1))⟩
theorem Zsc(pa:PlainAttrs T)(slot:Slot T name id)(hty:typeOf (.builtin id)=pure (.type "method_descriptor"))(hm:MtR X id r)(ho:PE X o to)(ha:PA X (e::es) t)
  (hbase:ZDD o name X.env (eval o X.env)=eval o X.env:=by rfl)
  (hfew:((backTo cpos (ZBp (e::es) X.env)).all (λx=>!x.1)&&(ZFT cpos (ZEM [] X.env)).all (λx=>x.1.isSome)
   && decide ((e::es).length+([]:List Keyword).length+(if([]:List Keyword).isEmpty then 0 else 1)<30))=ZGH:=by rfl)
  (hline:(apos.endLine==cpos.line)=ZGH:=by rfl) (hs:ZBp (e::es) X.env=(ZGI,eval e X.env)::ZBp es X.env:=by rfl) (hplain:(backTo cpos (ZBp es X.env)).any (·.1)=ZGI:=by rfl) :
  PE X (.Call (.Attribute o name apos) (e::es) [] cpos) (tBM X.K T r to t):=by
 intro pins s σ H Q I h;refine wpAny_Call_method_late hbase hfew hline rfl (thn (ho pins s σ H _ I h) λv s1 ⟨x,H1,I1,r1,ty,q1⟩=>?_);obtain⟨h1,h2⟩:=ZtL I1 r1 ty;refine⟨T,id,pa,slot,hty,h1,h2,?_⟩;have hA:=ha cpos pins s1 σ H1 _ I1 q1;rw[hs]at hA ⊢;refine ZD1 (by show(ZGI||(backTo cpos (ZBp es X.env)).any (·.1))=ZGI; rw[hplain]<;>rfl) (ZE1 ?_);exact thn hA λus s2 ⟨vs,H2,I2,r2,q2⟩=>hm pins s2 σ H2 x vs v us Q I2 r1 r2 q2
end
end
section
def MtM(X:Cx)(id:String)(r:V->List V->Hp->VK->Prop):Prop :=
 ∀(pins:List (Addr × Obj)) (s:Shared) (σ:St) (H:Hp) (x:V) (xs:List V) (v:Value) (us:List Value) (Q:VK),Inv X pins σ H s->RelV x v->Vals xs us->r x xs H Q ->
  wpAny (model X.prog X.w) X.A (call (.builtin id) (v::us)) (EP X pins σ Q) X.xe s
theorem Vals.one:∀{x:V} {us:List Value},Vals [x] us->∃u,us=[u]/\RelV x u
 | _,_,.cons r .nil=>⟨_,rfl,r⟩
theorem Vals.zero:∀{us:List Value},Vals [] us->us=[]
 | _,.nil=>rfl
theorem Vals.dropLast{xs:List V}{us:List Value}(h:Vals xs us):Vals xs.dropLast us.dropLast:=by
 induction h with
 | nil=>exact .nil
 | cons r t ih =>
  cases t with
  | nil=>exact .nil
  | cons q t'=>exact .cons r ih
theorem Vals.rep{xs:List V}{us:List Value}(h:Vals xs us):∀k:Nat,Vals (ZBR k xs).flatten (ZBR k us).flatten
 | 0=>.nil
 | k+1=>by rw[ZC4,ZC4,ZDG,ZDG];exact Vals.append h (Vals.rep h k)
theorem ZsB{α:Type}(l:List α):l.eraseIdx (l.length-1)=l.dropLast:=by
 induction l with
 | nil=>rfl
 | cons a r ih =>
  cases r with
  | nil=>rfl
  | cons b r =>
   have e:(a::b::r).length-1=((b::r).length-1)+1:=by have h1:(a::b::r).length=r.length+2:=rfl;have h2:(b::r).length=r.length+1:=rfl;omega
   rw[e,List.eraseIdx_cons_succ,ih]
   all_goals rfl
theorem foldl_rep(its:List Value):∀(k:Nat) (acc:List Value),
  List.foldl (λx1 x2=>x1++x2) acc.toArray (ZBR k its.toArray)=(acc++(ZBR k its).flatten).toArray
 | 0,acc=>by simp
 | k+1,acc=>by
  have e:acc.toArray++its.toArray=(acc++its).toArray:=by simp
  have e2:(acc++its)++(ZBR k its).flatten=acc++(ZBR (k+1) its).flatten:=by rw[ZC4,ZDG,ZC3]
  rw[<-e2,<-foldl_rep its k (acc++its),<-e,ZC4,ZDj]
section
variable{X:Cx}{pins:List (Addr × Obj)}{σ:St}{H:Hp}{s:Shared}{l b:Addr}{xs ys zs:List V}
theorem Inv.lset{f:Array Value->Array Value}(I:Inv X pins σ H s)(hH:H l=Z (.lst xs))
  (e:s.heap.get? l=Z { cls:=.type "list",data:=.seq its.toArray n }) (hf:f its.toArray=its'.toArray) (hv:Vals ys its') (hz:ys.length<=sizeLine) :
  Inv X pins σ (upd H l (.lst ys)) { s with heap:=s.heap.update l (ZEv f),toks:=t' }:=by
 have q:=PySem.IsL.update e f;rw[hf]at q;refine I.write (x:=l) (e:=l) (by rw[hH]; exact trivial) (.inl rfl) (λb' u hb hu=>(ZCP s.heap (ZEv f) (ZCn hb)).trans hu) ⟨_,q⟩ ?_;exact⟨hz,its',_,hv,q⟩
theorem Inv.lnew(I:Inv X pins σ H s)(hv:Vals ys its)(hz:ys.length<=sizeLine) :
  Inv X pins σ (upd H s.heap.objs.size (.lst ys)) { s with heap:=s.heap.push { cls:=.type "list",data:=.seq its.toArray },toks:=t' } :=
 I.laid (λ_ _ q=>ZBg _ q) (ZBl _) ⟨hz,its,0,hv,ZBw _ rfl⟩
theorem Inv.fresh(I:Inv X pins σ H s):H s.heap.objs.size=Z_:=I.hok.fresh (ZBl _)
theorem Inv.lstM(I:Inv X pins σ H s)(hH:H l=Z (.lst xs)):xs.length<=sizeLine/\∃(its:List Value) (n:Nat),Vals xs its/\xs.length=its.length/\s.heap.get? l=Z { cls:=.type "list",data:=.seq its.toArray n }:=by obtain⟨z,its,n,r,e⟩:=I.hok l _ hH;exact⟨z,its,n,r,r.length,e⟩
theorem ZpJ(h:n<=sizeLine):ZDP n=ZGI:=by unfold ZDP;exact decide_eq_false (by omega)
end
section
variable{X:Cx}
def ZrM:V->List V->Hp->VK->Prop:=λx vs H Q=>∃l xs y,x=.ref l/\vs=[y]/\H l=Z (.lst xs)/\xs.length<sizeLine/\Q .non (upd H l (.lst (xs++[y])))
theorem Zke:MtM X "list.append" ZrM:=by intro pins s σ H x vs v us Q I rx rv h;obtain⟨l,xs,y,rfl,rfl,hH,hz,q⟩:=h;cases rx;obtain⟨u,rfl,ru⟩:=rv.one;obtain⟨z,its,n,r,hl,e⟩:=I.lstM hH;refine ZFK F.slot_list_append ⟨_,e,rfl⟩ F.entry_list_append (F.args_list_append_2 _ _) (PySem.list_append l its.toArray n u (by rw[ZBs]; omega)) ⟨e,?_⟩;refine⟨.non,_,I.lset (its':=its++[u]) hH e (by simp) (r.append (.cons ru .nil)) ?_,rfl,q⟩;rw[ZBv,ZCs];omega
def Zxy:V->List V->Hp->VK->Prop:=λx vs H Q=>∃l b xs zs,x=.ref l/\vs=[.ref b]/\H l=Z (.lst xs)/\H b=Z (.lst zs)/\xs.length+zs.length<=sizeLine/\Q .non (upd H l (.lst (xs++zs)))
theorem Zt0:MtM X "list.extend" Zxy:=by
 intro pins s σ H x vs v us Q I rx rv h;obtain⟨l,b,xs,zs,rfl,rfl,hH,hB,hz,q⟩:=h;cases rx;obtain⟨u,rfl,ru⟩:=rv.one;cases ru;obtain⟨z,its,n,r,hl,e⟩:=I.lstM hH;obtain⟨z2,its2,n2,r2,hl2,e2⟩:=I.lstM hB;have hsz:its.toArray.size+its2.toArray.size<=sizeLine:=by rw[ZBs,ZBs]; omega
 have hlong:¬(!its.toArray.isEmpty&&ZDP (its.toArray.size+its2.toArray.size))=ZGH:=by rw[ZpJ hsz,Bool.and_false];exact ZB3
 refine ZFK F.slot_list_extend ⟨_,e,rfl⟩ F.entry_list_extend (F.args_list_extend_2 _ _)
  (AutoSeq1.list_extend_list_list_0 l its.toArray n b its2.toArray n2 hlong (by rw[ZBs]; omega) (by omega)) ⟨e,e2,?_⟩
 refine⟨.non,_,I.lset (its':=its++its2) hH e (by simp) (r.append r2) ?_,rfl,q⟩;rw[ZBv];omega
def ZAX:V->List V->Hp->VK->Prop:=λx vs H Q=>∃l xs y,x=.ref l/\vs=[]/\H l=Z (.lst xs)/\xs[xs.length-1]?=Z y/\Q y (upd H l (.lst xs.dropLast))
theorem Zzd:MtM X "list.pop" ZAX:=by
 intro pins s σ H x vs v us Q I rx rv h;obtain⟨l,xs,y,rfl,rfl,hH,hy,q⟩:=h;cases rx;have hus:=rv.zero;subst hus;obtain⟨z,its,n,r,hl,e⟩:=I.lstM hH;obtain⟨u,hu,ru⟩:=r.get hy;have hy':its.toArray[its.toArray.size-1]?=Z u:=by show its.toArray[its.length-1]?=Z u;rw[<-ZCe,<-hl];exact hu
 refine ZFK F.slot_list_pop ⟨_,e,rfl⟩ F.entry_list_pop (F.args_list_pop_1 _) (MeetsSeq.list_pop_last l its.toArray n u hy' (by rw[ZBs]; omega)) ⟨e,?_⟩;refine⟨y,_,I.lset (its':=its.dropLast) hH e ?_ r.dropLast ?_,ru,q⟩
 ·show its.toArray.eraseIdxIfInBounds (its.toArray.size-1)=its.dropLast.toArray
  rw[ZBs,List.eraseIdxIfInBounds_toArray,ZsB]
 ·rw[List.length_dropLast]
  omega
def ZAo:R2:=λx y H Q=>∃l b xs zs,x=.ref l/\y=.ref b/\H l=Z (.lst xs)/\H b=Z (.lst zs)/\xs.length+zs.length<=sizeLine/\∀p,H p=Z_->Q (.ref p) (upd H p (.lst (xs++zs)))
theorem ZyN:OpR X (ZDO .Add) ZAo:=by
 intro pins s σ H x y v u Q I rx ry h;obtain⟨l,b,xs,zs,rfl,rfl,hH,hB,hz,q⟩:=h;cases rx;cases ry;obtain⟨z,its,n,r,hl,e⟩:=I.lstM hH;obtain⟨z2,its2,n2,r2,hl2,e2⟩:=I.lstM hB;refine PySem.P.add_list e e2 ?_ (by rw[ZBs,ZBs]; omega);have ea:its.toArray++its2.toArray=(its++its2).toArray:=by simp
 rw[ea];exact⟨.ref _,_,I.lnew (t':=s.toks) (r.append r2) (by rw[ZBv]; omega),rfl,q _ I.fresh⟩
def ZAI:R2:=λx y H Q=>∃l k xs,x=.ref l/\y=.int k/\H l=Z (.lst xs)/\-(2 ^ 63)<=k/\k<2 ^ 63/\xs.length*k.toNat<=sizeLine /\
 ∀p,H p=Z_->Q (.ref p) (upd H p (.lst (ZBR k.toNat xs).flatten))
theorem len_rep{α:Type}(xs:List α)(k:Nat):(ZBR k xs).flatten.length=k*xs.length:=by
 induction k with
 | zero=>simp
 | succ k ih=>rw[ZC4,ZDG,ZBv,ih,Nat.succ_mul,Nat.add_comm]
theorem Zzh:OpR X (ZDO .Mult) ZAI:=by
 intro pins s σ H x y v u Q I rx ry h;obtain⟨l,k,xs,rfl,rfl,hH,h1,h2,hz,q⟩:=h;cases rx;obtain⟨t,rfl⟩:=ry;obtain⟨z,its,n,r,hl,e⟩:=I.lstM hH;have hlen:its.toArray.size*k.toNat<=sizeLine:=by rw[ZBs,<-hl]; exact hz
 have hcap:¬its.toArray.size*k.toNat > (2 ^ 63-1) / 8:=by
  have:(sizeLine:Nat)<=(2 ^ 63-1) / 8:=by decide
  omega
 have hfit:¬(!Builtin.List.listFitsIndex k)=ZGH:=by rw[fitsIndex_both h1 h2];exact ZB3
 have hlong:¬ZDP (its.toArray.size*k.toNat)=ZGH:=by rw[ZpJ hlen];exact ZB3
 have hnew:List.foldl (λx1 x2=>x1++x2) #[] (ZBR (if its.toArray.isEmpty=ZGH then 0 else k.toNat) its.toArray)=(ZBR k.toNat its).flatten.toArray:=by
  have f0:∀m:Nat,List.foldl (λx1 x2=>x1++x2) #[] (ZBR m its.toArray)=(ZBR m its).flatten.toArray:=λm=>by have:=foldl_rep its m [];rw[ZDk]at this;exact this
  rw[f0];cases its with
  | nil=>simp
  | cons a r'=>rw[if_neg (by simp)]
 refine wpAny_binaryOp_repeat_ref (T:="list") (U:="int") (by decide) ⟨_,e,rfl⟩ (λs'=>typeIs_int s' k t) noFill_list_mul F.fills_int_mul F.slot_int_rmul repeat_list F.slot_int_index.lookup
  (ZFK F.slot_int_rmul (typeIs_int s k t) F.entry_int_rmul (F.args_int_rmul_2 _ _) (int___rmul___int_list k t l its.toArray n)
   ⟨e,rfl,⟨_,e,rfl⟩,ZFK F.slot_list_mul ⟨_,e,rfl⟩ F.entry_list_mul (F.args_list_mul_2 _ _) (AutoListH.list___mul___list_int_3 l its.toArray n k t hfit hcap hlong) ⟨e,?_⟩⟩)
 rw[hnew];exact⟨.ref _,_,I.lnew (t':=s.toks) (r.rep k.toNat) (by rw[len_rep,Nat.mul_comm]; exact hz),rfl,q _ I.fresh⟩
end
end
section
section
variable{κ:Type}[DecidableEq κ]
def ZaZ(kvs:List (κ × V))(k:κ):Option V:=(kvs.find? λkv=>decide (kv.1=k)).map (·.2)
def putK(kvs:List (κ × V))(k:κ)(v:V):List (κ × V) :=
 if(kvs.any λkv=>decide (kv.1=k))=ZGH then kvs.map (λkv=>if kv.1=k then(kv.1,v)else kv)else kvs++[(k,v)]
theorem Zev{p:κ × V}{r:List (κ × V)}{k:κ}(e:p.1=k):ZaZ (p::r) k=Z p.2:=by simp[ZaZ,ZCc,e]
theorem Zeq{p:κ × V}{r:List (κ × V)}{k:κ}(e:¬p.1=k):ZaZ (p::r) k=ZaZ r k:=by simp[ZaZ,ZCc,e]
theorem Zlm(k:κ):∀kvs:List (κ × V),(kvs.any λkv=>decide (kv.1=k))=(ZaZ kvs k).isSome
 | []=>rfl
 | p::r=>by
  rw[ZDZ]
  by_cases e:p.1=k
  ·simp only[Zev e,decide_eq_true e,Bool.true_or,Option.isSome_some]
  ·rw[Zeq e,decide_eq_false e,ZFt]; exact Zlm k r
theorem ZhT(kvs:List (κ × V))(k:κ)(v:V):(putK kvs k v).length<=kvs.length+1:=by
 unfold putK;split
 ·rw[ZBb]; omega
 ·rw[ZBv,ZBy,List.length_nil]; omega
theorem Zf3.isSome_eq{u:Option Value}(r:Zf3 o u):o.isSome=u.isSome:=by
 cases o with
 | none=>cases u with
  | none=>rfl
  | some _=>exact(show False from r).elim
 | some _=>cases u with
  | none=>exact(show False from r).elim
  | some _=>rfl
theorem Zf3.getD{o:Option V}{u:Option Value}{d:V}{d':Value}(r:Zf3 o u)(rd:RelV d d'):RelV (o.getD d) (u.getD d'):=by
 cases o with
 | none=>cases u with
  | none=>exact rd
  | some _=>exact(show False from r).elim
 | some _=>cases u with
  | none=>exact(show False from r).elim
  | some _=>exact r
theorem KV.val{kvs:List (κ × V)}{vs:List (κ × Value)}(r:KV kvs vs)(k:κ):Zf3 (ZaZ kvs k) (valueAt vs k):=by
 unfold KV at r
 induction r with
 | nil=>exact ZEw
 | @cons p q ps qs h t ih =>
  obtain⟨h1,h2⟩:=h
  by_cases e:p.1=k
  ·have e':q.1=k:=h1.symm.trans e
   have b:valueAt (q::qs) k=Z q.2:=by simp[valueAt,ZCc,e']
   rw[Zev e,b]; exact h2
  ·have e':¬q.1=k:=λz=>e (h1.trans z)
   have b:valueAt (q::qs) k=valueAt qs k:=by simp[valueAt,ZCc,e']
   rw[Zeq e,b]; exact ih
theorem KV.any{kvs:List (κ × V)}{vs:List (κ × Value)}(r:KV kvs vs)(k:κ):(kvs.any λkv=>decide (kv.1=k))=vs.any λkv=>decide (kv.1=k):=by
 unfold KV at r
 induction r with
 | nil=>rfl
 | cons h t ih=>rw[ZDZ,ZDZ,ih,h.1]
theorem KV.repl{kvs:List (κ × V)}{vs:List (κ × Value)}(r:KV kvs vs)(k:κ)(ry:RelV y u) :
  KV (kvs.map λkv=>if kv.1=k then(kv.1,y)else kv) (vs.map λkv=>if kv.1=k then(kv.1,u)else kv):=by
 unfold KV at r ⊢
 induction r with
 | nil=>exact .nil
 | @cons p q ps qs h t ih =>
  rw[ZBn,ZBn];refine .cons ?_ ih;obtain⟨h1,h2⟩:=h
  by_cases e:p.1=k
  ·rw[if_pos e,if_pos (h1.symm.trans e)]; exact⟨h1,ry⟩
  ·rw[if_neg e,if_neg (λz=>e (h1.trans z))]; exact⟨h1,h2⟩
theorem KV.put{kvs:List (κ × V)}{vs:List (κ × Value)}(r:KV kvs vs)(k:κ)(ry:RelV y u):KV (putK kvs k y) (stored vs k u):=by
 unfold putK stored;rw[r.any k]
 by_cases e:(vs.any λkv=>decide (kv.1=k))=ZGH
 ·rw[if_pos e,if_pos e]; exact r.repl k ry
 ·rw[if_neg e,if_neg e]; exact Paired.snoc r ⟨rfl,ry⟩
theorem KV.length{kvs:List (κ × V)}{vs:List (κ × Value)}(r:KV kvs vs):kvs.length=vs.length:=ZDY r
end
theorem Zi3{k:Key}(r:RelV (kV k) u):(Zay P w).is k u=ZGH:=by
 cases k with
 | inl i=>obtain⟨t,e⟩:=(show ∃t,u=ZC9 i t from r); subst e; exact Zre P w i t
 | inr x=>obtain⟨t,e⟩:=(show ∃t,u=Value.str x t from r); subst e; exact Zrc P w x t
theorem ZnF{P:Program}{w:World}:∀{ks:List Key} {us:List Value},Vals (ks.map kV) us->ItemsAre (Zay P w) ks us
 | [],_,r=>by rw[ZDw]at r; cases r; exact .nil
 | k::ks,_,r=>by
  rw[ZBn]at r;cases r with
  | cons h t=>exact .cons (Zi3 h) (ZnF t)
abbrev KT(H:Hp):List (List Key × V)->List (List Key × Addr × Value)->Prop:=Paired λp q=>p.1=q.1/\H q.2.1=Z (.tup (p.1.map kV))/\RelV p.2 q.2.2
theorem KT.val(r:KT H kvs xs)(k:List Key):Zf3 (ZaZ kvs k) ((atKey xs k).map (·.2)):=by
 induction r with
 | nil=>exact ZEw
 | @cons p q ps qs h t ih =>
  obtain⟨h1,_,h2⟩:=h
  by_cases e:p.1=k
  ·have e':q.1=k:=h1.symm.trans e
   have b:atKey (q::qs) k=Z q.2:=by simp[atKey,ZCc,e']
   rw[Zev e,b]; exact h2
  ·have e':¬q.1=k:=λz=>e (h1.trans z)
   have b:atKey (q::qs) k=atKey qs k:=by simp[atKey,ZCc,e']
   rw[Zeq e,b]; exact ih
theorem KT.repl(r:KT H kvs xs)(k:List Key)(ry:RelV y u) :
  KT H (kvs.map λkv=>if kv.1=k then(kv.1,y)else kv) (xs.map (putAt k u)):=by
 induction r with
 | nil=>exact .nil
 | @cons p q ps qs h t ih =>
  rw[ZBn,ZBn];refine .cons ?_ ih;obtain⟨h1,h2,h3⟩:=h;unfold putAt
  by_cases e:p.1=k
  ·rw[if_pos e,if_pos (h1.symm.trans e)]; exact⟨h1,h2,ry⟩
  ·rw[if_neg e,if_neg (λz=>e (h1.trans z))]; exact⟨h1,h2,h3⟩
theorem KT.put(r:KT H kvs xs)(k:List Key)(hb:H b=Z (.tup (k.map kV)))(ry:RelV y u) :
  KT H (putK kvs k y) (storedH xs k b u):=by
 have e:(kvs.any λkv=>decide (kv.1=k))=(atKey xs k).isSome:=by rw[Zlm,(r.val k).isSome_eq,ZCR]
 unfold putK storedH;rw[e]
 by_cases q:(atKey xs k).isSome=ZGH
 ·rw[if_pos q,if_pos q]; exact r.repl k ry
 ·rw[if_neg q,if_neg q]; exact Paired.snoc r ⟨rfl,hb,ry⟩
theorem KT.keeps(r:KT H kvs xs)(ht:∀b ys,H b=Z (.tup ys)->H' b=Z (.tup ys)):KT H' kvs xs :=
 Paired.mapP r λ_ _ z=>⟨z.1,ht _ _ z.2.1,z.2.2⟩
section
variable{P:Program}{w:World}{H:Hp}{h:Heap}{a:Addr}
theorem Zl9{u:HO}(ok:HOk P w H h)(e:Rd H a u):Zab P w H h a u:=e.ok ok
theorem Zhq{kvs:List (Key × V)}(ok:HOk P w H h)(e:Rd H a (.dK kvs)):kvs.length<=sizeLine/\(a==ZCV)=ZGI/\∃vs,KV kvs vs/\h.DictOf (Zay P w) a vs :=
 show Zab P w H h a (.dK kvs) from Zl9 ok e
theorem Zsv{kvs:List (Key × V)}(ok:HOk P w H h)(e:H a=Z (.dK kvs)):kvs.length<=sizeLine/\(a==ZCV)=ZGI/\∃vs,KV kvs vs/\h.DictOf (Zay P w) a vs:=Zhq ok (.inl e)
theorem ZgY{ks:List Key}(ok:HOk P w H h)(e:H a=Z (.tup (ks.map kV))):(ZEn (Zay P w)).is h ks a:=by obtain⟨_,its,r,o,h1,h2,n,h3⟩:=(show Zab P w H h a (.tup (ks.map kV)) from ok a _ e);exact⟨o,its.toArray,n,h1,h2,h3,by simpa using ZnF r⟩
theorem ZiT(ok:HOk P w H h)(e:Rd H a (.dT kvs)):kvs.length<=sizeLine/\(a==ZCV)=ZGI /\
  ∃xs,KT H kvs xs/\h.DictOfH (ZEn (Zay P w)) a xs:=by
 obtain⟨z,y,xs,r,o,es,ep,h1,h2,h3,h4,h5⟩:=(show Zab P w H h a (.dT kvs) from Zl9 ok e);refine⟨z,y,xs,r,o,es,ep,h1,h2,h3,h4,λx hx=>?_,h5⟩;have all:∀{l:List (List Key × V)} {m:List (List Key × Addr × Value)},KT H l m->∀x∈m,(ZEn (Zay P w)).is h x.1 x.2.1:=by
  intro l m q
  induction q with
  | nil=>intro x hx; exact nomatch hx
  | @cons p q ps qs hq t ih =>
   intro x hx;rcases ZBq.mp hx with e | hx
   ·subst e
    exact ZgY ok (by rw[<-hq.1]; exact hq.2.1)
   ·exact ih x hx
 exact all r x hx
theorem Zwf(ok:HOk P w H h)(e:H a=Z (.dT kvs)):kvs.length<=sizeLine/\(a==ZCV)=ZGI /\
  ∃xs,KT H kvs xs/\h.DictOfH (ZEn (Zay P w)) a xs:=ZiT ok (.inl e)
end
def ZdK(H:Hp)(a:Addr)(y:V)(r:Option V):Prop :=
 (∃kvs k,Rd H a (.dK kvs)/\y=kV k/\r=ZaZ kvs k)\/∃kvs k b,Rd H a (.dT kvs)/\y=.ref b/\H b=Z (.tup (k.map kV))/\r=ZaZ kvs k
def ZjS(H:Hp)(a:Addr)(y v:V)(H':Hp):Prop :=
 (∃kvs k,H a=Z (.dK kvs)/\y=kV k/\kvs.length<sizeLine/\H'=upd H a (.dK (putK kvs k v))) \/
 ∃kvs k b,H a=Z (.dT kvs)/\y=.ref b/\H b=Z (.tup (k.map kV))/\kvs.length<sizeLine/\H'=upd H a (.dT (putK kvs k v))
theorem ZdK.k{H:Hp}{a:Addr}{kvs:List (Key × V)}{k:Key}(e:H a=Z (.dK kvs)):ZdK H a (kV k) (ZaZ kvs k):=.inl ⟨kvs,k,.inl e,rfl,rfl⟩
theorem ZdK.t{k:List Key}(e:H a=Z (.dT kvs))(eb:H b=Z (.tup (k.map kV))):ZdK H a (.ref b) (ZaZ kvs k):=.inr ⟨kvs,k,b,.inl e,rfl,eb,rfl⟩
theorem ZjS.k{H:Hp}{a:Addr}{kvs:List (Key × V)}{k:Key}{v:V}(e:H a=Z (.dK kvs))(hl:kvs.length<sizeLine):ZjS H a (kV k) v (upd H a (.dK (putK kvs k v))):=.inl ⟨kvs,k,e,rfl,hl,rfl⟩
theorem ZjS.t{k:List Key}{v:V}(e:H a=Z (.dT kvs))(eb:H b=Z (.tup (k.map kV)))(hl:kvs.length<sizeLine) :
  ZjS H a (.ref b) v (upd H a (.dT (putK kvs k v))):=.inr ⟨kvs,k,b,e,rfl,eb,hl,rfl⟩
section
variable{X:Cx}{pins:List (Addr × Obj)}{σ:St}{H:Hp}{s:Shared}{a:Addr}{y v:V}{u r:Value}{o:Option V}{A:Around}{E:Value->Shared->Prop}
theorem Inv.big(I:Inv X pins σ H s):ZCV<s.heap.objs.size:=by have h:ZBT<s.heap.objs.size:=(I.mod.glob.keeps I.bk).lt;exact ZDl (by decide) h
theorem ZtZ(hu:A.units+1<cLine)(I:Inv X pins σ H s)(g:ZdK H a y (Z v))(ry:RelV y u)(h:∀w' s',Inv X pins σ H s'->RelV v w'->Q w' s') :
  wpAny (model X.prog X.w) A (getItem (.ref a) u) Q E s:=by
 rcases g with⟨kvs,k,e,ey,l⟩ | ⟨kvs,k,b,e,ey,eb,l⟩
 ·subst ey
  obtain⟨z,hd,vs,rel,dd⟩:=Zhq I.hok e;obtain⟨w',hw,rw'⟩:=Zf3.some_of (v:=v) (o:=valueAt vs k) (by rw[l]; exact rel.val k);exact wpAny_getItem_of (Zi3 ry) dd.mapOf hw (h w' _ (I.tok _) rw')
 ·subst ey
  cases(show u=ZB2 b from ry);obtain⟨z,hd,xs,rel,dd⟩:=ZiT I.hok e;obtain⟨w',hw,rw'⟩:=Zf3.some_of (v:=v) (o:=(atKey xs k).map (·.2)) (by rw[l]; exact rel.val k);obtain⟨p,hp,hp2⟩:=ZBc.mp hw;refine wpAny_getItem_heap (ZDx hu) (ZgY I.hok eb) dd hp ?_;rw[hp2];exact h w' _ (I.tok _) rw'
theorem ZAr(hu:A.units+1<cLine)(I:Inv X pins σ H s)(g:ZdK H a y o)(ry:RelV y u)(h:∀s',Inv X pins σ H s'->Q (.bool o.isSome) s') :
  wpAny (model X.prog X.w) A (ZCx .In u (.ref a)) Q E s:=by
 rcases g with⟨kvs,k,e,ey,l⟩ | ⟨kvs,k,b,e,ey,eb,l⟩
 ·subst ey
  obtain⟨z,hd,vs,rel,dd⟩:=Zhq I.hok e;refine wpAny_in_of (Zi3 ry) hd dd.mapOf ?_;rw[<-(rel.val k).isSome_eq,<-l];exact h _ (I.tok _)
 ·subst ey
  cases(show u=ZB2 b from ry);obtain⟨z,hd,xs,rel,dd⟩:=ZiT I.hok e;refine wpAny_in_heap (ZDx hu) (ZgY I.hok eb) hd dd ?_;have q:=(rel.val k).isSome_eq;rw[ZCR]at q;rw[<-q,<-l];exact h _ (I.tok _)
theorem ZwS(hu:A.units+1<cLine)(I:Inv X pins σ H s)(g:ZdK H a y o)(ry:RelV y u)(h:∀s',Inv X pins σ H s'->Q (.bool (!o.isSome)) s') :
  wpAny (model X.prog X.w) A (ZCx .NotIn u (.ref a)) Q E s:=by
 rcases g with⟨kvs,k,e,ey,l⟩ | ⟨kvs,k,b,e,ey,eb,l⟩
 ·subst ey
  obtain⟨z,hd,vs,rel,dd⟩:=Zhq I.hok e;refine wpAny_notIn_of (Zi3 ry) hd dd.mapOf ?_;rw[<-(rel.val k).isSome_eq,<-l];exact h _ (I.tok _)
 ·subst ey
  cases(show u=ZB2 b from ry);obtain⟨z,hd,xs,rel,dd⟩:=ZiT I.hok e;refine wpAny_notIn_heap (ZDx hu) (ZgY I.hok eb) hd dd ?_;have q:=(rel.val k).isSome_eq;rw[ZCR]at q;rw[<-q,<-l];exact h _ (I.tok _)
theorem Zkv{ob:HO}(I:Inv X pins σ H s)(mu:Mut (H a))(hs:ZC5 a s.heap h')(he:∃q,h'.get? a=Z q)(new:Zab X.prog X.w (upd H a ob) h' a ob) :
  Inv X pins σ (upd H a ob) { s with heap:=h',toks:=t' } :=
 I.write (x:=a) (e:=a) mu (.inl rfl) (λb q hb z=>(hs.2 b hb).trans z) he new
theorem Ztw{kvs:List (Key × V)}{vs:List (Key × Value)}(z:kvs.length<=sizeLine)(hd:(a==ZCV)=ZGI)(rel:KV kvs vs)(dd:h'.DictOf (Zay P w) a vs) :
  Zab P w H' h' a (.dK kvs):=⟨z,hd,vs,rel,dd⟩
theorem ZtR{Q:Unit->Shared->Prop}(hu:A.units+1<cLine)(I:Inv X pins σ H s)(g:ZjS H a y v H')(ry:RelV y u)(rv:RelV v r)(h:∀s',Inv X pins σ H' s'->Q () s') :
  wpAny (model X.prog X.w) A (setItem (.ref a) u r) Q E s:=by
 rcases g with⟨kvs,k,e,ey,l,eH⟩ | ⟨kvs,k,b,e,ey,eb,l,eH⟩
 ·subst ey eH
  obtain⟨z,hd,vs,rel,dd⟩:=Zsv I.hok e;have hz:vs.length<=sizeLine:=by rw[<-rel.length]; exact z
  have hl:(putK kvs k v).length<=sizeLine:=by have:=ZhT kvs k v; omega
  refine wpAny_setItem_pairs (hsz:=hz) (Zi3 ry) dd λh' dd' hs=>h _ ?_;have he:∃q,h'.get? a=Z q:=let ⟨q,_,_,hq,_⟩:=dd'; ⟨q,hq⟩
  exact Zkv I (by rw[e]; exact ZEw) hs he (Ztw hl hd (rel.put k rv) dd')
 ·subst ey eH
  cases(show u=ZB2 b from ry);obtain⟨z,hd,xs,rel,dd⟩:=Zwf I.hok e;have hz:xs.length<=sizeLine:=by rw[<-ZDY rel]; exact z
  have hl:(putK kvs k v).length<=sizeLine:=by have:=ZhT kvs k v; omega
  refine wpAny_setItem_heap (hsz:=hz) (ZDx hu) (ZgY I.hok eb) dd λh' dd' hs=>h _ ?_;obtain⟨q,es,ep,hq,h2,h3,h4,_,h5⟩:=dd';refine Zkv I (by rw[e]; exact ZEw) hs ⟨q,hq⟩ ⟨hl,hd,_,(rel.put k eb rv).keeps λc ys ec=>?_,q,es,ep,hq,h2,h3,h4,h5⟩;rw[ZA (Zwa ec e (λz=>nomatch z))];exact ec
end
section
variable{X:Cx}{pins:List (Addr × Obj)}{σ:St}{H:Hp}{s:Shared}{a:Addr}{kvs:List (Key × V)}{k:Key}{u:Value}{A:Around}{E:Value->Shared->Prop}
theorem ZzT(I:Inv X pins σ H s)(e:Rd H a (.dK kvs))(h:∀t s',Inv X pins σ H s'->Q (.int kvs.length t) s'):wpAny (model X.prog X.w) A (call (.builtin "len") [.ref a]) Q E s:=by obtain⟨z,hd,vs,rel,dd⟩:=Zhq I.hok e;refine call_len_dict hd dd (by rw[<-rel.length]; rw[ZCN]at z; omega) ?_;rw[<-rel.length];exact h _ _ (I.tok _)
end
def Zs0(i:Expr):Prop:=∀ov iv,ZGe i ZGI ov iv=operate [ov,iv] (getItem ov iv)
theorem Zxo{prog:Program}{E:Value->Shared->Prop}{env:Env}{value slice:Expr}{id:String}
  (hl:typeLookup (.type T) "__getitem__" = pure (Z (.builtin id))) (hs:Zs0 slice)
  (h:wpAny (model prog w) A (eval value env) (λo s₁=>wpAny (model prog w) A (eval slice env) (λi s₂=>s₂.TypeIs o T/\wpAny (model prog w) A (getItem o i) Q E s₂) E s₁) E s) :
  wpAny (model prog w) A (eval (.Subscript value slice pos) env) Q E s:=by
 refine Subscript_ (ZCH h (λo s₁ h₁=>ZCH h₁ (λi s₂ h₂=>?_) λ_ _ x=>x) λ_ _ x=>x);obtain⟨hT,h₂⟩:=h₂;unfold subscriptTail;refine ZBa ?_;rw[getitemInPython_of_ne hT.not_modules];refine ZBa (wpAny_specialOf hT hl ?_);have fin:wpAny (model prog w) A (ZGe slice ZGI o i) (λr s₃=>wpAny (model prog w) A (letTemporaryGo value o r >>= λ_=>pure r) Q E s₃) E s₂:=by rw[hs o i];exact wpAny_operating (ZCH h₂ (λr s₃ h₃=>ZBa (wpAny_letTemporaryGo (ZBe h₃))) λ_ _ x=>x)
 first
  | exact ZBe (ZBa fin)
  | exact ZBa (ZBe (ZBa fin))
  | exact ZBa fin
theorem Zq2(I:Inv X pins σ H s)(g:ZdK H a y o):s.TypeIs (.ref a) "dict":=by
 rcases g with⟨kvs,k,e,_,_⟩ | ⟨kvs,k,b,e,_,_,_⟩
 ·obtain⟨_,_,vs,_,dd⟩:=Zhq I.hok e
  exact dd.typeIs
 ·obtain⟨_,_,xs,_,dd⟩:=ZiT I.hok e
  exact dd.typeIs
def ZzH(td ty:TE):TE:=λσ H Q=>td σ H λx H1=>ty σ H1 λy H2=>∃a v,x=.ref a/\ZdK H2 a y (Z v)/\Q v H2
def ZAz(ty td:TE):TE:=λσ H Q=>ty σ H λy H1=>td σ H1 λx H2=>∃a o,x=.ref a/\ZdK H2 a y o/\Q (.bl o.isSome) H2
def ZwD(ty td:TE):TE:=λσ H Q=>ty σ H λy H1=>td σ H1 λx H2=>∃a o,x=.ref a/\ZdK H2 a y o/\Q (.bl (!o.isSome)) H2
def ZzW(td ty tv:TE):TS:=λD σ H=>tv σ H λv H1=>td σ H1 λx H2=>ty σ H2 λy H3=>∃a H4,x=.ref a/\ZjS H3 a y v H4/\D.nx σ H4
section
variable{X:Cx}{o i e value:Expr}{pos pos' tpos:Pos}{td ty tv:TE}
theorem ZrF(hu:X.A.units+1<cLine)(ho:PE X o td)(hi:PE X i ty)(hs:Zs0 i):PE X (.Subscript o i pos) (ZzH td ty):=by intro pins s σ H Q I h;refine Zxo PySem.F.slot_dict_getitem.lookup hs (thn (ho pins s σ H _ I h) λu s1 ⟨x,H1,I1,rx,q1⟩=>thn (hi pins s1 σ H1 _ I1 q1) λiv s2 ⟨y,H2,I2,ry,a,v,ex,g,q2⟩=>?_);subst ex;obtain rfl:u=ZB2 a:=rx;exact⟨Zq2 I2 g,ZtZ hu I2 g ry λw' s3 I3 rw'=>⟨v,H2,I3,rw',q2⟩⟩
theorem Zy8(hu:X.A.units+1<cLine)(hi:PE X i ty)(ho:PE X o td):PC X .In i o (ZAz ty td):=by intro pins s σ H Q I h;refine thn (hi pins s σ H _ I h) λiv s1 ⟨y,H1,I1,ry,q1⟩=>thn (ho pins s1 σ H1 _ I1 q1) λu s2 ⟨x,H2,I2,rx,a,ov,ex,g,q2⟩=>?_;subst ex;obtain rfl:u=ZB2 a:=rx;exact ZAr hu I2 g ry λs3 I3=>⟨.bl ov.isSome,H2,I3,rfl,q2⟩
theorem ZtH(hu:X.A.units+1<cLine)(hi:PE X i ty)(ho:PE X o td):PC X .NotIn i o (ZwD ty td):=by intro pins s σ H Q I h;refine thn (hi pins s σ H _ I h) λiv s1 ⟨y,H1,I1,ry,q1⟩=>thn (ho pins s1 σ H1 _ I1 q1) λu s2 ⟨x,H2,I2,rx,a,ov,ex,g,q2⟩=>?_;subst ex;obtain rfl:u=ZB2 a:=rx;exact ZwS hu I2 g ry λs3 I3=>⟨.bl (!ov.isSome),H2,I3,rfl,q2⟩
theorem ZrJ(hu:X.A.units+1<cLine)(ho:PE X o td)(hi:PE X i ty)(hv:PE X value tv)(hs:ZDM value (Z (.Subscript o i pos')) pos.line X.env=pure ZGI) :
  PS X (.Assign [.Subscript o i pos'] value pos) (ZzW td ty tv):=by
 intro pins s σ H D I h;refine wpAny_Assign_Subscript (thn (hv pins s σ H _ I h) λr s1 ⟨v,H1,I1,rv,q1⟩=>thn (ho pins s1 σ H1 _ I1 q1) λu s2 ⟨x,H2,I2,rx,q2⟩=>thn (hi pins s2 σ H2 _ I2 q2) λiv s3 ⟨y,H3,I3,ry,a,H4,ex,g,q3⟩=>?_) hs;subst ex;obtain rfl:u=ZB2 a:=rx;exact ZtR hu I3 g ry rv λs4 I4=>⟨σ,H4,I4,q3⟩
end
theorem ZpZ(h:Heap)(hb:ZCV<h.objs.size):Zab P w H (h.push { cls:=.type "dict",data:=.dict #[] }) h.objs.size (.dK []) :=
 ⟨ZCC _,beq_eq_false_iff_ne.mpr (ZCn (ZBA hb)),[],.nil,Heap.DictOf.new h⟩
theorem Zvg(h:Heap)(hb:ZCV<h.objs.size):Zab P w H (h.push { cls:=.type "dict",data:=.dict #[] }) h.objs.size (.dT []) :=
 ⟨ZCC _,beq_eq_false_iff_ne.mpr (ZCn (ZBA hb)),[],.nil,_,#[],0,ZBw _ rfl,⟨rfl,rfl,rfl⟩,rfl,rfl,ZDb⟩
def Zyf:TE:=λ_ H Q=>∀p,H p=Z_->Q (.ref p) (upd H p (.dK []))
def Zx5:TE:=λ_ H Q=>∀p,H p=Z_->Q (.ref p) (upd H p (.dT []))
section
variable{X:Cx}{pos:Pos}
theorem Zvn:PE X (.Dict [] [] pos) Zyf:=λpins s σ H Q I h=>wpAny_Dict_empty ⟨.ref s.heap.objs.size,_,I.laid (a:=s.heap.objs.size) (o:=.dK []) (t':=s.toks) (λ_ _ q=>ZBg _ q) (ZBl _) (ZpZ s.heap I.big),rfl,h _ (I.hok.fresh (ZBl _))⟩
theorem Zql:PE X (.Dict [] [] pos) Zx5:=λpins s σ H Q I h=>wpAny_Dict_empty ⟨.ref s.heap.objs.size,_,I.laid (a:=s.heap.objs.size) (o:=.dT []) (t':=s.toks) (λ_ _ q=>ZBg _ q) (ZBl _) (Zvg s.heap I.big),rfl,h _ (I.hok.fresh (ZBl _))⟩
end
def Zqr:List (TE × TE)->St->Hp->(List (V × V)->Hp->Prop)->Prop
 | [],_,H,Q=>Q [] H
 | (tk,tv)::r,σ,H,Q=>tk σ H λx H1=>tv σ H1 λy H2=>Zqr r σ H2 λps H3=>Q ((x,y)::ps) H3
abbrev VV:List (V × V)->List (Value × Value)->Prop:=Paired λp q=>RelV p.1 q.1/\RelV p.2 q.2
def PPs(X:Cx)(pos:Pos)(keys:List (Option Expr))(values:List Expr)(trs:List (TE × TE)):Prop :=
 ∀(pins:List (Addr × Obj)) (s:Shared) (σ:St) (H:Hp) (Q:List (V × V)->Hp->Prop),Inv X pins σ H s->Zqr trs σ H Q ->
  wpAny (model X.prog X.w) X.A (evalPairs (pairTrees keys values X.env pos)) (λvs s'=>∃ps H',Inv X pins σ H' s'/\VV ps vs/\Q ps H') X.xe s
theorem Zw6:PPs X pos [] [] []:=λpins s σ H Q I h=>pairTrees_nil_walk ⟨[],H,I,.nil,h⟩
theorem Zv6{k v:Expr}{ks:List (Option Expr)}{vs:List Expr}{tk tv:TE}{trs:List (TE × TE)}(hk:PE X k tk)(hv:PE X v tv)(hr:PPs X pos ks vs trs) :
  PPs X pos (Z k::ks) (v::vs) ((tk,tv)::trs):=λpins s σ H Q I h =>
 pairTrees_cons_walk (thn (hk pins s σ H _ I h) λu s1 ⟨x,H1,I1,rx,q1⟩=>thn (hv pins s1 σ H1 _ I1 q1) λw2 s2 ⟨y,H2,I2,ry,q2⟩=>thn (hr pins s2 σ H2 _ I2 q2) λws s3 ⟨ps,H3,I3,rel,q3⟩=>⟨(x,y)::ps,H3,I3,.cons ⟨rx,ry⟩ rel,q3⟩)
def Zig(kvs more:List (Key × V)):List (Key × V):=more.foldl (λacc kv=>putK acc kv.1 kv.2) kvs
theorem KV.merge:∀{more:List (Key × V)} {rs:List (Key × Value)} {kvs:List (Key × V)} {vs:List (Key × Value)},KV more rs->KV kvs vs->KV (Zig kvs more) (merged vs rs):=by
 intro more rs kvs vs r;unfold KV at r
 induction r generalizing kvs vs with
 | nil=>intro q; exact q
 | @cons p q ps qs h t ih =>
  intro r0;have e:KV (putK kvs p.1 p.2) (stored vs q.1 q.2):=by have:=r0.put p.1 h.2;rw[<-h.1]; exact this
  exact ih e
theorem Zje:∀(more kvs:List (Key × V)),(Zig kvs more).length<=kvs.length+more.length
 | [],kvs=>by show kvs.length<=kvs.length+0; omega
 | p::r,kvs=>by have h1:=Zje r (putK kvs p.1 p.2);have h2:=ZhT kvs p.1 p.2;show(Zig (putK kvs p.1 p.2) r).length<=_;rw[ZBy]; omega
theorem Zme{P:Program}{w:World}:∀{kvs:List (Key × V)} {ws:List (Value × Value)},VV (kvs.map λkv=>(kV kv.1,kv.2)) ws->∃rs,Carries (Zay P w) ws rs/\KV kvs rs
 | [],_,r=>by rw[ZDw]at r; cases r; exact⟨[],ZEw,.nil⟩
 | p::kvs,_,r=>by
  rw[ZBn]at r;cases r with
  | @cons a b as bs h t=>obtain⟨rs,c,q⟩:=Zme (P:=P) (w:=w) t;obtain⟨b1,b2⟩:=b;exact⟨(p.1,b2)::rs,⟨Zi3 h.1,rfl,c⟩,.cons ⟨rfl,h.2⟩ q⟩
def ZzR(trs:List (TE × TE)):TE:=λσ H Q=>∀p,H p=Z_->Zqr trs σ (upd H p (.dK [])) λps H2=>H2 p=Z (.dK [])/\∃kvs:List (Key × V),ps=kvs.map (λkv=>(kV kv.1,kv.2))/\kvs.length<=15/\Q (.ref p) (upd H2 p (.dK (Zig [] kvs)))
theorem ZxJ{keys:List (Option Expr)}{values:List Expr}{trs:List (TE × TE)}(h:PPs X pos keys values trs)(hall:keys.all (·.isSome)=ZGH)(hl:keys.length=values.length)(h0:keys≠[])
  (h15:keys.length<=15):PE X (.Dict keys values pos) (ZzR trs):=by
 intro pins s σ H Q I q;have hn:=I.hok.fresh (ZBl s.heap.objs.size);have I1:=I.laid (a:=s.heap.objs.size) (o:=.dK []) (h':=s.heap.push { cls:=.type "dict",data:=.dict #[] }) (t':=s.toks) (λ_ _ q=>ZBg _ q) (ZBl _) (ZpZ s.heap I.big);refine wpAny_Dict_walk (knd:=Zay X.prog X.w) hall hl h0 h15 (thn (h pins _ σ _ _ I1 (q _ hn)) λws s2 ⟨ps,H2,I2,rel,e,kvs,ep,lk,q2⟩=>?_);subst ep;obtain⟨rs,c,rk⟩:=Zme (P:=X.prog) (w:=X.w) rel;obtain⟨z,hd,vs0,r0,dd⟩:=Zsv I2.hok e;cases r0;refine⟨rs,c,dd,λh' dd' hs=>⟨.ref s.heap.objs.size,_,?_,rfl,q2⟩⟩;have hz:(Zig [] kvs).length<=sizeLine:=by have h1:=Zje kvs [];rw[List.length_nil]at h1;rw[ZCN]; omega
 have he:∃q,h'.get? s.heap.objs.size=Z q:=let ⟨q,_,_,hq,_⟩:=dd'; ⟨q,hq⟩
 exact Zkv I2 (by rw[e]; exact ZEw) hs he (Ztw hz hd (rk.merge .nil) dd')
structure M1(X:Cx)(o:Expr)(m:Str)(apos:Pos)(e:Expr)(cpos:Pos):Prop where
 base:ZDD o m X.env (eval o X.env)=eval o X.env
 few:((backTo cpos (ZBp [e] X.env)).all (λx=>!x.1)&&(ZFT cpos (ZEM [] X.env)).all (λx=>x.1.isSome)
  && decide (([e]:List Expr).length+([]:List Keyword).length+(if([]:List Keyword).isEmpty then 0 else 1)<30))=ZGH
 line:(apos.endLine==cpos.line)=ZGH
 trees:backTo cpos (ZBp [e] X.env)=[(ZGI,eval e X.env)]
structure M2(X:Cx)(o:Expr)(m:Str)(apos:Pos)(e f:Expr)(cpos:Pos):Prop where
 base:ZDD o m X.env (eval o X.env)=eval o X.env
 few:((backTo cpos (ZBp [e,f] X.env)).all (λx=>!x.1)&&(ZFT cpos (ZEM [] X.env)).all (λx=>x.1.isSome)
  && decide (([e,f]:List Expr).length+([]:List Keyword).length+(if([]:List Keyword).isEmpty then 0 else 1)<30))=ZGH
 line:(apos.endLine==cpos.line)=ZGH
 trees:backTo cpos (ZBp [e,f] X.env)=[(ZGI,eval e X.env),(ZGI,eval f X.env)]
def IsD(H:Hp)(a:Addr):Prop:=(∃kvs,Rd H a (.dK kvs))\/∃kvs,Rd H a (.dT kvs)
theorem Ztg(I:Inv X pins σ H s)(d:IsD H a) :
  s.TypeIs (.ref a) "dict"/\(∀b,ZB2 a=.ref b->∃ob,s.heap.get? b=Z ob/\ob.dict=Z_)/\(a==ZCV)=ZGI:=by
 rcases d with⟨kvs,e⟩ | ⟨kvs,e⟩
 ·obtain⟨_,hd,vs,_,dd⟩:=Zhq I.hok e
  refine⟨dd.typeIs,λb q=>?_,hd⟩;cases q;obtain⟨ob,_,_,h1,h2,_⟩:=dd;exact⟨ob,h1,h2.2.1⟩
 ·obtain⟨_,hd,xs,_,dd⟩:=ZiT I.hok e
  refine⟨dd.typeIs,λb q=>?_,hd⟩;cases q;obtain⟨ob,_,_,h1,h2,_⟩:=dd;exact⟨ob,h1,h2.2.1⟩
section
variable{X:Cx}{pins:List (Addr × Obj)}{σ:St}{H:Hp}{s:Shared}{a:Addr}{y d:V}{u r:Value}{o:Option V}{A:Around}{E:Value->Shared->Prop}
theorem Zyo(hu:A.units+1<cLine)(I:Inv X pins σ H s)(g:ZdK H a y o)(ry:RelV y u)(h:∀w' s',Inv X pins σ H s'->RelV (o.getD .non) w'->Q w' s') :
  wpAny (model X.prog X.w) A (call (.builtin "dict.get") [.ref a,u]) Q E s:=by
 rcases g with⟨kvs,k,e,ey,l⟩ | ⟨kvs,k,b,e,ey,eb,l⟩
 ·subst ey
  obtain⟨z,hd,vs,rel,dd⟩:=Zhq I.hok e;refine call_meetsIn ZEX dd.typeIs ZGf (ZF1 _ _) (meets_dict_get (Zay X.prog X.w) a (Zi3 ry) hd) ⟨_,dd.mapOf,h _ _ (I.tok _) ?_⟩;rw[l];exact(rel.val k).getD rfl
 ·subst ey
  cases(show u=ZB2 b from ry);obtain⟨z,hd,xs,rel,dd⟩:=ZiT I.hok e;refine call_meetsIn ZEX dd.typeIs ZGf (ZF1 _ _) (meetsH_dict_get (ZEn (Zay X.prog X.w)) a b hd) ⟨ZDx hu,k,xs,ZgY I.hok eb,dd,h _ _ (I.tok _) ?_⟩;rw[l];exact(rel.val k).getD rfl
end
def Zyl(td ty:TE):TE:=λσ H Q=>td σ H λx H1=>∃a,x=.ref a/\IsD H1 a/\ty σ H1 λy H2=>∃o,ZdK H2 a y o/\Q (o.getD .non) H2
section
variable{X:Cx}{o e f:Expr}{apos cpos:Pos}{td ty tx:TE}
theorem Zv2(hu:X.A.units+1<cLine)(ho:PE X o td)(he:PE X e ty)(m:M1 X o "get" apos e cpos):PE X (.Call (.Attribute o "get" apos) [e] [] cpos) (Zyl td ty):=by intro pins s σ H Q I h;refine wpAny_Call_method m.base m.few m.line ZF2 ZEX PySem.F.type_dict_get (thn (ho pins s σ H _ I h) λu s1 ⟨x,H1,I1,rx,a,ex,d,q1⟩=>?_);subst ex;obtain rfl:u=ZB2 a:=rx;obtain⟨t1,t2,_⟩:=Ztg I1 d;refine⟨t1,t2,?_⟩;rw[m.trees];refine ZD1 rfl (ZE1 (ZEp (thn (he pins s1 σ H1 _ I1 q1) λiv s2 ⟨y,H2,I2,ry,ov,g,q2⟩=>ZFE ?_)));exact Zyo hu I2 g ry λw' s3 I3 rw'=>⟨_,H2,I3,rw',q2⟩
end
end
end L2
namespace Att
open PySem PySem.W PySem.Calls PyProof.Rows
variable{h:Heap}{n:Nat}
theorem Zmd{P:Params}:∀(ns:List Int) (vs:List Value),WellAll P h vs (ns.map WData.int)->IntsAre vs ns:=by
 intro ns
 induction ns with
 | nil=>intro vs w;rw[ZDw]at w;cases w;exact .nil
 | cons n ns ih =>
  intro vs w;rw[ZBn]at w;cases w with
  | cons a b=>cases a;exact .cons _ _ (ih _ b)
theorem ZtV{l:OpenLaw}(hn:l.most=Z n){P:Params}{args:List WData}{vals:List Value}
  (hpre:l.row.toRowW.claim.pre args=ZGH) (hwl:WellAll P h vals args) :
  ∃a vs ns,vals=[ZB2 a]/\args=[WData.list (ns.map WData.int)]/\h.get? a=Z { cls:=.type "list",data:=.seq vs.toArray }/\IntsAre vs ns/\ns.length<=n:=by
 have hsh:WShape.hasAll [] args [.list .int]=ZGH:=(pre_splitW hpre).1;have hc:l.pre.holds [] { args:=args }=ZGH:=(pre_splitW hpre).2;obtain⟨d,r,rfl,h1,h2⟩:=hasAllW_cons hsh;obtain rfl:=hasAllW_nil h2;obtain⟨xs,rfl,h3⟩:=hasW_list h1;obtain⟨ns,rfl⟩:=items_int h3;have hlen:ns.length<=n:=by
  unfold OpenLaw.pre at hc;have h4:(WTm.not (.lt (.lit (.int (n:Int))) (.len (.arg 0)))).holds [] { args:=[.list (ns.map .int)] }=ZGH:=by have h4:=(holds_andW hc).1;rw[hn]at h4;exact h4
  have h5:=condW_of h4 (w_not (w_lt w_lit (w_len_list (w_arg rfl))));rw[ZBb]at h5;refine ZDr λq=>?_;have q':(n:Int)<((ns.length:Nat):Int):=by omega
  first
   | (rw[decide_eq_true q']at h5; exact absurd h5 (by decide))
   | (simp at h5; omega)
 cases hwl with
 | cons w1 w2 =>
  cases w2;cases w1 with
  | list ho hall=>exact⟨_,_,ns,rfl,rfl,ho,Zmd ns _ hall,hlen⟩
theorem Ztl(l:OpenLaw)(args:List WData):l.row.toRowW.claim.post args (.bool ZGH) args=ZGH :=
 postW_of (r:=l.row.toRowW) (X:=(ZGH==ZGH))
  (show WShape.has [] (.bool ZGH) .bool=ZGH by first | rfl | decide | simp[WShape.has,WShape.arms,WShape.armsAll])
  (show(WTm.eq .res (.lit (.bool ZGH))).value [] { args:=args,res:=Z (.bool ZGH),after:=args }=Z (.bool (ZGH==ZGH)) from w_eq_bool (w_res rfl) w_lit) rfl
theorem Zq7{l:OpenLaw}{q:Program}{loose:List Str}{XP:(Str->Option Value)->Heap->Prop}{YP:World->Heap->Prop}{d:DefRec}
  (hn:l.most=Z n) (hdf:d.params.defaults=[])
  (call:∀(w:World) (s₀ s₁:Shared) (mg mb:Str->Option Value) (fa:Addr) (o:Obj) (pm cd doc:Value) (a:Addr) (vs:List Value) (ns:List Int),
   Ground q loose [] XP w s₀ mg mb s₁.heap->YP w s₁.heap ->
   s₁.heap.get? fa=Z o->o.data=.func (docDef d.name d.params d.body d.scope pm cd doc)->s₁.heap.CodeRec cd d.name->mg d.name=Z (.ref fa) ->
   s₁.heap.get? a=Z { cls:=.type "list",data:=.seq vs.toArray }->IntsAre vs ns->ns.length<=n->s₁.gens=#[] ->
   codeAny (model l.prog w) callerA (.call (.ref fa) ⟨[.ref a],[]⟩) (λr s'=>r=.ok (.ret (.bool ZGH))/\OldK s₁.heap s'.heap/\s'.os=s₁.os/\AllBare s'.gens) s₁) :
  WalkO q loose XP YP l.row.toRowW d [] (λf vs=>PySem.call f vs):=by
 intro w s₀ s₁ mg mb G Y fa o pm cd doc dV kV ho hd hcd hD hmg hg args vals as hpre hlay hrd hwl hlo;obtain rfl:dV=.none:=Dflts.none hD hdf;obtain rfl:kV=.none:=Dflts.noKw hD;obtain⟨a,vs,ns,rfl,rfl,hobj,hints,hlen⟩:=ZtV hn hpre hwl;refine enter_call (ZDi (call w s₀ s₁ mg mb fa o pm cd doc a vs ns G Y ho (fd_plain hd) hcd hmg hobj hints hlen hg) λr s' hq=>?_);obtain⟨rfl,h2,h3,h4⟩:=hq;exact⟨.inl ⟨.bool ZGH,.bool ZGH,[],rfl,λ_=>rfl,.bool ZGH,Ztl l _,λ_=>⟨List.Pairwise.nil,λ_ hm=>(nomatch hm)⟩⟩,h2,h3,h4⟩
end Att
namespace L2
open PySem PySem.Spec PyProof.Rows
variable{f:Addr}{H H':Hp}{A:Prop}{st:Stmt}{qual x:Str}
section
theorem Zns:∀{vs:List Value} {ns:List Int},IntsAre vs ns->Vals (ns.map V.int) vs
 | _,_,.nil=>.nil
 | _,_,.cons n t h=>.cons ⟨t,rfl⟩ (Zns h)
end
section
end
section
def Zcg(s:Stmt):Arguments:=match s with
 | .FunctionDef _ a _ _ _ _ _ _ _ _=>a
 | _=>{ posonlyargs:=[],args:=[],vararg:=Z_,kwonlyargs:=[],kw_defaults:=[],kwarg:=Z_,defaults:=[] }
def ZaS(s:Stmt):List Stmt:=match s with
 | .FunctionDef _ _ b _ _ _ _ _ _ _=>b
 | _=>[]
def Ze(s:Stmt):Scope:=match s with
 | .FunctionDef _ _ _ _ _ _ sc _ _ _=>sc
 | _=>{ kind:=.function,names:=[],isGenerator:=ZGI,isCoroutine:=ZGI }
abbrev CX0:CXT:=λ_ _ _ _ _ _=>False
abbrev E0:XK:=λ_ _ _=>False
theorem ZsE{X:Cx}:Passes CX0 X E0:=λ_ _ _ _ _ _ _ h=>h.elim
structure Fun(K:ZBd)(x qual:Str)(st:Stmt)(f:Addr)(fd:FuncData):Prop where
 ex:∃(oc:Value) (od:Option Addr) (kV doc pm:Value) (an:Option Addr) (cdv ct:Value) (osl:Array (Option Value)),
  fd=ZCK x qual (Zcg st) (ZaS st) (Ze st) .none kV doc pm an cdv ct/\K.lookup f=Z ⟨oc,od,.func fd,osl⟩/\ZDq K cdv qual=ZGH
 kp:ZCO K (.ref f)=ZGH
section
variable{P:Program}{w:World}{K:ZBd}{mg:Str->Option Value}{base:Heap}
theorem Fun.ok{x qual:Str}{st:Stmt}{f:Addr}{fd:FuncData}{N ps:List Str}{k:Nat}{sp:Sp}(F:Fun K x qual st f fd)(S:Zr N ps (Ze st))(len:∀vs H Q E,sp vs H Q E->vs.length=ps.length)
  (hbody:∀(cdv:Value) (A:Around) (outer:List Env) (s:Shared) (H:Hp) (vs:List V) (Q:VK) (E:XK),Zav k (A.deeper (envOfC qual (Ze st) s.heap.objs.size f cdv))->sp vs H Q E ->
   ∃t,PSs (Zf8 CX0 P w K mg base N qual (Ze st) f cdv A outer s H E).nox (ZaS st) t/\t { nx:=λ_ H'=>Q .non H',rt:=Q } (start N vs) H):ZdH P w K mg base CX0 (k+1) f fd ps sp:=by
 obtain⟨oc,od,kV,doc,pm,an,cdv,ct,osl,rfl,lk,hcd⟩:=F.ex;refine Zwn lk hcd S len λA outer s H vs Q E hr hsp=>?_;obtain⟨t,h,q⟩:=hbody cdv A outer s H vs Q E hr hsp;exact⟨t,h.nox,q⟩
theorem Fun.binds{fd:FuncData}{ps:List Str}(F:Fun K x qual st f fd)
  (h:∀(kV doc pm:Value) (an:Option Addr) (cdv ct:Value) (us:List Value),us.length=ps.length->bindArgs (ZCK x qual (Zcg st) (ZaS st) (Ze st) .none kV doc pm an cdv ct) ⟨us,[]⟩=pure (ps.zip us)):Binds K fd ps []:=by
 obtain⟨oc,od,kV,doc,pm,an,cdv,ct,osl,rfl,lk,hcd⟩:=F.ex;exact .all (h kV doc pm an cdv ct)
theorem Zpe{oc:Value}{od an:Option Addr}{osl:Array (Option Value)}{kV doc pm cdv ct:Value}(l:K.lookup f=Z ⟨oc,od,.func (ZCK x qual (Zcg st) (ZaS st) (Ze st) .none kV doc pm an cdv ct),osl⟩)
  (c:ZDq K cdv qual=ZGH) (k:ZCO K (.ref f)=ZGH):Fun K x qual st f (ZCK x qual (Zcg st) (ZaS st) (Ze st) .none kV doc pm an cdv ct):=⟨⟨oc,od,kV,doc,pm,an,cdv,ct,osl,rfl,l,c⟩,k⟩
end
theorem Zej{A:Around}{k:Nat}(hr:Zav k A):A.units+1<cLine:=Nat.lt_of_le_of_lt (Nat.add_le_add_left (by decide:1<=64) _) hr.units
theorem Zj2{B:Prop}(h:B):if ZGI=ZGH then A else B:=by rw[if_neg ZB3];exact h
theorem ZjJ{B:Prop}(h:A):if ZGH=ZGH then A else B:=by rw[if_pos rfl];exact h
def Zq(H H':Hp):Prop:=∀b o,H b=Z o->H' b=Z o
theorem Zq.refl(H:Hp):Zq H H:=λ_ _ h=>h
theorem Zq.trans{H1 H2:Hp}(a:Zq H H1)(b:Zq H1 H2):Zq H H2:=λc o h=>b c o (a c o h)
theorem Zq.free(e:Zq H H'){l:Addr}(h:H' l=Option.none):H l=Option.none:=by
 cases q:H l with
 | none=>rfl
 | some o=>rw[e l o q]at h;cases h
theorem Zq.seq{K:ZBd}{a:Addr}{xs:List V}(e:Zq H H')(h:SqL K H a xs):SqL K H' a xs:=by
 rcases h with(h | ⟨o,h⟩) | h
 ·exact .inl (.inl (e _ _ h))
 ·exact .inl (.inr ⟨o,e _ _ h⟩)
 ·exact .inr h
end
section
section
variable{X:Cx}
theorem Zup:ZaO X (.builtin "len") (λxs H Q=>∃a kvs,xs=[V.ref a]/\H a=Z (.dK kvs)/\Q (.int kvs.length) H):=by intro pins s σ H xs us Q I r h;obtain⟨a,kvs,rfl,ha,q⟩:=h;obtain⟨u,rfl,ru⟩:=vals1 r;cases ru;exact ZzT I (.inl ha) λt s' I'=>⟨.int kvs.length,H,I',⟨t,rfl⟩,q⟩
end
end
end L2
namespace HM
open PySem
section
abbrev D:=PyData
abbrev Ky:=Sum Int Str
inductive B where
 | pl (d:D)
 | ol (ds:List D)
 | ok (kvs:List (Ky × D))
 | ot (kvs:List (List Ky × D))
 | otl (kvs:List (List Ky × List D))
 | hd (es:List (D × D))
abbrev Env:=List (Option B)
inductive Out where
 | nx (r:Env)
 | rt (d:D)
 | bk (r:Env)
 | ct (r:Env)
abbrev EF:=Env->Option D
abbrev BF:=Env->Option B
abbrev TF:=Env->Option Bool
abbrev IF:=Env->Option (List D)
abbrev AF:=Env->Option (List D)
abbrev SF:=Env->Option Out
@[simp] def big:Nat:=1000000
@[simp] noncomputable def Zc (i:Nat):EF:=λr=>match r[i]? with
 | some (Z (.pl d))=>Z d
 | _=>Z_
@[simp] noncomputable def Zo (i:Nat):BF:=λr=>match r[i]? with
 | some (Z b)=>Z b
 | _=>Z_
@[simp] noncomputable def bOf (f:EF):BF:=λr=>(f r).map B.pl
def ZaQ:Ky->D
 | .inl i=>.int i
 | .inr x=>.str x
noncomputable def Zg (kvs:List (List Ky × D)):List (D × D):=kvs.map λp=>(.tuple (p.1.map ZaQ),p.2)
@[simp] noncomputable def frz:B->Option D
 | .pl d=>Z d
 | .ol ds=>Z (.list ds)
 | .ot kvs=>Z (.dict (Zg kvs))
 | .hd es=>Z (.dict es)
 | _=>Z_
@[simp] def eOf(f:BF):EF:=λr=>(f r).bind frz
@[simp] noncomputable def eC (d:D):EF:=λ_=>Z d
@[simp] noncomputable def op2 (g:D->D->Option D) (a b:EF):EF:=λr=>match a r with
 | some x=>match b r with
  | some y=>g x y
  | none=>Z_
 | none=>Z_
@[simp] noncomputable def Zft (g:Int->Int->Option D):D->D->Option D
 | .int i,.int j=>g i j
 | _,_=>Z_
def ZS(i:Int):Bool:=Nat.blt i.natAbs 18446744073709551616
@[simp] def Z9(x y:D):Option D:=Zft (λi j=>Z (.int (i+j))) x y
@[simp] def Zm3(x y:D):Option D:=Zft (λi j=>Z (.int (i-j))) x y
@[simp] def Za0(x y:D):Option D:=Zft (λi j=>if ZS i||ZS j then Z (.int (i*j))else Z_) x y
@[simp] def Zm4(x y:D):Option D:=Zft (λi j=>if 0<j then Z (.int (i % j))else Z_) x y
@[simp] def gLt(x y:D):Option D:=Zft (λi j=>Z (.bool (decide (i<j)))) x y
@[simp] def gLe(x y:D):Option D:=Zft (λi j=>Z (.bool (decide (i<=j)))) x y
@[simp] def gGt(x y:D):Option D:=Zft (λi j=>Z (.bool (decide (j<i)))) x y
@[simp] def gGe(x y:D):Option D:=Zft (λi j=>Z (.bool (decide (j<=i)))) x y
def Zcn(d:D):Bool:=d.canLay0&&decide (d.depth<=60)
@[simp] def gEq(a b:D):Option D:=if Zcn a&&Zcn b then Z (.bool (ZEx a b))else Z_
@[simp] def gNe(a b:D):Option D:=if Zcn a&&Zcn b then Z (.bool (!PyData.eqv a b))else Z_
@[simp] def ZiZ(a b:D):Option D:=match b with
 | .none=>match a with
  | .none=>Z (.bool ZGH)
  | _=>Z (.bool ZGI)
 | _=>Z_
@[simp] def Zgp(a b:D):Option D:=match b with
 | .none=>match a with
  | .none=>Z (.bool ZGI)
  | _=>Z (.bool ZGH)
 | _=>Z_
@[simp] def Zec(g g':D->D->Option D)(a b c:EF):EF:=λr=>match a r with
 | some x=>match b r with
  | some y=>match g x y with
   | some (.bool ZGH)=>match c r with
    | some z=>g' y z
    | none=>Z_
   | some (.bool ZGI)=>Z (.bool ZGI)
   | _=>Z_
  | none=>Z_
 | none=>Z_
@[simp] def ZhQ(a b:EF):EF:=λr=>match a r with
 | some (.bool ZGH)=>b r
 | some (.bool ZGI)=>Z (.bool ZGI)
 | _=>Z_
@[simp] def eOr(a b:EF):EF:=λr=>match a r with
 | some (.bool ZGH)=>Z (.bool ZGH)
 | some (.bool ZGI)=>b r
 | _=>Z_
@[simp] noncomputable def tV (a:EF):TF:=λr=>match a r with
 | some (.bool b)=>Z b
 | _=>Z_
@[simp] def Zde(a:TF):TF:=λr=>(a r).map (!·)
@[simp] def ZlF(a b:TF):TF:=λr=>match a r with
 | some ZGH=>b r
 | some ZGI=>Z ZGI
 | none=>Z_
@[simp] def tOr(a b:TF):TF:=λr=>match a r with
 | some ZGH=>Z ZGH
 | some ZGI=>b r
 | none=>Z_
@[simp] def eIf(c:TF)(a b:EF):EF:=λr=>match c r with
 | some ZGH=>a r
 | some ZGI=>b r
 | none=>Z_
@[simp] noncomputable def Zgb:B->Option (List D)
 | .pl (.tuple ds)=>Z ds
 | .pl (.list ds)=>Z ds
 | .ol ds=>Z ds
 | _=>Z_
def ixN(n:Nat)(i:Int):Option Nat :=
 if 0<=i then(if i<n then Z i.toNat else Z_)else(if -(n:Int)<=i then Z (i+n).toNat else Z_)
noncomputable def atD (ds:List D) (i:Int):Option D:=match ixN ds.length i with
 | some j=>ds[j]?
 | none=>Z_
@[simp] def eIx(a:BF)(b:EF):EF:=λr=>match a r with
 | some x=>match Zgb x with
  | some ds=>match b r with
   | some (.int i)=>atD ds i
   | _=>Z_
  | none=>Z_
 | none=>Z_
@[simp] def ZAB:B->Option Nat
 | .pl (.tuple ds)=>Z ds.length
 | .pl (.list ds)=>Z ds.length
 | .ol ds=>Z ds.length
 | .ok kvs=>Z kvs.length
 | _=>Z_
@[simp] def Zaz(a:BF):EF:=λr=>match a r with
 | some x=>(ZAB x).map λ(n:Nat)=>ZBO (n:Int)
 | none=>Z_
@[simp] def Z2(a:BF):EF:=λr=>match a r with
 | some x=>(Zgb x).map λds=>.tuple ds
 | none=>Z_
@[simp] def Zkt(a:BF):BF:=λr=>match a r with
 | some x=>(Zgb x).map λds=>.ol ds
 | none=>Z_
def Zfb:List D->Option (List Bool)
 | []=>Z []
 | .bool b::r=>(Zfb r).map (b::·)
 | _::_=>Z_
@[simp] noncomputable def Zi7:B->Option (List D)
 | .pl (.list ds)=>Z ds
 | .ol ds=>Z ds
 | _=>Z_
@[simp] def ZiN(a:BF):EF:=λr=>match a r with
 | some x=>match Zi7 x with
  | some ds=>(Zfb ds).map λbs=>.bool (bs.all id)
  | none=>Z_
 | none=>Z_
@[simp] def Zi:AF:=λ_=>Z []
@[simp] def Za(a:EF)(b:AF):AF:=λr=>match a r with
 | some x=>(b r).map (x::·)
 | none=>Z_
@[simp] def Zal(a:AF):EF:=λr=>(a r).map λds=>.tuple ds
@[simp] def Zf4(a:AF):BF:=λr=>(a r).map λds=>.ol ds
inductive Ty where
 | bool | int | str | tuple | list | dict
@[simp] noncomputable def Zj7:Ty->D->Bool
 | .bool,.bool _=>ZGH
 | .int,.int _=>ZGH
 | .int,.bool _=>ZGH
 | .str,.str _=>ZGH
 | .tuple,.tuple _=>ZGH
 | .list,.list _=>ZGH
 | .dict,.dict _=>ZGH
 | _,_=>ZGI
@[simp] def Zi5(a:EF)(t:Ty):EF:=λr=>match a r with
 | some (.dict _)=>Z_
 | some d=>Z (.bool (Zj7 t d))
 | none=>Z_
@[simp] def Zx1(x y:D):Option D:=Zft (λi j=>Z (.int (if j > i then j else i))) x y
@[simp] def Zx4(x y:D):Option D:=Zft (λi j=>Z (.int (if j<i then j else i))) x y
@[simp] def Zp1(a:EF):EF:=λr=>match a r with
 | some (.int i)=>Z (.int i)
 | some (.bool b)=>Z (.int (if b then 1 else 0))
 | _=>Z_
@[simp] def ZsF(a b:BF):BF:=λr=>match a r with
 | some (.ol xs)=>match b r with
  | some (.ol ys)=>if xs.length+ys.length<big then Z (.ol (xs++ys))else Z_
  | _=>Z_
 | _=>Z_
@[simp] def Zvm(a:BF)(b:EF):BF:=λr=>match a r with
 | some (.ol xs)=>match b r with
  | some (.int k)=>if decide (k.natAbs<1000)&&decide (xs.length<1000)then Z (.ol (ZBR k.toNat xs).flatten)else Z_
  | _=>Z_
 | _=>Z_
def sIx(n d:Nat):Option Int->Nat
 | none=>d
 | some v=>if v<0 then(v+(n:Int)).toNat else min v.toNat n
noncomputable def cutD (xs:List D) (lo hi:Option Int):List D:=(xs.drop (sIx xs.length 0 lo)).take (sIx xs.length xs.length hi-sIx xs.length 0 lo)
@[simp] def ZhR(a:Option EF)(r:Env):Option (Option Int):=match a with
 | none=>Z Z_
 | some f=>match f r with
  | some (.int i)=>Z (Z i)
  | _=>Z_
@[simp] def ZvA(a:BF)(lo hi:Option EF):BF:=λr=>match a r with
 | some x=>match Zi7 x with
  | some xs=>match ZhR lo r with
   | some l=>match ZhR hi r with
    | some h=>Z (.ol (cutD xs l h))
    | none=>Z_
   | none=>Z_
  | none=>Z_
 | none=>Z_
noncomputable def Zap:List D->Option (List Int)
 | []=>Z []
 | .int i::r=>(Zap r).map (i::·)
 | _::_=>Z_
def Zkq:List D->Option (List (List Int))
 | []=>Z []
 | .tuple ds::r=>match Zap ds with
  | some ns=>(Zkq r).map (ns::·)
  | none=>Z_
 | _::_=>Z_
def lexLt:List Int->List Int->Bool
 | [],[]=>ZGI
 | [],_::_=>ZGH
 | _::_,[]=>ZGI
 | a::r,b::q=>if a=b then lexLt r q else decide (a<b)
noncomputable def sortI (ns:List Int):List Int:=ns.mergeSort λa b=>decide (a<=b)
def Ze7(ts:List (List Int)):List (List Int):=ts.mergeSort λa b=>!lexLt b a
def ofInts(ns:List Int):List D:=ns.map λi=>ZBO i
def ZfN(ts:List (List Int)):List D:=ts.map λt=>ZBL (ofInts t)
def ZfD(ds:List D):Option (List D) :=
 if ds.length<64 then match Zap ds with
  | some ns=>Z (ofInts (sortI ns))
  | none=>match Zkq ds with
   | some ts=>if ds.length<2||ts.all (λt=>!t.isEmpty)then Z (ZfN (Ze7 ts))else Z_
   | none=>Z_
 else Z_
@[simp] noncomputable def Zwi:B->Option (List D)
 | .pl (.tuple ds)=>Z ds
 | .pl (.list ds)=>Z ds
 | .ol ds=>Z ds
 | .ok kvs=>Z (kvs.map λp=>ZaQ p.1)
 | .ot kvs=>Z (kvs.map λp=>.tuple (p.1.map ZaQ))
 | .otl kvs=>Z (kvs.map λp=>.tuple (p.1.map ZaQ))
 | _=>Z_
@[simp] def Zii(a:BF):BF:=λr=>match a r with
 | some x=>match Zwi x with
  | some ds=>(ZfD ds).map λds=>.ol ds
  | none=>Z_
 | none=>Z_
noncomputable def dedup:List Int->List Int->List Int
 | acc,[]=>acc
 | acc,i::r=>if acc.contains i then dedup acc r else dedup (acc++[i]) r
def ZvR(ns:List Int):Bool:=ns.all λn=>decide (0<=n)&&decide (n<8)
@[simp] def ZiR(a:BF):BF:=λr=>match a r with
 | some x=>match Zi7 x with
  | some ds=>match Zap ds with
   | some ns=>if ZvR ns then Z (.ol (ofInts (sortI (dedup [] ns))))else Z_
   | none=>Z_
  | none=>Z_
 | none=>Z_
@[simp] def Zm(m:List D->Option D)(a:AF):EF:=λr=>match a r with
 | some ds=>m ds
 | none=>Z_
@[simp] def Zaa(a:BF):IF:=λr=>match a r with
 | some x=>Zgb x
 | none=>Z_
noncomputable def Zc4 (lo:Int) (n:Nat):List D:=(ZBm n).map λ(k:Nat)=>ZBO (lo+(k:Int))
def okR(j:Int):Bool:=Nat.blt j.natAbs 1000000
@[simp] def ZbI(a:EF):IF:=λr=>match a r with
 | some (.int j)=>if okR j then Z (Zc4 0 j.toNat)else Z_
 | _=>Z_
@[simp] def Zi4(i:IF):EF:=λr=>match i r with
 | some ds=>if ds.length<big then Z (.tuple ds)else Z_
 | none=>Z_
noncomputable def ZaP (c:TF) (e:EF) (r:Env):List D->Option (List D)
 | []=>Z []
 | x::xs=>match c (Z (.pl x)::r)with
  | some ZGH=>match e (Z (.pl x)::r)with
   | some y=>(ZaP c e r xs).map (y::·)
   | none=>Z_
  | some ZGI=>ZaP c e r xs
  | none=>Z_
@[simp] def ZW:TF:=λ_=>Z ZGH
@[simp] def ZP(i:IF)(c:TF)(e:EF):BF:=λr=>match i r with
 | some xs=>if xs.length<big then(ZaP c e r xs).map λys=>.ol ys else Z_
 | none=>Z_
@[simp] def Zs(a b:SF):SF:=λr=>match a r with
 | some (.nx r')=>b r'
 | some (.rt d)=>Z (.rt d)
 | some (.bk r')=>Z (.bk r')
 | some (.ct r')=>Z (.ct r')
 | none=>Z_
@[simp] noncomputable def ZaN:SF:=λr=>Z (.nx r)
@[simp] def Zkb:SF:=λ_=>Z_
@[simp] noncomputable def ZC (a:EF):SF:=λr=>(a r).map Out.rt
@[simp] def ZT(i:Nat)(a:EF):SF:=λr=>(a r).map λd=>.nx (r.set i (Z (.pl d)))
@[simp] def Z8(i:Nat)(a:BF):SF:=λr=>(a r).map λb=>.nx (r.set i (Z b))
@[simp] def Zmv(i:Nat)(r:Env):Env:=match r[i]? with
 | some (Z (.ol ds))=>r.set i (Z (.pl (.list ds)))
 | some (Z (.ot kvs))=>r.set i (Z (.pl (.dict (Zg kvs))))
 | _=>r
@[simp] def Zhd(i:Nat):SF->SF:=λa r=>a (Zmv i r)
@[simp] def ZiO(a:EF):SF:=λr=>(a r).map λ_=>.nx r
@[simp] def sIf(c:TF)(a b:SF):SF:=λr=>match c r with
 | some ZGH=>a r
 | some ZGI=>b r
 | none=>Z_
noncomputable def Zbm (i:Nat) (body:SF):List D->Env->Option Out
 | [],r=>Z (.nx r)
 | x::xs,r=>match body (r.set i (Z (.pl x)))with
  | some (.nx r')=>Zbm i body xs r'
  | some (.ct r')=>Zbm i body xs r'
  | some (.bk r')=>Z (.nx r')
  | some (.rt d)=>Z (.rt d)
  | none=>Z_
@[simp] def ZbS(i:Nat)(it:IF)(body:SF):SF:=λr=>match it r with
 | some xs=>if xs.length<big then Zbm i body xs r else Z_
 | none=>Z_
noncomputable def ZaR (c:TF) (body:SF):Nat->Env->Option Out
 | 0,_=>Z_
 | n+1,r=>match c r with
  | some ZGH=>match body r with
   | some (.nx r')=>ZaR c body n r'
   | some (.ct r')=>ZaR c body n r'
   | some (.bk r')=>Z (.nx r')
   | some (.rt d)=>Z (.rt d)
   | none=>Z_
  | some ZGI=>Z (.nx r)
  | none=>Z_
@[simp] def ZeF(i:Nat)(a:EF):SF:=λr=>match r[i]? with
 | some (Z (.ol ds))=>match a r with
  | some d=>if ds.length<big then Z (.nx (r.set i (Z (.ol (ds++[d])))))else Z_
  | none=>Z_
 | _=>Z_
@[simp] def ZsY(i:Nat)(k v:EF):SF:=λr=>match v r with
 | some d=>match r[i]? with
  | some (Z (.ol ds))=>match k r with
   | some (.int n)=>match ixN ds.length n with
    | some j=>Z (.nx (r.set i (Z (.ol (ds.set j d)))))
    | none=>Z_
   | _=>Z_
  | _=>Z_
 | none=>Z_
noncomputable def putD {k v:Type} [DecidableEq k] (kvs:List (k × v)) (x:k) (y:v):List (k × v) :=
 if(kvs.any λp=>decide (p.1=x))=ZGH then kvs.map (λp=>if p.1=x then(p.1,y)else p)else kvs++[(x,y)]
noncomputable def Zj {k v:Type} [DecidableEq k] (kvs:List (k × v)) (x:k):Option v:=(kvs.find? λp=>decide (p.1=x)).map (·.2)
@[simp] def Zkj:D->Option Ky
 | .int i=>Z (.inl i)
 | .str x=>Z (.inr x)
 | _=>Z_
def Zho:List D->Option (List Ky)
 | []=>Z []
 | d::r=>match Zkj d with
  | some k=>(Zho r).map (k::·)
  | none=>Z_
noncomputable def tkL:D->Option (List Ky)
 | .tuple ds=>Zho ds
 | _=>Z_
def ZmU:List D->Option (List Ky)
 | []=>Z []
 | .int i::r=>(ZmU r).map (ZC8 i::·)
 | _::_=>Z_
def ZbG:D->Option (List Ky)
 | .tuple ds=>ZmU ds
 | _=>Z_
@[simp] def Zh2(i:Nat)(k v:EF):SF:=λr=>match v r with
 | some d=>match k r with
  | some x=>match r[i]? with
   | some (Z (.ok kvs))=>match Zkj x with
    | some y=>if kvs.length<big then Z (.nx (r.set i (Z (.ok (putD kvs y d)))))else Z_
    | none=>Z_
   | some (Z (.ot kvs))=>match ZbG x with
    | some y=>if kvs.length<big then Z (.nx (r.set i (Z (.ot (putD kvs y d)))))else Z_
    | none=>Z_
   | _=>Z_
  | none=>Z_
 | none=>Z_
@[simp] def fDk:BF:=λ_=>Z (.ok [])
@[simp] def fDt:BF:=λ_=>Z (.ot [])
@[simp] def Zx3:BF:=λ_=>Z (.otl [])
@[simp] def Zqs(k v:EF):BF:=λr=>match k r with
 | some x=>match v r with
  | some d=>match Zkj x with
   | some y=>Z (.ok [(y,d)])
   | none=>Z_
  | none=>Z_
 | none=>Z_
def ZcF{k v:Type}[DecidableEq k](kvs:List (k × List v))(x:k):List (k × List v):=match Zj kvs x with
 | some _=>kvs
 | none=>kvs++[(x,[])]
def Zd2{k v:Type}[DecidableEq k]:List (k × List v)->k->v->List (k × List v)
 | [],_,_=>[]
 | (x,ds)::r,y,d=>if x=y then(x,ds++[d])::r else(x,ds)::Zd2 r y d
@[simp] def Zqj(i:Nat)(k v:EF):SF:=λr=>match k r with
 | some x=>match r[i]? with
  | some (Z (.otl kvs))=>match ZbG x with
   | some y=>if kvs.length<big then
     match v (r.set i (Z (.otl (ZcF kvs y))))with
     | some d=>match Zj (ZcF kvs y) y with
      | some ds=>if ds.length<big then Z (.nx (r.set i (Z (.otl (Zd2 (ZcF kvs y) y d)))))else Z_
      | none=>Z_
     | none=>Z_
    else Z_
   | none=>Z_
  | _=>Z_
 | none=>Z_
@[simp] def ZsI(i:Nat)(k:EF):BF:=λr=>match k r with
 | some x=>match r[i]? with
  | some (Z (.ok kvs))=>match Zkj x with
   | some y=>(Zj kvs y).map B.pl
   | none=>Z_
  | some (Z (.ot kvs))=>match ZbG x with
   | some y=>(Zj kvs y).map B.pl
   | none=>Z_
  | some (Z (.otl kvs))=>match ZbG x with
   | some y=>(Zj kvs y).map B.ol
   | none=>Z_
  | _=>Z_
 | none=>Z_
abbrev fnD(t:Nat)(cs:List D):D:=.dict [(.none,.int (Int.ofNat t)),(.none,.list cs)]
@[simp] noncomputable def Ze9 (n:Nat) (ds:List D):Env:=ds.map (λd=>Z (B.pl d))++ZBR (n-ds.length) Z_
@[simp] noncomputable def fnOf (k n:Nat) (m:SF):List D->Option D:=λds =>
 if ds.length=k then match m (Ze9 n ds)with
  | some (.nx _)=>Z .none
  | some (.rt d)=>Z d
  | _=>Z_
 else Z_
end
section
def ZdU(c:TF)(e:EF)(r:Env):List D->Option (List D)
 | []=>Z []
 | .tuple [x,y]::xs=>match c (Z (.pl x)::Z (.pl y)::r)with
  | some ZGH=>match e (Z (.pl x)::Z (.pl y)::r)with
   | some z=>(ZdU c e r xs).map (z::·)
   | none=>Z_
  | some ZGI=>ZdU c e r xs
  | none=>Z_
 | _=>Z_
@[simp] def Zc2(i:IF)(c:TF)(e:EF):BF:=λr=>match i r with
 | some xs=>if xs.length<big then(ZdU c e r xs).map λys=>.ol ys else Z_
 | none=>Z_
def Zx9(ds:List D)(i:Int):Option Bool:=(Zap ds).map λns=>ns.contains i
@[simp] def Zpb(k:EF)(a:BF):EF:=λr=>match k r with
 | some (.int i)=>match a r with
  | some b=>match Zgb b with
   | some ds=>(Zx9 ds i).map λc=>.bool c
   | none=>Z_
  | none=>Z_
 | _=>Z_
end
section
@[simp] def Zl8(n:Nat)(c:TF)(body:SF):SF:=λr=>ZaR c body n r
end
section
end
section
noncomputable def Zfj:List (D × D)->Option (List (List Ky × D))
 | []=>Z []
 | (k,v)::r=>match tkL k with
  | some ks=>(Zfj r).map ((ks,v)::·)
  | none=>Z_
@[simp] def Zlp:B->Option (List (List Ky × D))
 | .ot kvs=>Z kvs
 | .pl (.dict es)=>Zfj es
 | .hd es=>Zfj es
 | _=>Z_
@[simp] def ZpX(k:EF)(a:BF):EF:=λr=>match k r with
 | some x=>match a r with
  | some b=>match Zlp b with
   | some kvs=>(ZbG x).map λy=>.bool (Zj kvs y).isSome
   | none=>Z_
  | none=>Z_
 | none=>Z_
@[simp] def ZeG(k:EF)(a:BF):EF:=λr=>match k r with
 | some x=>match a r with
  | some b=>match Zlp b with
   | some kvs=>(ZbG x).map λy=>.bool (!(Zj kvs y).isSome)
   | none=>Z_
  | none=>Z_
 | none=>Z_
@[simp] def Zak(a:BF)(k:EF):EF:=λr=>match a r with
 | some b=>match Zlp b with
  | some kvs=>match k r with
   | some x=>match ZbG x with
    | some y=>Zj kvs y
    | none=>Z_
   | none=>Z_
  | none=>Z_
 | none=>Z_
@[simp] def Zmg:D->Bool
 | .none=>ZGH
 | .bool _=>ZGH
 | .int _=>ZGH
 | .str _=>ZGH
 | _=>ZGI
@[simp] def Ziy(f:BF):EF:=λr=>(f r).bind frz
theorem ZxG(ks:List Ky):tkL (.tuple (ks.map ZaQ))=Z ks:=by
 show Zho (ks.map ZaQ)=Z ks
 induction ks with
 | nil=>rfl
 | cons k ks ih=>show(match Zkj (ZaQ k)with | some q=>(Zho (ks.map ZaQ)).map (q::·) | none=>Z_)=_;rw[ih];cases k<;>rfl
theorem dec_enc(kvs:List (List Ky × D)):Zfj (Zg kvs)=Z kvs:=by
 induction kvs with
 | nil=>rfl
 | cons p kvs ih=>obtain⟨k,d⟩:=p;show(match tkL (.tuple (k.map ZaQ))with | some ks=>(Zfj (Zg kvs)).map ((ks,d)::·) | none=>Z_)=_;rw[ZxG,ih];rfl
end
section
@[simp] def Zl7(a:BF):EF:=λr=>match a r with
 | some x=>match Zi7 x with
  | some ds=>match Zap ds with
   | some ns=>ns.max?.map λi=>ZBO i
   | none=>Z_
  | none=>Z_
 | none=>Z_
end
section
@[simp] def Zoe(a:BF):EF:=λr=>match a r with
 | some x=>match Zi7 x with
  | some ds=>match Zap ds with
   | some ns=>Z (.int ns.sum)
   | none=>Z_
  | none=>Z_
 | none=>Z_
end
section
@[simp] def Zky(i:Nat)(f:BF):SF:=λr=>match r[i]? with
 | some (Z (.ol ds))=>match f r with
  | some (.ol es)=>if ds.length+es.length<big then Z (.nx (r.set i (Z (.ol (ds++es)))))else Z_
  | _=>Z_
 | _=>Z_
@[simp] def Zu6(i j:Nat):SF:=λr=>match r[j]? with
 | some (Z (.ol ds))=>match ds[ds.length-1]? with
  | some d=>Z (.nx ((r.set j (Z (.ol ds.dropLast))).set i (Z (.pl d))))
  | none=>Z_
 | _=>Z_
@[simp] def Zj0(m:List D->Option D)(a:AF):BF:=λr=>match a r with
 | some ds=>match m ds with
  | some (.list ys)=>Z (.ol ys)
  | _=>Z_
 | none=>Z_
def Zbe:Option B->Bool
 | some (.hd _)=>ZGH
 | _=>ZGI
@[simp] def Ze8(i:Nat)(g:SF):SF:=λr=>match r[i]? with
 | some (Z (.pl (.dict es)))=>if r.all (λq=>!Zbe q)then match g (r.set i (Z (.hd es)))with
   | some (.nx r')=>match r'[i]? with
    | some (Z (.hd es'))=>if(r'.set i Z_).all (λq=>!Zbe q)then Z (.nx (r'.set i (Z (.pl (.dict es')))))else Z_
    | _=>Z_
   | some (.rt d)=>Z (.rt d)
   | _=>Z_
  else Z_
 | _=>g r
@[simp] def ZaV(i:Nat):IF:=λr=>match r[i]? with
 | some (Z (.pl (.tuple ds)))=>Z ds
 | some (Z (.pl (.list ds)))=>Z ds
 | some (Z (.hd es))=>(Zfj es).map λkvs=>kvs.map λp=>.tuple (p.1.map ZaQ)
 | _=>Z_
@[simp] def eHd(i:Nat):EF:=λr=>match r[i]? with
 | some (Z (.pl d))=>Z d
 | some (Z (.hd es))=>Z (.dict es)
 | _=>Z_
end
section
@[simp] def ZpL(a:BF)(k:EF):EF:=λr=>match a r with
 | some b=>match Zlp b with
  | some kvs=>match k r with
   | some x=>match ZbG x with
    | some y=>Z ((Zj kvs y).getD .none)
    | none=>Z_
   | none=>Z_
  | none=>Z_
 | none=>Z_
end
section
noncomputable def Zel:Nat->D->Bool
 | _,.none=>ZGH
 | _,.bool _=>ZGH
 | _,.int _=>ZGH
 | _,.str _=>ZGH
 | n+1,.tuple ds=>ds.all (Zel n)
 | _,_=>ZGI
end
section
abbrev AP:=Nat->List D->List D->Option D
noncomputable def ZiQ:D->Option (Nat × List D)
 | .dict [(.none,.int (Int.ofNat t)),(.none,.list cs)]=>Z (t,cs)
 | _=>Z_
@[simp] def Zc6(ap:AP)(i:Nat)(a:AF):EF:=λr=>match r[i]? with
 | some (Z (.pl d))=>match ZiQ d with
  | some (t,cs)=>match a r with
   | some ds=>ap t cs ds
   | none=>Z_
  | none=>Z_
 | _=>Z_
noncomputable def noF:Nat->D->Bool
 | _,.none=>ZGH
 | _,.bool _=>ZGH
 | _,.int _=>ZGH
 | _,.str _=>ZGH
 | n+1,.tuple ds=>ds.all (noF n)
 | n+1,.list ds=>ds.all (noF n)
 | n+1,.dict es=>es.all λp=>(match p.1 with | .none=>ZGI | _=>ZGH)&&noF n p.2
 | _,_=>ZGI
def Zl6:List Nat->Env->Option (List D)
 | [],_=>Z []
 | i::is,r=>match r[i]? with
  | some (Z (.pl d))=>(Zl6 is r).map (d::·)
  | _=>Z_
@[simp] def Zfo(m:List D->Option D)(t:Nat)(is:List Nat)(a:EF):EF:=λr=>match a r with
 | some d1=>match Zl6 is r with
  | some cs=>if cs.all (noF 20)then match m [d1,fnD t cs]with
    | some d=>if noF 20 d then Z d else Z_
    | none=>Z_
   else Z_
  | none=>Z_
 | none=>Z_
def Zhk(n m:Nat)(e:EF):List D->List D->Option D:=λcs ds=>if ds.length=n/\cs.length=m/\ds.all (noF 20)=ZGH then e ((ds++cs).map λd=>Z (B.pl d))else Z_
@[simp] def Zgt(a:BF):EF:=λr=>match a r with
 | some x=>match Zi7 x with
  | some ds=>match Zap ds with
   | some ns=>Z (match ns.min? with | some i=>.int i | none=>.none)
   | none=>Z_
  | none=>Z_
 | none=>Z_
abbrev NF:=Env->Option (List (List Ky × D))
@[simp] def Zli(a:SF)(m:NF):NF:=λr=>match a r with
 | some (.nx r')=>m r'
 | _=>Z_
@[simp] def ZpK(j:Nat):NF:=λr=>match r[j]? with
 | some (Z (.ot kvs))=>Z kvs
 | _=>Z_
def newOf(k n:Nat)(m:NF):List D->Option (List (List Ky × D)):=λds=>if ds.length=k then m (Ze9 n ds)else Z_
@[simp] def Zkh(m:List D->Option (List (List Ky × D)))(a:AF):BF:=λr=>match a r with
 | some ds=>match m ds with
  | some kvs=>if kvs.all (λp=>Zmg p.2)then Z (.ot kvs)else Z_
  | none=>Z_
 | none=>Z_
end
section
@[simp] def ZdE(a b:EF):EF:=λr=>match a r with
 | some (.tuple xs)=>match b r with
  | some (.tuple ys)=>if xs.length+ys.length<big then Z (.tuple (xs++ys))else Z_
  | _=>Z_
 | _=>Z_
end
section
@[simp] def Zgw(ap:AP)(i:Nat)(a:AF):EF:=λr=>match r[i]? with
 | some (Z (.pl d))=>match ZiQ d with
  | some (t,cs)=>match a r with
   | some ds=>match ap t cs ds with
    | some z=>if Zel 400 z then Z z else Z_
    | none=>Z_
   | none=>Z_
  | none=>Z_
 | _=>Z_
end
section
end
section
end
section
end
section
@[simp] def ZbV(a:EF)(lo hi:Option EF):EF:=λr=>match a r with
 | some (.tuple xs)=>match ZhR lo r with
  | some l=>match ZhR hi r with
   | some h=>Z (.tuple (cutD xs l h))
   | none=>Z_
  | none=>Z_
 | _=>Z_
end
section
def ZiB(n:Nat):List D->List D
 | []=>[]
 | d::ds=>.tuple [.int n,d]::ZiB (n+1) ds
@[simp] def Zol(a:EF):IF:=λr=>match a r with
 | some (.tuple ds)=>Z (ZiB 0 ds)
 | _=>Z_
@[simp] def ZsK(a b:BF):BF:=λr=>match a r with
 | some x=>match Zi7 x with
  | some xs=>match b r with
   | some y=>match Zi7 y with
    | some ys=>if xs.length+ys.length<big then Z (.ol (xs++ys))else Z_
    | none=>Z_
   | none=>Z_
  | none=>Z_
 | none=>Z_
end
section
@[simp] def Zms(a:EF):EF:=λr=>match a r with
 | some (.tuple ds)=>match Zap ds with
  | some ns=>ns.max?.map λi=>ZBO i
  | none=>Z_
 | _=>Z_
@[simp] def Zmo(a:EF):EF:=λr=>match a r with
 | some (.tuple ds)=>match Zap ds with
  | some ns=>ns.min?.map λi=>ZBO i
  | none=>Z_
 | _=>Z_
@[simp] def Zmk(a:EF):EF:=λr=>match a r with
 | some (.tuple ds)=>match Zap ds with
  | some ns=>Z (.int ns.sum)
  | none=>Z_
 | _=>Z_
end
end HM
namespace HP
open PySem PySem.Spec PyProof.Rows L2
variable{a b l p:Addr}{A:Around}{X Y:Cx}{env:Env}{elt iter:Expr}{fd:FuncData}{q:HM.B}{f ga:HM.BF}{r:HM.Env}{o ob u:HO}{base:Heap}{F F' F0 F1 Fs H H' H0 H1 Hb Hs:Hp}{σ:L2.St}{pins:List (Addr × Obj)}{kvs:List (List Key × List PyData)}{vvs:List (List Key × V)}{fp fp':List Addr}{es ifs rest:List Expr}{ds:List PyData}{N ps:List Str}{vs:List V}{i j:Nat}{p' p1 p2 p3 pos py spos:Pos}{prog:Program}{g:PyData->PyData->Option PyData}{K:ZBd}{scope:Scope}{s s2:Shared}{st:Stmt}{qual x y:Str}{mg:Str->Option Value}{P:V->Hp->Hp->Prop}{Q:Value->Shared->Prop}{w:World}
section
@[reducible] def Zdm(H':Hp)(b:Addr):HO->Prop
 | .tbl _=>∃ps',H' b=Z (.tbl ps')
 | o=>H' b=Z o
def ZaI(H H':Hp):Prop:=∀b o,H b=Z o->Zdm H' b o
theorem Zdm.of(h:H' b=Z o):Zdm H' b o:=by cases o<;>first | exact h | exact⟨_,h⟩
theorem Zdm.ex(h:Zdm H' b o):∃u,H' b=Z u:=by cases o<;>first | exact⟨_,h⟩ | (obtain⟨ps,e⟩:=h; exact⟨_,e⟩)
theorem Zdm.no(h:Zdm H' b o)(n:∀ps,o≠.tbl ps):H' b=Z o:=by cases o<;>first | exact h | exact absurd rfl (n _)
theorem ZaI.of{H H':Hp}(s:Zq H H'):ZaI H H':=λb o h=>.of (s b o h)
theorem ZaI.refl(H:Hp):ZaI H H:=.of (.refl H)
theorem ZaI.trans{H2:Hp}(a:ZaI H H1)(b:ZaI H1 H2):ZaI H H2:=λc o h=>by have h1:=a c o h;cases o<;>first | exact b c _ h1 | (obtain⟨ps,e⟩:=h1; exact(show ∃ps',H2 c=Z (.tbl ps') from b c _ e))
theorem ZaI.free(e:ZaI H H')(h:H' l=Z_):H l=Z_:=by
 cases q:H l with
 | none=>rfl
 | some o=>obtain⟨u,z⟩:=(e l o q).ex;rw[h]at z; cases z
theorem ZaI.back(e:ZaI H H')(h:H l=Z o)(h':H' l=Z u)(n:∀ps,u≠.tbl ps):o=u:=by have z:=e l o h;cases o<;>first | (obtain⟨ps,q⟩:=z; rw[h']at q; cases q; exact absurd rfl (n _)) | (have z:H' l=Z _:=z; rw[h']at z; cases z; rfl)
def Zck(H:Hp):Hp:=λb=>match H b with
 | some (.tbl _)=>Z_
 | x=>x
def nt:HO->Bool
 | .tbl _=>ZGI
 | _=>ZGH
def NoT(F:Hp):Prop:=∀b o,F b=Z o->nt o=ZGH
theorem Zcs(h:H b=Z o)(n:nt o=ZGH):Zck H b=Z o:=by unfold Zck; rw[h];cases o<;>first | rfl | cases n
theorem Zhn(h:Zck H b=Z o):H b=Z o/\nt o=ZGH:=by
 unfold Zck at h;split at h
 ·cases h
 ·rename_i n
  refine⟨h,?_⟩;cases o<;>first | rfl | exact absurd h (n _)
theorem ZfU:Zq (Zck H) H:=λb o h=>(Zhn h).1
theorem NoT.drop{H:Hp}:NoT (Zck H):=λb o h=>(Zhn h).2
theorem NoT.sub(n:NoT F)(s:Zq F H):Zq F (Zck H):=λb o h=>Zcs (s b o h) (n b o h)
theorem NoT.upd{F:Hp}{p:Addr}{o:HO}(n:NoT F)(h:nt o=ZGH):NoT (upd F p o):=λb u z=>by
 by_cases hb:b=p
 ·subst hb; rw[ZE]at z; cases z; exact h
 ·rw[ZA hb]at z; exact n b u z
theorem ZaI.ntb(s:ZaI H H')(h:H b=Z o)(n:nt o=ZGH):H' b=Z o:=(s b o h).no λps z=>by subst z; cases n
def Dk(vvs:List (List Key × V))(u:HO):Prop:=u=.dT vvs\/∃o,u=.frz o (.dT vvs)
def sw(a:Addr)(ob:HO)(G:Hp):Hp:=λb=>if b=a then(G a).map (λ_=>ob)else G b
class FX where
 tl:List (Addr × Str)
 fv:Nat->List PyData->Hp->Addr->Prop
 sw:∀{t:Nat} {cs:List PyData} {F:Hp} {a b:Addr} {ob:HO} {vvs:List (List Key × V)},(∀u,F a=Z u->Dk vvs u)->Dk vvs ob->fv t cs F b->fv t cs (sw a ob F) b
 drop:∀{t:Nat} {cs:List PyData} {F:Hp} {a:Addr},fv t cs F a->fv t cs (Zck F) a
 mono:∀{t:Nat} {cs:List PyData} {F F':Hp} {a:Addr},fv t cs F a->Zq F F'->fv t cs F' a
variable[FX]
def Zbu(a:Addr)(o:Obj):HO:=.ext λh=>h.get? a=Z o
def Zm1(o:Obj)(q:Str):Prop:=∃vs t,o.data=.fields vs/\vs[1]?=Z (.str q t)
def Tb(H:Hp):Prop:=∀P q,(P,q)∈FX.tl->∃ps,H P=Z (.tbl ps)/\TriplesOk ps.toList/\∀pos c,ZFl pos ps.toList=Z c->∃a o,c=.ref a/\H a=Z (Zbu a o)/\Zm1 o q
def Zm7:HO->Bool
 | .lst _=>ZGH
 | .dK _=>ZGH
 | .dT _=>ZGH
 | _=>ZGI
def te:HO->Bool
 | .tbl _=>ZGH
 | .ext _=>ZGH
 | _=>ZGI
theorem ZuA(h:Zm7 o=ZGH)(h':te o=ZGH):False:=by cases o<;>simp_all [Zm7,te]
theorem Tb.keep(t:Tb H)(k:∀a o,H a=Z o->te o=ZGH->H' a=Z o):Tb H':=λP q hP=>by obtain⟨ps,h1,h2,h3⟩:=t P q hP;refine⟨ps,k _ _ h1 rfl,h2,λpos c hc=>?_⟩;obtain⟨a,o,e1,e2,e3⟩:=h3 pos c hc;exact⟨a,o,e1,k _ _ e2 rfl,e3⟩
theorem Dk.te{vvs:List (List Key × V)}{u:HO}(h:Dk vvs u):te u=ZGI:=by rcases h with h | ⟨o,h⟩<;>subst h<;>rfl
theorem Dk.ntt(h:Dk vvs u):nt u=ZGH:=by rcases h with h | ⟨o,h⟩<;>subst h<;>rfl
theorem Tb.sw{G:Hp}{a:Addr}{ob:HO}{vvs:List (List Key × V)}(hG:∀u,G a=Z u->Dk vvs u)(t:Tb G):Tb (HP.sw a ob G):=t.keep λb o z ht=>by
 have hb:b≠a:=λe=>by subst e; rw[(hG o z).te]at ht; cases ht
 unfold HP.sw; rw[if_neg hb]; exact z
theorem Tb.unsw{G:Hp}(hob:Dk vvs ob)(t:Tb (HP.sw a ob G)):Tb G:=t.keep λb o z ht=>by
 unfold HP.sw at z;split at z
 ·obtain⟨u,_,e⟩:=ZBc.mp z
  subst e; rw[hob.te]at ht; cases ht
 ·exact z
theorem Zdm.cong(e:H' b=H b)(h:Zdm H b o):Zdm H' b o:=by unfold Zdm at h ⊢; rw[e]; exact h
theorem ZaI.sw{H0 H:Hp}{a:Addr}{ob:HO}(s:ZaI H0 H):ZaI (HP.sw a ob H0) (HP.sw a ob H):=λb o z=>by
 by_cases hb:b=a
 ·subst hb
  unfold HP.sw at z;rw[if_pos rfl]at z;obtain⟨u,h1,h2⟩:=ZBc.mp z;obtain⟨w,hw⟩:=(s _ _ h1).ex;refine .of ?_;unfold HP.sw;rw[if_pos rfl,hw,h2.symm]; rfl
 ·unfold HP.sw at z
  rw[if_neg hb]at z;refine(s b o z).cong ?_;unfold HP.sw; rw[if_neg hb]
theorem Tb.same(t:Tb H)(s:Zq H H'):Tb H':=t.keep λa o h _=>s a o h
theorem Zkn(r:Rd F a u)(s:Zq F F'):Rd F' a u:=r.imp (λh=>s _ _ h) λ⟨o,h⟩=>⟨o,s _ _ h⟩
def Zo5(K:ZBd)(a:Addr)(vs:List V):Prop:=∃(o:Obj) (its:Array Value) (n:Nat),K.lookup a=Z o/\o.cls=.type "tuple"/\o.data=.seq its n/\its.size<=sizeLine/\Vals vs its.toList
theorem ZdG(h:SqT K F a vs)(s:Zq F F'):SqT K F' a vs:=h.imp (λh=>Zkn h s) id
inductive Rep(K:ZBd)(F:Hp):PyData->V->Prop where
 | non:Rep K F .none .non
 | bl (b:Bool):Rep K F (.bool b) (.bl b)
 | int (i:Int):Rep K F (.int i) (.int i)
 | str (x:Str):Rep K F (.str x) (.str x)
 | tupk {a:Addr} {x:Str} (h:Zo5 K a [.str x]):Rep K F (.tuple [.str x]) (.ref a)
 | tup {a:Addr} {ds:List PyData} {vs:List V} (h:F a=Z (.tup vs)) (hl:ds.length=vs.length) (hr:∀(i:Nat) (d:PyData) (v:V),ds[i]?=Z d->vs[i]?=Z v->Rep K F d v):Rep K F (.tuple ds) (.ref a)
 | lst {a:Addr} {ds:List PyData} {vs:List V} (h:SqL K F a vs) (hl:ds.length=vs.length) (hr:∀(i:Nat) (d:PyData) (v:V),ds[i]?=Z d->vs[i]?=Z v->Rep K F d v):Rep K F (.list ds) (.ref a)
 | dct {a:Addr} {es:List (PyData × PyData)} {kvs:List (List Key × PyData)} {vvs:List (List Key × V)} (h:Rd F a (.dT vvs)) (he:es=HM.Zg kvs) (hk:kvs.map (·.1)=vvs.map (·.1)) (hr:∀(i:Nat) (d:PyData) (v:V),(kvs.map (·.2))[i]?=Z d->(vvs.map (·.2))[i]?=Z v->Rep K F d v):Rep K F (.dict es) (.ref a)
 | fn {a:Addr} {t:Nat} {cs:List PyData} (h:FX.fv t cs F a):Rep K F (.dict [(.none,.int (Int.ofNat t)),(.none,.list cs)]) (.ref a)
def Zt(K:ZBd)(F:Hp)(ds:List PyData)(vs:List V):Prop:=ds.length=vs.length/\∀(i:Nat) (d:PyData) (v:V),ds[i]?=Z d->vs[i]?=Z v->Rep K F d v
section
variable{K:ZBd}{F F':Hp}{d:PyData}{v:V}{ds es:List PyData}{vs us:List V}
theorem Rep.mono(r:Rep K F d v)(s:Zq F F'):Rep K F' d v:=by
 induction r with
 | non=>exact .non
 | bl b=>exact .bl b
 | int i=>exact .int i
 | str x=>exact .str x
 | tup h hl _ ih=>exact .tup (s _ _ h) hl ih
 | tupk h=>exact .tupk h
 | lst h hl _ ih=>exact .lst (s.seq h) hl ih
 | dct h he hk _ ih=>exact .dct (Zkn h s) he hk ih
 | fn h=>exact .fn (FX.mono h s)
theorem Rep.drop(r:Rep K F d v):Rep K (Zck F) d v:=by
 induction r with
 | non=>exact .non
 | bl b=>exact .bl b
 | int i=>exact .int i
 | str x=>exact .str x
 | tup h hl _ ih=>exact .tup (Zcs h rfl) hl ih
 | tupk h=>exact .tupk h
 | lst h hl _ ih =>
  refine .lst ?_ hl ih;rcases h with(h | ⟨o,h⟩) | h
  ·exact .inl (.inl (Zcs h rfl))
  ·exact .inl (.inr ⟨o,Zcs h rfl⟩)
  ·exact .inr h
 | dct h he hk _ ih =>
  refine .dct ?_ he hk ih;rcases h with h | ⟨o,h⟩
  ·exact .inl (Zcs h rfl)
  ·exact .inr ⟨o,Zcs h rfl⟩
 | fn h=>exact .fn (FX.drop h)
theorem Zt.drop'(r:Zt K F ds vs):Zt K (Zck F) ds vs:=⟨r.1,λi d v h1 h2=>(r.2 i d v h1 h2).drop⟩
theorem ZaI.dr(s:ZaI H H'):Zq (Zck H) H':=λb o h=>s.ntb (Zhn h).1 (Zhn h).2
theorem Rep.monoT(r:Rep K H d v)(s:ZaI H H'):Rep K H' d v:=r.drop.mono s.dr
theorem Zt.mono(r:Zt K F ds vs)(s:Zq F F'):Zt K F' ds vs:=⟨r.1,λi d v h1 h2=>(r.2 i d v h1 h2).mono s⟩
theorem Zt.nil:Zt K F [] []:=⟨rfl,λi d v h=>by simp at h⟩
theorem Zt.cons(r:Rep K F d v)(q:Zt K F ds vs):Zt K F (d::ds) (v::vs) :=
 ⟨by rw[ZBy,ZBy,q.1],λi e u h1 h2=>by
  cases i with
  | zero=>rw[ZDV]at h1 h2;cases h1; cases h2; exact r
  | succ i=>rw[ZB0]at h1 h2;exact q.2 i e u h1 h2⟩
theorem Zt.nil_inv(r:Zt K F [] vs):vs=[]:=ZCD r.1.symm
theorem Zt.cons_inv(r:Zt K F (d::ds) vs):∃v us,vs=v::us/\Rep K F d v/\Zt K F ds us:=by
 cases vs with
 | nil=>exact absurd r.1 (by simp)
 | cons v us =>
  refine⟨v,us,rfl,r.2 0 d v rfl rfl,?_,λi e u h1 h2=>r.2 (i+1) e u ?_ ?_⟩
  ·have:=r.1
   rw[ZBy,ZBy]at this;omega
  ·rw[ZB0]; exact h1
  ·rw[ZB0]; exact h2
theorem Zt.append(r:Zt K F ds vs)(q:Zt K F es us):Zt K F (ds++es) (vs++us):=by
 refine⟨by rw[ZBv,ZBv,r.1,q.1],λi e u h1 h2=>?_⟩
 by_cases hi:i<ds.length
 ·rw[ZBX hi]at h1
  rw[ZBX (by rw[<-r.1]; exact hi)]at h2;exact r.2 i e u h1 h2
 ·rw[ZBQ (by omega)]at h1
  rw[ZBQ (by have:=r.1; omega),<-r.1]at h2;exact q.2 _ e u h1 h2
theorem Zt.get(r:Zt K F ds vs)(h:ds[i]?=Z d):∃v,vs[i]?=Z v/\Rep K F d v:=by
 have hi:i<vs.length:=by rw[<-r.1]; exact(ZBr.mp h).1
 exact⟨vs[i],ZBu hi,r.2 i d _ h (ZBu hi)⟩
theorem Zt.drop(r:Zt K F ds vs)(n:Nat):Zt K F (ds.drop n) (vs.drop n) :=
 ⟨by rw[ZCB,ZCB,r.1],λi e u h1 h2=>by rw[ZFm]at h1 h2;exact r.2 _ e u h1 h2⟩
theorem Zt.take(r:Zt K F ds vs)(n:Nat):Zt K F (ds.take n) (vs.take n) :=
 ⟨by rw[ZB1,ZB1,r.1],λi e u h1 h2=>by
  by_cases hi:i<n
  ·rw[ZFQ hi]at h1 h2
   exact r.2 _ e u h1 h2
  ·rw[List.getElem?_take_eq_none (by omega)]at h1
   cases h1⟩
theorem Zt.set(r:Zt K F ds vs)(q:Rep K F d v)(j:Nat):Zt K F (ds.set j d) (vs.set j v):=by
 refine⟨by rw[ZCy,ZCy,r.1],λi e u h1 h2=>?_⟩;have hi:i<ds.length:=by have:=(ZBr.mp h1).1; rwa [ZCy]at this
 by_cases e1:j=i
 ·subst e1
  rw[ZB9 hi]at h1;rw[ZB9 (by rw[<-r.1]; exact hi)]at h2;cases h1; cases h2; exact q
 ·rw[ZBP e1]at h1 h2
  exact r.2 i e u h1 h2
theorem Zt.rep(r:Zt K F ds vs)(k:Nat):Zt K F (ZBR k ds).flatten (ZBR k vs).flatten:=by
 induction k with
 | zero=>exact Zt.nil
 | succ k ih=>rw[ZC4,ZC4,ZDG,ZDG]; exact r.append ih
theorem Zt.one(r:Rep K F d v):Zt K F [d] [v]:=.cons r .nil
end
def Fre(H:Hp)(a:Addr)(o:HO):Prop:=H a=Z_\/∃xs,o=.tup xs/\H a=Z (.tup xs)
theorem Fre.back{H H':Hp}{a:Addr}{o:HO}(s:ZaI H H')(f:Fre H' a o):Fre H a o:=by
 rcases f with f | ⟨xs,e,f⟩
 ·exact .inl (s.free f)
 ·cases q:H a with
  | none=>exact .inl q
  | some u =>
   have:=s.back q f λ_ z=>by cases z
   subst this;exact .inr ⟨xs,e,q⟩
theorem Fre.no(f:Fre H a o)(h:H a=Z u)(n:∀xs,u≠.tup xs):False:=by
 rcases f with f | ⟨xs,_,f⟩
 ·rw[h]at f; cases f
 ·rw[h]at f; cases f; exact n xs rfl
structure Ext(F H F' H':Hp):Prop where
 ff:Zq F F'
 hh:ZaI H H'
 sub:Zq F' H'
 new:∀a o,F' a=Z o->F a=Z o\/Fre H a o
 tab:Tb H->Tb H'
 nts:NoT F->NoT F'
theorem Ext.refl{F H:Hp}(s:Zq F H):Ext F H F H:=⟨Zq.refl F,ZaI.refl H,s,λ_ _ h=>.inl h,id,id⟩
theorem Ext.trans{F H F1 H1 F2 H2:Hp}(a:Ext F H F1 H1)(b:Ext F1 H1 F2 H2):Ext F H F2 H2 :=
 ⟨a.ff.trans b.ff,a.hh.trans b.hh,b.sub,λx o h=>by
  rcases b.new x o h with q | q
  ·exact a.new x o q
  ·exact .inr (q.back a.hh),λt=>b.tab (a.tab t),λt=>b.nts (a.nts t)⟩
theorem Zlh(h:F p=Z_):Zq F (upd F p o):=λb q z=>by rw[ZA (ZaA z h)]; exact z
theorem Ext.lay(e:Ext F H F' H')(h:H' p=Z_)(no:nt o=ZGH:=by rfl):Ext F H (upd F' p o) (upd H' p o):=by
 have hF:F' p=Z_:=e.sub.free h;refine⟨λb q z=>?_,e.hh.trans (.of (Zlh h)),λb q z=>?_,λb q z=>?_,λt=>(e.tab t).same (Zlh h),λt=>(e.nts t).upd no⟩
 ·rw[ZA (ZaA (e.ff b q z) hF)]; exact e.ff b q z
 ·by_cases hb:b=p
  ·subst hb; rw[ZE]at z ⊢; exact z
  ·rw[ZA hb]at z ⊢; exact e.sub b q z
 ·by_cases hb:b=p
  ·subst hb; exact .inr (.inl (e.hh.free h))
  ·rw[ZA hb]at z; exact e.new b q z
theorem Ext.lay'(e:Ext F H F' H')(h:H' p=Z_):Ext F H F' (upd H' p o):=by refine⟨e.ff,e.hh.trans (.of (Zlh h)),λb q z=>?_,e.new,λt=>(e.tab t).same (Zlh h),e.nts⟩;rw[ZA (ZaA (e.sub b q z) h)]; exact e.sub b q z
theorem Zq.upd'(h:F p=Z_):Zq F (upd F p o):=λb q z=>by rw[ZA (ZaA z h)]; exact z
def ZbX(F H:Hp):Hp:=λa=>match H a with
 | some (.tup xs)=>Z (.tup xs)
 | _=>F a
theorem Zlk{xs:List V}(h:H a=Z (.tup xs)):ZbX F H a=Z (.tup xs):=by unfold ZbX; rw[h]
theorem Zdb(s:Zq F H):Zq F (ZbX F H):=λa o h=>by
 have:=s a o h;unfold ZbX;split
 ·rename_i xs q
  rw[q]at this;exact this
 ·exact h
theorem Ext.tups(e:Ext F H F' H'):Ext F H (ZbX F' H') H':=by
 have key:Ext F' H' (ZbX F' H') H':=by
  refine⟨Zdb e.sub,ZaI.refl H',λa o h=>?_,λa o h=>?_,id,λn a o h=>?_⟩
  ·unfold ZbX at h
   split at h
   ·rename_i xs q; rw[q]; exact h
   ·exact e.sub a o h
  ·unfold ZbX at h
   split at h
   ·rename_i xs q
    cases h;exact .inr (.inr ⟨xs,rfl,q⟩)
   ·exact .inl h
  ·unfold ZbX at h
   split at h
   ·cases h; rfl
   ·exact n a o h
 exact e.trans key
inductive Zam(K:ZBd)(F H:Hp):HM.B->V->List Addr->Prop where
 | pl {d:PyData} {v:V} (r:Rep K F d v):Zam K F H (.pl d) v []
 | ol {a:Addr} {ds:List PyData} {vs:List V} (h:H a=Z (.lst vs)) (r:Zt K F ds vs):Zam K F H (.ol ds) (.ref a) [a]
 | ok {a:Addr} {kvs:List (Key × PyData)} {vvs:List (Key × V)} (h:H a=Z (.dK vvs)) (hk:kvs.map (·.1)=vvs.map (·.1)) (r:Zt K F (kvs.map (·.2)) (vvs.map (·.2))):Zam K F H (.ok kvs) (.ref a) [a]
 | ot {a:Addr} {kvs:List (List Key × PyData)} {vvs:List (List Key × V)} (h:H a=Z (.dT vvs)) (hk:kvs.map (·.1)=vvs.map (·.1)) (r:Zt K F (kvs.map (·.2)) (vvs.map (·.2))):Zam K F H (.ot kvs) (.ref a) [a]
 | otl {a:Addr} {kvs:List (List Key × List PyData)} {vvs:List (List Key × V)} {ls:List Addr} (h:H a=Z (.dT vvs)) (hk:kvs.map (·.1)=vvs.map (·.1)) (hv:vvs.map (·.2)=ls.map V.ref)
   (r:∀(i:Nat) (ds:List PyData) (l:Addr),(kvs.map (·.2))[i]?=Z ds->ls[i]?=Z l->∃vs,H l=Z (.lst vs)/\Zt K F ds vs):Zam K F H (.otl kvs) (.ref a) (a::ls)
 | hd {a:Addr} {o:Obj} {es:List (PyData × PyData)} {kvs:List (List Key × PyData)} {vvs:List (List Key × V)} (h:F a=Z (.frz o (.dT vvs))) (he:es=HM.Zg kvs) (hk:kvs.map (·.1)=vvs.map (·.1)) (r:Zt K F (kvs.map (·.2)) (vvs.map (·.2))):Zam K F H (.hd es) (.ref a) []
 | hf {a:Addr} {t:Nat} {cs:List PyData} (h:FX.fv t cs F a):Zam K F H (.hd [(.none,.int (Int.ofNat t)),(.none,.list cs)]) (.ref a) []
section
variable{K:ZBd}{F F' H H':Hp}{b:HM.B}{v:V}{fp:List Addr}
theorem Zam.mono(r:Zam K F H b v fp)(s:Zq F F')(k:∀a∈fp,∀o,H a=Z o->Zdm H' a o):Zam K F' H' b v fp:=by
 cases r with
 | pl r=>exact .pl (r.mono s)
 | ol h r=>exact .ol (k _ (by simp) _ h) (r.mono s)
 | ok h hk r=>exact .ok (k _ (by simp) _ h) hk (r.mono s)
 | ot h hk r=>exact .ot (k _ (by simp) _ h) hk (r.mono s)
 | hd h he hk r=>exact .hd (s _ _ h) he hk (r.mono s)
 | hf h=>exact .hf (FX.mono h s)
 | otl h hk hv r=>refine .otl (k _ (by simp) _ h) hk hv λi ds l h1 h2=>?_;obtain⟨vs,q1,q2⟩:=r i ds l h1 h2;exact⟨vs,k l (ZBi _ (ZBN h2)) _ q1,q2.mono s⟩
theorem Zam.there2(r:Zam K F H b v fp)(h:a∈fp):∃o,H a=Z o/\Zm7 o=ZGH:=by
 cases r with
 | pl r=>simp at h
 | hd _ _ _ _=>simp at h
 | hf _=>simp at h
 | ol q r=>simp at h; subst h; exact⟨_,q,rfl⟩
 | ok q hk r=>simp at h; subst h; exact⟨_,q,rfl⟩
 | ot q hk r=>simp at h; subst h; exact⟨_,q,rfl⟩
 | @otl a' kvs vvs ls q hk hv r =>
  rcases ZBq.mp h with e | e
  ·subst e; exact⟨_,q,rfl⟩
  ·obtain⟨i,hi⟩:=List.getElem?_of_mem e
   have hl:kvs.length=ls.length:=by have e1:=congrArg ZB7 hk;have e2:=congrArg ZB7 hv;rw[ZBb,ZBb]at e1 e2;omega
   have hi':i<kvs.length:=by rw[hl]; exact(ZBr.mp hi).1
   obtain⟨vs,q1,_⟩:=r i (kvs[i].2) a (by simp[hi']) hi;exact⟨_,q1,rfl⟩
theorem Zam.there'(r:Zam K F H b v fp)(h:a∈fp):∃o,H a=Z o/\∀xs,o≠.tup xs:=by
 cases r with
 | pl r=>simp at h
 | hd _ _ _ _=>simp at h
 | hf _=>simp at h
 | ol q r=>simp at h; subst h; exact⟨_,q,λ_ z=>by cases z⟩
 | ok q hk r=>simp at h; subst h; exact⟨_,q,λ_ z=>by cases z⟩
 | ot q hk r=>simp at h; subst h; exact⟨_,q,λ_ z=>by cases z⟩
 | @otl a' kvs vvs ls q hk hv r =>
  rcases ZBq.mp h with e | e
  ·subst e; exact⟨_,q,λ_ z=>by cases z⟩
  ·obtain⟨i,hi⟩:=List.getElem?_of_mem e
   have hl:kvs.length=ls.length:=by have e1:=congrArg ZB7 hk;have e2:=congrArg ZB7 hv;rw[ZBb,ZBb]at e1 e2;omega
   have hi':i<kvs.length:=by rw[hl]; exact(ZBr.mp hi).1
   obtain⟨vs,q1,_⟩:=r i (kvs[i].2) a (by simp[hi']) hi;exact⟨_,q1,λ_ z=>by cases z⟩
theorem Zam.there(r:Zam K F H b v fp)(h:a∈fp):∃o,H a=Z o:=let ⟨o,q,_⟩:=r.there' h; ⟨o,q⟩
end
structure Zbv(K:ZBd)(F0 H0 F H:Hp)(r:HM.Env)(σ:L2.St)(fp:Nat->List Addr):Prop where
 ext:Ext F0 H0 F H
 len:r.length=σ.length
 at_:∀(i:Nat) (b:HM.B),r[i]?=Z (Z b)->∃v,σ[i]?=Z (Z v)/\Zam K F H b v (fp i)
 emp:∀(i:Nat),(∀b,r[i]?≠Z (Z b))->fp i=[]
 own:∀(i:Nat) (a:Addr),a∈fp i->F a=Z_/\H0 a=Z_
 nd:∀i,(fp i).Nodup
 dis:∀(i j:Nat) (a:Addr),i≠j->a∈fp i->¬a∈fp j
 tb:Tb H0
 nt:NoT F0
def At(K:ZBd)(F0 H0 F H:Hp)(r:HM.Env)(σ:L2.St):Prop:=∃fp,Zbv K F0 H0 F H r σ fp
section
variable{K:ZBd}{F0 H0 F H F' H':Hp}{r:HM.Env}{σ:L2.St}{fp:Nat->List Addr}{i:Nat}{b:HM.B}{v:V}{d:PyData}
theorem Zbv.bound(e:Zbv K F0 H0 F H r σ fp)(h:a∈fp i):∃b,r[i]?=Z (Z b):=by
 cases q:r[i]? with
 | none=>rw[e.emp i (λb z=>by rw[q]at z; cases z)]at h; simp at h
 | some x =>
  cases x with
  | none=>rw[e.emp i (λb z=>by rw[q]at z; cases z)]at h; simp at h
  | some b=>exact⟨b,rfl⟩
theorem Zbv.there'(e:Zbv K F0 H0 F H r σ fp){a:Addr}(h:a∈fp i):∃o,H a=Z o/\∀xs,o≠.tup xs:=by obtain⟨b,hb⟩:=e.bound h;obtain⟨v,_,q⟩:=e.at_ i b hb;exact q.there' h
theorem Zbv.there2(e:Zbv K F0 H0 F H r σ fp){a:Addr}(h:a∈fp i):∃o,H a=Z o/\Zm7 o=ZGH:=by obtain⟨b,hb⟩:=e.bound h;obtain⟨v,_,q⟩:=e.at_ i b hb;exact q.there2 h
theorem Zbv.there(e:Zbv K F0 H0 F H r σ fp)(h:a∈fp i):∃o,H a=Z o:=let ⟨o,q,_⟩:=e.there' h; ⟨o,q⟩
theorem Zbv.sub(e:Zbv K F0 H0 F H r σ fp):Zq F H:=e.ext.sub
theorem Zbv.grow(e:Zbv K F0 H0 F H r σ fp)(x:Ext F H F' H'):Zbv K F0 H0 F' H' r σ fp:=by
 refine⟨e.ext.trans x,e.len,λi b h=>?_,e.emp,λi a h=>⟨?_,(e.own i a h).2⟩,e.nd,e.dis,e.tb,e.nt⟩
 ·obtain⟨v,h1,h2⟩:=e.at_ i b h
  exact⟨v,h1,h2.mono x.ff λa _ o q=>x.hh a o q⟩
 ·cases q:F' a with
  | none=>rfl
  | some o =>
   rcases x.new a o q with z | z
   ·rw[(e.own i a h).1]at z; cases z
   ·obtain⟨o',h',hn⟩:=e.there' h
    exact(z.no h' hn).elim
theorem At.grow(e:At K F0 H0 F H r σ)(x:Ext F H F' H'):At K F0 H0 F' H' r σ:=let ⟨fp,e⟩:=e; ⟨fp,e.grow x⟩
theorem At.tb(e:At K F0 H0 F H r σ):Tb H:=let ⟨_,e⟩:=e; e.ext.tab e.tb
theorem At.tbx(e:At K F0 H0 F H r σ)(x:Ext F H F' H'):Tb H':=x.tab e.tb
theorem At.nt(e:At K F0 H0 F H r σ):NoT F:=let ⟨_,e⟩:=e; e.ext.nts e.nt
theorem At.ntx(e:At K F0 H0 F H r σ)(x:Ext F H F' H'):NoT F':=x.nts e.nt
theorem At.nt0(e:At K F0 H0 F H r σ):NoT F0:=let ⟨_,e⟩:=e; e.nt
theorem At.sub(e:At K F0 H0 F H r σ):Zq F H:=let ⟨_,e⟩:=e; e.ext.sub
theorem At.ext(e:At K F0 H0 F H r σ):Ext F0 H0 F H:=let ⟨_,e⟩:=e; e.ext
theorem At.refl(e:At K F0 H0 F H r σ):Ext F H F H:=.refl e.sub
theorem At.plain(e:At K F0 H0 F H r σ)(h:r[i]?=Z (Z (.pl d))):∃v,σ[i]?=Z (Z v)/\Rep K F d v:=by
 obtain⟨fp,e⟩:=e;obtain⟨v,h1,h2⟩:=e.at_ i _ h;generalize fp i=f at h2;cases h2 with
 | pl q=>exact⟨v,h1,q⟩
theorem At.any(e:At K F0 H0 F H r σ)(h:r[i]?=Z (Z b)):∃v fp,σ[i]?=Z (Z v)/\Zam K F H b v fp:=by obtain⟨fp,e⟩:=e;obtain⟨v,h1,h2⟩:=e.at_ i _ h;exact⟨v,_,h1,h2⟩
theorem At.store(e:At K F0 H0 F H r σ)(q:Zam K F H b v fp')(nd:fp'.Nodup)(h1:∀a∈fp',F a=Z_/\H0 a=Z_)(h2:∀fp,Zbv K F0 H0 F H r σ fp->∀j a,j≠i->a∈fp j->¬a∈fp') :
  At K F0 H0 F H (r.set i (Z b)) (σ.set i (Z v)):=by
 obtain⟨fp,e⟩:=e;have h2:=h2 fp e
 by_cases hi:i<r.length
 ·refine⟨λj=>if j=i then fp' else fp j,e.ext,by rw[ZCy,ZCy,e.len],λj c h=>?_,λj h=>?_,λj a h=>?_,λj=>?_,λj k a hjk h=>?_,e.tb,e.nt⟩
  ·by_cases hj:j=i
   ·subst hj
    rw[ZB9 hi]at h;cases h;refine⟨v,ZB9 (by rw[<-e.len]; exact hi),?_⟩;rw[if_pos rfl]; exact q
   ·rw[ZBP (ZCn hj)]at h
    obtain⟨u,q1,q2⟩:=e.at_ j c h;refine⟨u,by rw[ZBP (ZCn hj)]; exact q1,?_⟩;rw[if_neg hj]; exact q2
  ·by_cases hj:j=i
   ·subst hj
    exact absurd (ZB9 hi) (h b)
   ·show(if j=i then fp' else fp j)=[]
    rw[if_neg hj];exact e.emp j λc z=>h c (by rw[ZBP (ZCn hj)]; exact z)
  ·by_cases hj:j=i
   ·rw[if_pos hj]at h; exact h1 a h
   ·rw[if_neg hj]at h; exact e.own j a h
  ·show(if j=i then fp' else fp j).Nodup
   by_cases hj:j=i
   ·rw[if_pos hj]; exact nd
   ·rw[if_neg hj]; exact e.nd j
  ·show ¬a∈(if k=i then fp' else fp k)
   by_cases hj:j=i
   ·rw[if_pos hj]at h
    by_cases hk:k=i
    ·exact absurd (hj.trans hk.symm) hjk
    ·rw[if_neg hk]; exact λz=>h2 k a hk z h
   ·rw[if_neg hj]at h
    by_cases hk:k=i
    ·rw[if_pos hk]; exact h2 j a hj h
    ·rw[if_neg hk]; exact e.dis j k a hjk h
 ·have e1:r.set i (Z b)=r:=ZFU (by omega)
  have e2:σ.set i (Z v)=σ:=ZFU (by have:=e.len; omega);rw[e1,e2];exact⟨fp,e⟩
theorem At.set(e:At K F0 H0 F H r σ)(q:Rep K F d v):At K F0 H0 F H (r.set i (Z (.pl d))) (σ.set i (Z v)) :=
 e.store (.pl q) ZDb (λa h=>by simp at h) λ_ _ _ _ _ _ h=>by simp at h
theorem Zbv.changeW(e:Zbv K F0 H0 F H r σ fp)(hv:σ[i]?=Z (Z v))(q:Zam K F H' b v fp')(nd:fp'.Nodup)(h1:∀a∈fp',a∈fp i\/(F a=Z_/\H0 a=Z_/\∀j,a ∉ fp j))
  (h2:∀a o,H a=Z o->¬a∈fp i->H' a=Z o):At K F0 H0 F H' (r.set i (Z b)) σ:=by
 have sF:Zq F H':=λa o z=>h2 a o (e.sub a o z) λm=>by rw[(e.own i a m).1]at z; cases z
 have sH:ZaI H0 H':=λa o z=>by
  have nm:¬a∈fp i:=λm=>by rw[(e.own i a m).2]at z; cases z
  have y:=e.ext.hh a o z;cases o<;>first | exact h2 a _ y nm | (obtain⟨ps,q⟩:=y; exact⟨ps,h2 a _ q nm⟩)
 have sT:Tb H0->Tb H':=λt=>(e.ext.tab t).keep λa o z ho=>h2 a o z λm=>by obtain⟨o',q1,q2⟩:=e.there2 m;rw[z]at q1; cases q1; exact ZuA q2 ho
 have e':Zbv K F0 H0 F H' (r.set i Z_) (σ.set i Z_) (λj=>if j=i then[]else fp j):=by
  refine⟨⟨e.ext.ff,sH,sF,e.ext.new,sT,e.ext.nts⟩,by rw[ZCy,ZCy,e.len],λj c h=>?_,λj h=>?_,λj a h=>?_,λj=>?_,λj k a hjk h=>?_,e.tb,e.nt⟩
  ·by_cases hj:j=i
   ·subst hj
    by_cases hi:j<r.length
    ·rw[ZB9 hi]at h; cases h
    ·rw[ZD5 (by rw[ZCy]; omega)]at h; cases h
   ·rw[ZBP (ZCn hj)]at h
    obtain⟨u,q1,q2⟩:=e.at_ j c h;refine⟨u,by rw[ZBP (ZCn hj)]; exact q1,?_⟩;rw[if_neg hj];exact q2.mono (Zq.refl F) λa ha o z=>.of (h2 a o z (e.dis j i a hj ha))
  ·show(if j=i then[]else fp j)=[]
   by_cases hj:j=i
   ·rw[if_pos hj]
   ·rw[if_neg hj]
    exact e.emp j λc z=>h c (by rw[ZBP (ZCn hj)]; exact z)
  ·by_cases hj:j=i
   ·rw[if_pos hj]at h; simp at h
   ·rw[if_neg hj]at h; exact e.own j a h
  ·show(if j=i then[]else fp j).Nodup
   by_cases hj:j=i
   ·rw[if_pos hj]; exact ZDb
   ·rw[if_neg hj]; exact e.nd j
  ·show ¬a∈(if k=i then[]else fp k)
   by_cases hj:j=i
   ·rw[if_pos hj]at h; simp at h
   ·rw[if_neg hj]at h
    by_cases hk:k=i
    ·rw[if_pos hk]; simp
    ·rw[if_neg hk]; exact e.dis j k a hjk h
 have hF:∀a∈fp',F a=Z_/\H0 a=Z_:=λa ha=>by
  rcases h1 a ha with z | z
  ·exact e.own i a z
  ·exact⟨z.1,z.2.1⟩
 have e2:=At.store (i:=i) ⟨_,e'⟩ q nd hF λfq eq j a hj ha z=>by
  obtain⟨c,hc⟩:=eq.bound ha;rw[ZBP (ZCn hj)]at hc;obtain⟨u1,s1,r1⟩:=eq.at_ j c (by rw[ZBP (ZCn hj)]; exact hc);obtain⟨u2,s2,r2⟩:=e.at_ j c hc;rw[ZBP (ZCn hj),s2]at s1;cases s1;have hm:a∈fp j:=by
   have r2':=r2.mono (H':=H') (Zq.refl F) λa ha o z=>.of (h2 a o z (e.dis j i a hj ha))
   clear r2
   generalize fq j=f1 at r1 ha;generalize fp j=f2 at r2' ⊢;cases r1 with
   | pl _=>simp at ha
   | hd _ _ _ _=>simp at ha
   | hf _=>simp at ha
   | ol _ _=>cases r2' with | ol _ _=>exact ha
   | ok _ _ _=>cases r2' with | ok _ _ _=>exact ha
   | ot _ _ _=>cases r2' with | ot _ _ _=>exact ha
   | otl a1 _ v1 _ =>
    cases r2' with
    | otl a2 _ v2 _ =>
     rw[a1]at a2;cases a2;rw[v1]at v2;have:∀{l l':List Addr},l.map V.ref=l'.map V.ref->l=l':=by
      intro l
      induction l with
      | nil=>intro l' h; cases l' with | nil=>rfl | cons _ _=>simp at h
      | cons x xs ih =>
       intro l' h;cases l' with
       | nil=>simp at h
       | cons y ys =>
        rw[ZBn,ZBn]at h;injection h with h1 h2
        injection h1 with h1
        rw[h1,ih h2]
     rw[<-this v2]; exact ha
  rcases h1 a z with w | w
  ·exact e.dis j i a hj hm w
  ·exact w.2.2 j hm
 rw[ZE2,ZE2]at e2;have es:σ.set i (Z v)=σ:=by have hi:i<σ.length:=(ZBr.mp hv).1;have hq:σ[i]=Z v:=(ZBr.mp hv).2;rw[<-hq];exact ZD6 hi
 rwa [es]at e2
theorem Zbv.change(e:Zbv K F0 H0 F H r σ fp)(hv:σ[i]?=Z (Z v))(q:Zam K F H' b v fp')(nd:fp'.Nodup)(h1:∀a∈fp',a∈fp i\/H a=Z_)
  (h2:∀a o,H a=Z o->¬a∈fp i->H' a=Z o):At K F0 H0 F H' (r.set i (Z b)) σ :=
 e.changeW hv q nd (λa ha=>(h1 a ha).imp id λz=>⟨e.sub.free z,e.ext.hh.free z,λj hj=>by obtain⟨o,ho⟩:=e.there hj;rw[z]at ho; cases ho⟩) h2
theorem At.storeNew(e:At K F0 H0 F H r σ)(hb:At K F0 H0 F' Hb r σ)(sb:ZaI Hb H)(q:Zam K F H b v fp')(nd:fp'.Nodup)(h1:∀a∈fp',F a=Z_/\Hb a=Z_) :
  At K F0 H0 F H (r.set i (Z b)) (σ.set i (Z v)):=by
 refine e.store q nd (λa h=>⟨(h1 a h).1,hb.ext.hh.free (h1 a h).2⟩) λfp e1 j a hj ha z=>?_;obtain⟨fq,eb⟩:=hb;obtain⟨c,hc⟩:=e1.bound ha;obtain⟨u1,s1,r1⟩:=e1.at_ j c hc;obtain⟨u2,s2,r2⟩:=eb.at_ j c hc;rw[s2]at s1;cases s1;have hn:=(h1 a z).2;have old:∀{x:Addr} {o o':HO},Hb x=Z o->H x=Z o'->(∀ps,o'≠.tbl ps)->o=o':=λ{x o o'} h1 h2 n=>sb.back h1 h2 n;generalize fp j=f1 at r1 ha;generalize fq j=f2 at r2;cases r1 with
 | pl _=>simp at ha
 | hd _ _ _ _=>simp at ha
 | hf _=>simp at ha
 | ol k _=>cases r2 with | ol k' _=>simp at ha; subst ha; rw[hn]at k'; cases k'
 | ok k _ _=>cases r2 with | ok k' _ _=>simp at ha; subst ha; rw[hn]at k'; cases k'
 | ot k _ _=>cases r2 with | ot k' _ _=>simp at ha; subst ha; rw[hn]at k'; cases k'
 | otl k _ v1 _ =>
  cases r2 with
  | otl k' hk' v2 r2' =>
   have eo:=old k' k λ_ z=>by cases z
   injection eo with eo
   subst eo;have v2':=v2;rw[v1]at v2;rcases ZBq.mp ha with z2 | z2
   ·subst z2; rw[hn]at k'; cases k'
   ·have:V.ref a∈ZFf V.ref _:=ZBh.mpr ⟨a,z2,rfl⟩
    rw[v2]at this;obtain⟨a',m1,m2⟩:=ZBh.mp this;injection m2 with m2
    subst m2;obtain⟨o,ho⟩:=Zam.there (Zam.otl k' hk' v2' r2') (ZBi _ m1);rw[hn]at ho; cases ho
theorem At.rebase(e:At K F0 H0 F H r σ):At K F H0 F H r σ:=by obtain⟨fp,e⟩:=e;exact⟨fp,⟨Zq.refl F,e.ext.hh,e.ext.sub,λ_ _ z=>.inl z,e.ext.tab,id⟩,e.len,e.at_,e.emp,e.own,e.nd,e.dis,e.tb,e.ext.nts e.nt⟩
theorem Ext.unbase(x:Ext F0 H0 F1 H1)(y:Ext F1 H0 F H):Ext F0 H0 F H :=
 ⟨x.ff.trans y.ff,y.hh,y.sub,λa o z=>(y.new a o z).elim (λq=>x.new a o q) .inr,y.tab,λt=>y.nts (x.nts t)⟩
theorem At.unbase{F1 H1:Hp}(x:Ext F0 H0 F1 H1)(n:NoT F0)(e:At K F1 H0 F H r σ):At K F0 H0 F H r σ:=by obtain⟨fp,e⟩:=e;exact⟨fp,x.unbase e.ext,e.len,e.at_,e.emp,e.own,e.nd,e.dis,e.tb,n⟩
theorem Zbv.freeze{fp:Nat->List Addr}(e:Zbv K F0 H0 F H r σ fp)(i:Nat){b:HM.B}{d:PyData}(hb:r[i]?=Z (Z b))(h1:σ[i]?=Z (Z (.ref a)))(hfp:fp i=[a])(ha:H a=Z ob)(hr:Zq F (upd F a ob)->Rep K (upd F a ob) d (.ref a))(no:HP.nt ob=ZGH:=by rfl) :
  ∃F',Ext F0 H0 F' H/\Zq F F'/\At K F0 H0 F' H (r.set i (Z (.pl d))) σ:=by
 have hF:F a=Z_:=(e.own i a (by rw[hfp]; simp)).1;have s:Zq F (upd F a ob):=Zq.upd' hF;have x:Ext F0 H0 (upd F a ob) H:=by
  refine⟨e.ext.ff.trans s,e.ext.hh,λc o z=>?_,λc o z=>?_,e.ext.tab,λt=>(e.ext.nts t).upd no⟩
  ·by_cases hc:c=a
   ·subst hc; rw[ZE]at z; cases z; exact ha
   ·rw[ZA hc]at z; exact e.sub c o z
  ·by_cases hc:c=a
   ·subst hc; exact .inr (.inl (e.own i c (by rw[hfp]; simp)).2)
   ·rw[ZA hc]at z; exact e.ext.new c o z
 refine⟨_,x,s,?_⟩;have e1:Zbv K F0 H0 (upd F a ob) H (r.set i Z_) (σ.set i Z_) (λj=>if j=i then[]else fp j):=by
  refine⟨x,by rw[ZCy,ZCy,e.len],λj c h=>?_,λj h=>?_,λj c h=>?_,λj=>?_,λj k c hjk h=>?_,e.tb,e.nt⟩
  ·by_cases hj:j=i
   ·subst hj
    rw[ZB9 (ZBr.mp hb).1]at h; cases h
   ·rw[ZBP (ZCn hj)]at h
    obtain⟨u,q1,q2⟩:=e.at_ j c h;refine⟨u,by rw[ZBP (ZCn hj)]; exact q1,?_⟩;rw[if_neg hj]; exact q2.mono s λ_ _ _ z=>.of z
  ·show(if j=i then[]else fp j)=[]
   by_cases hj:j=i
   ·rw[if_pos hj]
   ·rw[if_neg hj]
    exact e.emp j λc z=>h c (by rw[ZBP (ZCn hj)]; exact z)
  ·by_cases hj:j=i
   ·rw[if_pos hj]at h; simp at h
   ·rw[if_neg hj]at h
    have hca:c≠a:=λz=>e.dis j i c hj h (by rw[hfp,z]; simp);exact⟨by rw[ZA hca]; exact(e.own j c h).1,(e.own j c h).2⟩
  ·show(if j=i then[]else fp j).Nodup
   by_cases hj:j=i
   ·rw[if_pos hj]; exact ZDb
   ·rw[if_neg hj]; exact e.nd j
  ·show ¬c∈(if k=i then[]else fp k)
   by_cases hj:j=i
   ·rw[if_pos hj]at h; simp at h
   ·rw[if_neg hj]at h
    by_cases hk:k=i
    ·rw[if_pos hk]; simp
    ·rw[if_neg hk]; exact e.dis j k c hjk h
 have rp:=hr s;have e2:=At.set (i:=i) ⟨_,e1⟩ rp;rw[ZE2,ZE2]at e2;have es:σ.set i (Z (.ref a))=σ:=by have hi:i<σ.length:=(ZBr.mp h1).1;have hq:σ[i]=Z (.ref a):=(ZBr.mp h1).2;rw[<-hq];exact ZD6 hi
 rwa [es]at e2
theorem At.freeze(e:At K F0 H0 F H r σ)(i:Nat):∃F',Ext F0 H0 F' H/\Zq F F'/\At K F0 H0 F' H (HM.Zmv i r) σ:=by
 unfold HM.Zmv;split
 ·rename_i ds hb
  obtain⟨fp,e⟩:=e;obtain⟨v,h1,h2⟩:=e.at_ i _ hb;generalize hfp:fp i=f at h2;cases h2 with
  | @ol a _ vs ha q=>exact e.freeze i hb h1 hfp ha λs=>.lst (.of ZE) q.1 (q.mono s).2
 ·rename_i kvs hb
  obtain⟨fp,e⟩:=e;obtain⟨v,h1,h2⟩:=e.at_ i _ hb;generalize hfp:fp i=f at h2;cases h2 with
  | @ot a _ vvs ha hk q=>exact e.freeze i hb h1 hfp ha λs=>.dct (.inl ZE) rfl hk (q.mono s).2
 ·exact⟨F,e.ext,Zq.refl F,e⟩
end
inductive Now(K:ZBd)(r:HM.Env)(σ:L2.St)(H:Hp)(C:Hp->Hp->Hp->Prop):Prop
 | mk (F0 H0 F:Hp) (at_:At K F0 H0 F H r σ) (k:C F0 H0 F):Now K r σ H C
end
section
variable[FX]
def tAt(K:ZBd)(r:HM.Env)(P:Hp->Hp->Hp->V->Prop):TE:=λσ H Q=>Now K r σ H λF0 H0 F=>∀v F' H',Ext F H F' H'->P H F' H' v->Q v H'
def XE(X:Cx)(e:Expr)(f:HM.EF):Prop:=∀r d,f r=Z d->PE X e (tAt X.K r λ_ F' _ v=>Rep X.K F' d v)
def XB(X:Cx)(e:Expr)(f:HM.BF):Prop:=∀r b,f r=Z b->PE X e (tAt X.K r λ_ F' H' v=>∃fp,Zam X.K F' H' b v fp)
def XF(X:Cx)(e:Expr)(f:HM.BF):Prop:=∀r b,f r=Z b->PE X e (tAt X.K r λH F' H' v=>∃fp,Zam X.K F' H' b v fp/\fp.Nodup/\∀a∈fp,F' a=Z_/\H a=Z_)
def XT(X:Cx)(e:Expr)(f:HM.TF):Prop:=∀r c,f r=Z c->PT X e λσ H Q=>Now X.K r σ H λF0 H0 F=>∀F' H',Ext F H F' H'->Q c H'
def XW(X:Cx)(e:Expr)(f:HM.TF):Prop:=∀r c,f r=Z c->PW X e λσ H Q=>Now X.K r σ H λF0 H0 F=>∀F' H',Ext F H F' H'->Q c H'
structure XA(X:Cx)(es:List Expr)(f:HM.AF):Prop where
 len:∀r ds,f r=Z ds->ds.length=es.length
 pa:∀r ds,f r=Z ds->PA X es λσ H Q=>Now X.K r σ H λF0 H0 F=>∀vs F' H',Ext F H F' H'->Zt X.K F' ds vs->Q vs H'
def ItD(K:ZBd)(J:It)(ds:List PyData)(F:Hp):Prop:=∀F' H,Zq F F'->Zq F' H ->
 (∀(i:Nat) (d:PyData),ds[i]?=Z d->J.go i H/\∀x H',J.yld i H x H'->H'=H/\Rep K (ZbX F' H) d x)/\J.stop ds.length H
def XI(X:Cx)(tg e:Expr)(f:HM.IF):Prop:=∀r ds,f r=Z ds->PI X tg e λσ H R=>Now X.K r σ H λF0 H0 F=>∀J F' H',Ext F H F' H'->ItD X.K J ds F'->R J H'
def ZAO(K:ZBd)(F0 H0:Hp)(o:HM.Out)(E:Ends):Prop:=match o with
 | .nx r=>∀σ F H,At K F0 H0 F H r σ->E.nx σ H
 | .rt d=>∀v F H,Ext F0 H0 F H->Rep K F d v->E.rt v H
 | .bk r=>∀σ F H,At K F0 H0 F H r σ->E.bk σ H
 | .ct r=>∀σ F H,At K F0 H0 F H r σ->E.ct σ H
def tSt(K:ZBd)(r:HM.Env)(o:HM.Out):TS:=λE σ H=>Now K r σ H λF0 H0 F=>ZAO K F0 H0 o E
def XS(X:Cx)(st:Stmt)(g:HM.SF):Prop:=∀r o,g r=Z o->PS X st (tSt X.K r o)
def XSs(X:Cx)(sts:List Stmt)(g:HM.SF):Prop:=∀r o,g r=Z o->PSs X sts (tSt X.K r o)
theorem PE.imp{e:Expr}{t u:TE}(h:PE X e t)(hi:∀σ H Q,u σ H Q->t σ H Q):PE X e u:=λpins s σ H Q I q=>h pins s σ H Q I (hi σ H Q q)
theorem PT.imp{e:Expr}{t u:TT}(h:PT X e t)(hi:∀σ H Q,u σ H Q->t σ H Q):PT X e u:=λpins s σ H Q I q=>h pins s σ H Q I (hi σ H Q q)
theorem PW.imp{e:Expr}{t u:TT}(h:PW X e t)(hi:∀σ H Q,u σ H Q->t σ H Q):PW X e u:=λwh pins s σ H Q I q=>h wh pins s σ H Q I (hi σ H Q q)
theorem PA.imp{t u:TA}(h:PA X es t)(hi:∀σ H Q,u σ H Q->t σ H Q):PA X es u:=λp pins s σ H Q I q=>h p pins s σ H Q I (hi σ H Q q)
theorem PS.imp{t u:TS}(h:PS X st t)(hi:∀E σ H,u E σ H->t E σ H):PS X st u:=λpins s σ H E I q=>h pins s σ H E I (hi E σ H q)
theorem PSs.imp{sts:List Stmt}{t u:TS}(h:PSs X sts t)(hi:∀E σ H,u E σ H->t E σ H):PSs X sts u:=λpins s σ H E I q=>h pins s σ H E I (hi E σ H q)
section
variable{X:Cx}{a b c e:Expr}{fa fb fc:HM.EF}{pos p:Pos}
theorem ZvK{d:PyData}(h:HM.Zc i r=Z d):r[i]?=Z (Z (.pl d)):=by
 unfold HM.Zc at h;split at h
 ·rename_i q; cases h; exact q
 ·cases h
theorem ZvN{d:HM.B}(h:HM.Zo i r=Z d):r[i]?=Z (Z d):=by
 unfold HM.Zo at h;split at h
 ·rename_i q; cases h; exact q
 ·cases h
theorem Zd(i:Nat){pos:Pos}(hN:X.N[i]?=Z x:=by rfl)(hv:Vis X.env.scope x:=by first | exact ZBZ rfl | exact ZBC (ZBZ rfl) | exact ZBC (ZBC rfl))(hd:(x==("__debug__":Str))=ZGI:=by decide)
  (hcd:(x==("__classdict__":Str))=ZGI:=by decide):XE X (.Name x pos) (HM.Zc i):=by
 intro r d h;refine PE.imp (Zb9 hN hv hd hcd) λσ H Q ⟨F0,H0,F,at_,k⟩=>?_;obtain⟨v,h1,h2⟩:=at_.plain (ZvK h);exact⟨v,h1,k v F H at_.refl h2⟩
theorem Zp(i:Nat){pos:Pos}(hN:X.N[i]?=Z x:=by rfl)(hv:Vis X.env.scope x:=by first | exact ZBZ rfl | exact ZBC (ZBZ rfl) | exact ZBC (ZBC rfl))(hd:(x==("__debug__":Str))=ZGI:=by decide)
  (hcd:(x==("__classdict__":Str))=ZGI:=by decide):XB X (.Name x pos) (HM.Zo i):=by
 intro r d h;refine PE.imp (Zb9 hN hv hd hcd) λσ H Q ⟨F0,H0,F,at_,k⟩=>?_;obtain⟨v,fp,h1,h2⟩:=at_.any (ZvN h);exact⟨v,h1,k v F H at_.refl ⟨fp,h2⟩⟩
theorem Zen{v:V}{d:PyData}(h:PE X e (tC v))(r:∀F,Rep X.K F d v):XE X e (HM.eC d):=by intro r' d' h';cases h';exact PE.imp h λσ H Q ⟨F0,H0,F,at_,k⟩=>k v F H at_.refl (r F)
theorem Zh{i:Int}:XE X (.Constant (.int i) j pos) (HM.eC (.int i)):=Zen Zt1 λ_=>.int i
theorem Zb0{q:Bool}:XE X (.Constant (.bool q) j pos) (HM.eC (.bool q)):=Zen ZzX λ_=>.bl q
theorem Zbx:XE X (.Constant .none j pos) (HM.eC .none):=Zen Ztk λ_=>.non
theorem Zon:XE X (.Constant (.str x) j pos) (HM.eC (.str x)):=Zen ZyL λ_=>.str x
theorem Zgu{i:Int}(hm:∃t,X.mg x=Z (.int i t))(hg:Gl X x:=by rfl)(hd:(x==("__debug__":Str))=ZGI:=by decide):XE X (.Name x pos) (HM.eC (.int i)):=by obtain⟨t,hm⟩:=hm;exact Zen (ZmH hg hm (v:=.int i) ⟨t,rfl⟩ hd) λ_=>.int i
theorem ZxM{i:Int}:XE X (.UnaryOp .USub (.Constant (.int i) j p') pos) (HM.eC (.int (-i))):=by intro r d h;cases h;intro pins s σ H Q I q;obtain⟨F0,H0,F,at_,k⟩:=q;refine UnaryOp_ (thn (Zt1 pins s σ H (λv H'=>v=.int i/\H'=H) I ⟨rfl,rfl⟩) λu s1 ⟨x,H1,I1,r1,e1,e2⟩=>?_);subst e1 e2;obtain⟨t,rfl⟩:=r1;exact neg_int ⟨.int (-i),H1,I1.tok _,⟨_,rfl⟩,k _ F H1 at_.refl (.int _)⟩
theorem Zaf(h:XE X e fa):XB X e (HM.bOf fa):=by intro r b hb;obtain⟨d,h1,h2⟩:=ZBc.mp hb;subst h2;exact PE.imp (h r d h1) λσ H Q ⟨F0,H0,F,at_,k⟩=>⟨F0,H0,F,at_,λv F' H' x q=>k v F' H' x ⟨[],.pl q⟩⟩
theorem ZaT(h:XF X e f):XB X e f:=λr b hb=>PE.imp (h r b hb) λσ H Q ⟨F0,H0,F,at_,k⟩=>⟨F0,H0,F,at_,λv F' H' x ⟨fp,q,_⟩=>k v F' H' x ⟨fp,q⟩⟩
theorem Zgd(h:XF X e f):XE X e (HM.eOf f):=by
 intro r d hd;unfold HM.eOf at hd;obtain⟨b,h1,h2⟩:=ZEC.mp hd;refine PE.imp (h r b h1) λσ H Q ⟨F0,H0,F,at_,k⟩=>⟨F0,H0,F,at_,λv F' H' x ⟨fp,q,_,hn⟩=>?_⟩;cases q with
 | pl q=>cases h2;exact k v F' H' x q
 | @ol l ds vs hl q =>
  cases h2;have hF:F' l=Z_:=(hn l (by simp)).1;have s:Zq F' (upd F' l (.lst vs)):=Zq.upd' hF;refine k _ (upd F' l (.lst vs)) H' ⟨x.ff.trans s,x.hh,λc o z=>?_,λc o z=>?_,x.tab,λt=>(x.nts t).upd rfl⟩ (.lst (.of ZE) q.1 (q.mono s).2)
  ·by_cases hc:c=l
   ·subst hc; rw[ZE]at z; cases z; exact hl
   ·rw[ZA hc]at z; exact x.sub c o z
  ·by_cases hc:c=l
   ·subst hc; exact .inr (.inl (hn c (by simp)).2)
   ·rw[ZA hc]at z; exact x.new c o z
 | @ot l kvs vvs hl hk q =>
  cases h2;have hF:F' l=Z_:=(hn l (by simp)).1;have s:Zq F' (upd F' l (.dT vvs)):=Zq.upd' hF;refine k _ (upd F' l (.dT vvs)) H' ⟨x.ff.trans s,x.hh,λc o z=>?_,λc o z=>?_,x.tab,λt=>(x.nts t).upd rfl⟩ (.dct (.inl ZE) rfl hk (q.mono s).2)
  ·by_cases hc:c=l
   ·subst hc; rw[ZE]at z; cases z; exact hl
   ·rw[ZA hc]at z; exact x.sub c o z
  ·by_cases hc:c=l
   ·subst hc; exact .inr (.inl (hn c (by simp)).2)
   ·rw[ZA hc]at z; exact x.new c o z
 | ok _ _ _=>cases h2
 | hd h3 h4 h5 h6=>cases h2; exact k _ F' H' x (.dct (.inr ⟨_,h3⟩) h4 h5 h6.2)
 | hf h3=>cases h2; exact k _ F' H' x (.fn h3)
 | otl _ _ _ _=>cases h2
def Bin(K:ZBd)(r:R2)(g:PyData->PyData->Option PyData):Prop:=∀(F H:Hp) (x y z:PyData) (v w:V) (Q:VK),Zq F H->g x y=Z z->Rep K F x v->Rep K F y w->(∀u,Rep K F z u->Q u H)->r v w H Q
structure ZpW(X:Cx)(op:Operator)(g:PyData->PyData->Option PyData):Prop where
 ex:∃r,OpR X (ZDO op) r/\Bin X.K r g
structure Zfc(X:Cx)(op:CmpOp)(g:PyData->PyData->Option PyData):Prop where
 ex:∃r,OpR X (ZCx op) r/\Bin X.K r g
 n1:op≠.In
 n2:op≠.NotIn
theorem Zic{d:PyData}(h:HM.op2 g fa fb r=Z d):∃x y,fa r=Z x/\fb r=Z y/\g x y=Z d:=by
 unfold HM.op2 at h;split at h
 ·split at h
  ·exact⟨_,_,by assumption,by assumption,h⟩
  ·cases h
 ·cases h
theorem two{x y:PyData}{P:Hp->Hp->Hp->V->Prop}{Q:VK}{R:V->V->Hp->VK->Prop}(h:tAt K r P σ H Q)
  (hk:∀H F2 H2 v w,Zq F2 H2->Rep K F2 x v->Rep K F2 y w->(∀u F3 H3,Ext F2 H2 F3 H3->P H F3 H3 u->Q u H3)->ZaI H H2->R v w H2 Q) :
  tOp R (tAt K r λ_ F' _ v=>Rep K F' x v) (tAt K r λ_ F' _ v=>Rep K F' y v) σ H Q:=by
 obtain⟨F0,H0,F,at_,k⟩:=h;refine⟨F0,H0,F,at_,λv F1 H1 x1 r1=>⟨F0,H0,F1,at_.grow x1,λw F2 H2 x2 r2=>?_⟩⟩;exact hk H F2 H2 v w x2.sub (r1.mono x2.ff) r2 (λu F3 H3 x3 q=>k u F3 H3 ((x1.trans x2).trans x3) q) (x1.hh.trans x2.hh)
theorem Zy{op:Operator}(o:ZpW X op g)(ha:XE X a fa)(hb:XE X b fb):XE X (.BinOp a op b pos) (HM.op2 g fa fb):=by intro r d h;obtain⟨x,y,h1,h2,h3⟩:=Zic h;obtain⟨R,o1,o2⟩:=o.ex;refine PE.imp (Zmi o1 (ha r x h1) (hb r y h2)) λσ H Q q=>?_;exact two q λ_ F2 H2 v w s r1 r2 k _=>o2 F2 H2 x y d v w Q s h3 r1 r2 λu ru=>k u F2 H2 (.refl s) ru
theorem ZgA{op:CmpOp}(o:Zfc X op g)(ha:XE X a fa)(hb:XE X b fb):XE X (.Compare a [op] [b] pos) (HM.op2 g fa fb):=by intro r d h;obtain⟨x,y,h1,h2,h3⟩:=Zic h;obtain⟨R,o1,o2⟩:=o.ex;refine PE.imp (ZrO o1 (ha r x h1) (hb r y h2) (Zlv _ o.n1 o.n2)) λσ H Q q=>?_;exact two q λ_ F2 H2 v w s r1 r2 k _=>o2 F2 H2 x y d v w Q s h3 r1 r2 λu ru=>k u F2 H2 (.refl s) ru
theorem ZjO{c:Bool}(h:HM.tV fa r=Z c):fa r=Z (.bool c):=by
 unfold HM.tV at h;split at h
 ·rename_i q; cases h; exact q
 ·cases h
theorem Rep.bool_inv{c:Bool}{v:V}(h:Rep K F (.bool c) v):v=.bl c:=by cases h; rfl
theorem Rep.int_inv{i:Int}{v:V}(h:Rep K F (.int i) v):v=.int i:=by cases h; rfl
theorem Rep.none_inv{v:V}(h:Rep K F .none v):v=.non:=by cases h; rfl
theorem Zag{op:CmpOp}(o:Zfc X op g)(ha:XE X a fa)(hb:XE X b fb):XT X (.Compare a [op] [b] pos) (HM.tV (HM.op2 g fa fb)):=by intro r d h;obtain⟨x,y,h1,h2,h3⟩:=Zic (ZjO h);obtain⟨R,o1,o2⟩:=o.ex;refine PT.imp (ZwP o1 (ha r x h1) (hb r y h2) (Zlv _ o.n1 o.n2)) λσ H Q ⟨F0,H0,F,at_,k⟩=>?_;refine⟨F0,H0,F,at_,λv F1 H1 x1 r1=>⟨F0,H0,F1,at_.grow x1,λw F2 H2 x2 r2=>?_⟩⟩;refine o2 F2 H2 x y _ v w _ x2.sub h3 (r1.mono x2.ff) r2 λu ru=>?_;exact⟨d,ru.bool_inv,k F2 H2 (x1.trans x2)⟩
theorem Zb2(h:XE X e fa)(he:∀whole,isTrue e X.env whole=(do let v <-whole; standAt e.pos; holding [v] (truthy v)):=by intro _; rfl):XT X e (HM.tV fa):=by intro r c hc;refine PT.imp (Zy6 (h r _ (ZjO hc)) he) λσ H Q ⟨F0,H0,F,at_,k⟩=>?_;exact⟨F0,H0,F,at_,λv F1 H1 x1 r1=>⟨c,r1.bool_inv,k F1 H1 x1⟩⟩
theorem Zcx{t:HM.TF}(h:XT X a t):XT X (.UnaryOp .Not a pos) (HM.Zde t):=by intro r c hc;obtain⟨d,h1,h2⟩:=ZBc.mp hc;subst h2;refine PT.imp (ZyV (h r d h1)) λσ H Q ⟨F0,H0,F,at_,k⟩=>?_;exact⟨F0,H0,F,at_,λF1 H1 x1=>k F1 H1 x1⟩
theorem Zmx{t:HM.TF}(h:XW X e t):XT X e t:=λr c hc=>(h r c hc).pt
theorem Zwo{t:HM.TF}(h:XT X a t):XW X (.BoolOp .And [a] pos) t:=λr c hc=>Zxn (h r c hc)
theorem Zji{t:HM.TF}(h:XT X a t):XW X (.BoolOp .Or [a] pos) t:=λr c hc=>Zx6 (h r c hc)
theorem Zp7{e:Expr}:PW X e λ_ _ _=>False:=λ_ _ _ _ _ _ _ h=>h.elim
theorem Zfs{e:Expr}:PE X e λ_ _ _=>False:=λ_ _ _ _ _ _ h=>h.elim
theorem ZxN{t u:HM.TF}(ha:XT X a t)(hb:XW X (.BoolOp .And (b::rest) pos) u):XW X (.BoolOp .And (a::b::rest) pos) (HM.ZlF t u):=by
 intro r c hc;unfold HM.ZlF at hc;split at hc
 ·rename_i q
  refine PW.imp (ZtP (ha r ZGH q) (hb r c hc)) λσ H Q ⟨F0,H0,F,at_,k⟩=>?_;exact⟨F0,H0,F,at_,λF1 H1 x1=>ZjJ ⟨F0,H0,F1,at_.grow x1,λF2 H2 x2=>k F2 H2 (x1.trans x2)⟩⟩
 ·rename_i q
  cases hc;refine PW.imp (ZtP (ha r ZGI q) Zp7) λσ H Q ⟨F0,H0,F,at_,k⟩=>?_;exact⟨F0,H0,F,at_,λF1 H1 x1=>Zj2 (k F1 H1 x1)⟩
 ·cases hc
theorem ZlI{t u:HM.TF}(ha:XT X a t)(hb:XW X (.BoolOp .Or (b::rest) pos) u):XW X (.BoolOp .Or (a::b::rest) pos) (HM.tOr t u):=by
 intro r c hc;unfold HM.tOr at hc;split at hc
 ·rename_i q
  cases hc;refine PW.imp (Zwh (ha r ZGH q) Zp7) λσ H Q ⟨F0,H0,F,at_,k⟩=>?_;exact⟨F0,H0,F,at_,λF1 H1 x1=>ZjJ (k F1 H1 x1)⟩
 ·rename_i q
  refine PW.imp (Zwh (ha r ZGI q) (hb r c hc)) λσ H Q ⟨F0,H0,F,at_,k⟩=>?_;exact⟨F0,H0,F,at_,λF1 H1 x1=>Zj2 ⟨F0,H0,F1,at_.grow x1,λF2 H2 x2=>k F2 H2 (x1.trans x2)⟩⟩
 ·cases hc
theorem ZeH{op:BoolOp}(h:XE X a fa):XE X (.BoolOp op [a] pos) fa:=λr d hd=>Zx8 (h r d hd)
theorem ZfL(ha:XE X a fa)(hb:XE X (.BoolOp .And (b::rest) pos) fb):XE X (.BoolOp .And (a::b::rest) pos) (HM.ZhQ fa fb):=by
 intro r d hd;unfold HM.ZhQ at hd;split at hd
 ·rename_i q
  refine PE.imp (ZtF (ha r _ q) (hb r d hd)) λσ H Q ⟨F0,H0,F,at_,k⟩=>?_;exact⟨F0,H0,F,at_,λv F1 H1 x1 r1=>⟨ZGH,r1.bool_inv,ZjJ ⟨F0,H0,F1,at_.grow x1,λw F2 H2 x2 r2=>k w F2 H2 (x1.trans x2) r2⟩⟩⟩
 ·rename_i q
  cases hd;refine PE.imp (ZtF (ha r _ q) Zfs) λσ H Q ⟨F0,H0,F,at_,k⟩=>?_;exact⟨F0,H0,F,at_,λv F1 H1 x1 r1=>⟨ZGI,r1.bool_inv,Zj2 (k _ F1 H1 x1 (.bl ZGI))⟩⟩
 ·cases hd
theorem Zzw(ha:XE X a fa)(hb:XE X (.BoolOp .Or (b::rest) pos) fb):XE X (.BoolOp .Or (a::b::rest) pos) (HM.eOr fa fb):=by
 intro r d hd;unfold HM.eOr at hd;split at hd
 ·rename_i q
  cases hd;refine PE.imp (Zwc (ha r _ q) Zfs) λσ H Q ⟨F0,H0,F,at_,k⟩=>?_;exact⟨F0,H0,F,at_,λv F1 H1 x1 r1=>⟨ZGH,r1.bool_inv,ZjJ (k _ F1 H1 x1 (.bl ZGH))⟩⟩
 ·rename_i q
  refine PE.imp (Zwc (ha r _ q) (hb r d hd)) λσ H Q ⟨F0,H0,F,at_,k⟩=>?_;exact⟨F0,H0,F,at_,λv F1 H1 x1 r1=>⟨ZGI,r1.bool_inv,Zj2 ⟨F0,H0,F1,at_.grow x1,λw F2 H2 x2 r2=>k w F2 H2 (x1.trans x2) r2⟩⟩⟩
 ·cases hd
theorem ZrT{t:HM.TF}(hc:XT X c t)(ha:XE X a fa)(hb:XE X b fb):XE X (.IfExp c a b pos) (HM.eIf t fa fb):=by
 intro r d hd;unfold HM.eIf at hd;split at hd
 ·rename_i q
  refine PE.imp (ZpG (hc r _ q) (ha r d hd) Zfs) λσ H Q ⟨F0,H0,F,at_,k⟩=>?_;exact⟨F0,H0,F,at_,λF1 H1 x1=>ZjJ ⟨F0,H0,F1,at_.grow x1,λw F2 H2 x2 r2=>k w F2 H2 (x1.trans x2) r2⟩⟩
 ·rename_i q
  refine PE.imp (ZpG (hc r _ q) Zfs (hb r d hd)) λσ H Q ⟨F0,H0,F,at_,k⟩=>?_;exact⟨F0,H0,F,at_,λF1 H1 x1=>Zj2 ⟨F0,H0,F1,at_.grow x1,λw F2 H2 x2 r2=>k w F2 H2 (x1.trans x2) r2⟩⟩
 ·cases hd
theorem Zoo{op op':CmpOp}{g':PyData->PyData->Option PyData}(o:Zfc X op g)(o':Zfc X op' g')(ha:XE X a fa)(hb:XE X b fb)(hc:XE X c fc)
  (hm:lastMarks [op,op'] [b,c]=ZGI:=by with_unfolding_all rfl):XE X (.Compare a [op,op'] [b,c] pos) (HM.Zec g g' fa fb fc):=by
 intro r d hd;unfold HM.Zec at hd;obtain⟨R,o1,o2⟩:=o.ex;obtain⟨R',o1',o2'⟩:=o'.ex;split at hd
 ·rename_i x hx
  split at hd
  ·rename_i y hy
   split at hd
   ·rename_i hg
    split at hd
    ·rename_i z hz
     refine PE.imp (Zo3 o1 o1' (ha r x hx) (hb r y hy) (hc r z hz) hm) λσ H Q ⟨F0,H0,F,at_,k⟩=>?_;refine⟨F0,H0,F,at_,λv F1 H1 x1 r1=>⟨F0,H0,F1,at_.grow x1,λw F2 H2 x2 r2=>?_⟩⟩;refine o2 F2 H2 x y _ v w _ x2.sub hg (r1.mono x2.ff) r2 λu ru=>?_;refine⟨ZGH,ru.bool_inv,ZjJ ⟨F0,H0,F2,(at_.grow x1).grow x2,λw' F3 H3 x3 r3=>?_⟩⟩;exact o2' F3 H3 y z d w w' Q x3.sub hd (r2.mono x3.ff) r3 λu' ru'=>k u' F3 H3 ((x1.trans x2).trans x3) ru'
    ·cases hd
   ·rename_i hg
    cases hd;refine PE.imp (Zo3 o1 o1' (ha r x hx) (hb r y hy) Zfs hm) λσ H Q ⟨F0,H0,F,at_,k⟩=>?_;refine⟨F0,H0,F,at_,λv F1 H1 x1 r1=>⟨F0,H0,F1,at_.grow x1,λw F2 H2 x2 r2=>?_⟩⟩;refine o2 F2 H2 x y _ v w _ x2.sub hg (r1.mono x2.ff) r2 λu ru=>?_;exact⟨ZGI,ru.bool_inv,Zj2 (k _ F2 H2 (x1.trans x2) (.bl ZGI))⟩
   ·cases hd
  ·cases hd
 ·cases hd
theorem Zf:XA X [] HM.Zi:=by refine⟨λr ds h=>by cases h; rfl,λr ds h=>?_⟩;cases h;exact PA.imp Zca λσ H Q ⟨F0,H0,F,at_,k⟩=>k [] F H at_.refl .nil
theorem Zb{f:HM.AF}(ha:XE X e fa)(hr:XA X es f)(hs:ZBp (e::es) X.env=(ZGI,eval e X.env)::ZBp es X.env:=by rfl):XA X (e::es) (HM.Za fa f):=by
 refine⟨λr ds h=>?_,λr ds h=>?_⟩
 ·unfold HM.Za at h
  split at h
  ·obtain⟨xs,h1,h2⟩:=ZBc.mp h
   subst h2;rw[ZBy,ZBy,hr.len r xs h1]
  ·cases h
 unfold HM.Za at h;split at h
 ·rename_i x hx
  obtain⟨xs,h1,h2⟩:=ZBc.mp h;subst h2;refine PA.imp (ZaL (ha r x hx) (hr.pa r xs h1) hs) λσ H Q ⟨F0,H0,F,at_,k⟩=>?_;exact⟨F0,H0,F,at_,λv F1 H1 x1 r1=>⟨F0,H0,F1,at_.grow x1,λvs F2 H2 x2 r2=>k (v::vs) F2 H2 (x1.trans x2) (.cons (r1.mono x2.ff) r2)⟩⟩
 ·cases h
theorem Za7{f:HM.AF}{x1:Nat}(h:XA X es f)(hl:es.length<=100:=by exact Nat.le_of_ble_eq_true rfl):XE X (.Tuple es x1 pos) (HM.Zal f):=by
 intro r d hd;obtain⟨ds,h1,h2⟩:=ZBc.mp hd;subst h2;refine PE.imp (ZyA (h.pa r ds h1)) λσ H Q ⟨F0,H0,F,at_,k⟩=>⟨F0,H0,F,at_,λvs F1 H1 x1 r1=>⟨?_,λp hp=>?_⟩⟩
 ·have e1:=h.len r ds h1
  have e2:=r1.1;have e3:(100:Nat)<=sizeLine:=by decide
  omega
 ·have hF:F1 p=Z_:=x1.sub.free hp
  exact k _ (upd F1 p (.tup vs)) _ (x1.lay hp) (.tup ZE r1.1 (r1.mono (Zq.upd' hF)).2)
theorem Zdn{f:HM.AF}(h:XA X es f)(hl:es.length<=100:=by exact Nat.le_of_ble_eq_true rfl):XF X (.List es pos) (HM.Zf4 f):=by
 intro r d hd;obtain⟨ds,h1,h2⟩:=ZBc.mp hd;subst h2;refine PE.imp (Zyw (h.pa r ds h1)) λσ H Q ⟨F0,H0,F,at_,k⟩=>⟨F0,H0,F,at_,λvs F1 H1 x1 r1=>⟨?_,λp hp=>?_⟩⟩
 ·have e1:=h.len r ds h1
  have e2:=r1.1;have e3:(100:Nat)<=sizeLine:=by decide
  omega
 ·have hF:F1 p=Z_:=x1.sub.free hp
  refine k _ F1 _ (x1.lay' hp) ⟨[p],.ol ZE r1,by simp,λa ha=>?_⟩;have:a=p:=by simpa using ha
  subst this;exact⟨hF,x1.hh.free hp⟩
end
end
section
variable[FX]
section
variable{X:Cx}{a b c e:Expr}{fa fb fc:HM.EF}{pos p:Pos}{st:Stmt}{rest:List Stmt}{g u:HM.SF}
theorem Znj(h:X.xe=λ_ _=>False):PassesOwn (model X.prog X.w) X.A X.env X.xe:=by rw[h]; exact PassesOwn.never
theorem Z5:XSs X [] HM.ZaN:=by intro r o h;cases h;exact PSs.imp ZxA λE σ H ⟨F0,H0,F,at_,k⟩=>k σ F H at_
theorem Zn(h:XS X st g):XSs X [st] g:=λr o ho=>ZrL (h r o ho)
theorem Zk(h1:XS X st g)(h2:XSs X rest u):XSs X (st::rest) (HM.Zs g u):=by
  intro r o h
  unfold HM.Zs at h
  split at h
  · rename_i r' q
    refine PSs.imp (ZiX (h1 r _ q) (h2 r' o h)) λE σ H ⟨F0,H0,F,at_,k⟩=>?_
    exact⟨F0,H0,F,at_,λσ' F' H' at'=>⟨F0,H0,F',at',k⟩⟩
  all_goals first
    | cases h
      rename_i q
      refine PSs.imp (ZiX (h1 r _ q) Zhp) λE σ H ⟨F0,H0,F,at_,k⟩=>?_
      exact⟨F0,H0,F,at_,k⟩
    | cases h
theorem Zij:XS X st HM.Zkb:=λr o h=>nomatch h
theorem Zw(h:XE X e fa):XS X (.Return (Z e) pos) (HM.ZC fa):=by intro r o ho;obtain⟨d,h1,h2⟩:=ZBc.mp ho;subst h2;refine PS.imp (Zqh (h r d h1)) λE σ H ⟨F0,H0,F,at_,k⟩=>?_;exact⟨F0,H0,F,at_,λv F' H' x q=>k v F' H' (at_.ext.trans x) q⟩
theorem Zgv(h:XE X e fa)(hs:ZDM e Z_ pos.line X.env=pure ZGI:=by rfl):XS X (.Expr e pos) (HM.ZiO fa):=by intro r o ho;obtain⟨d,h1,h2⟩:=ZBc.mp ho;subst h2;refine PS.imp (Zkz (h r d h1) hs) λE σ H ⟨F0,H0,F,at_,k⟩=>?_;exact⟨F0,H0,F,at_,λv F' H' x q=>k σ F' H' (at_.grow x)⟩
theorem ZaU{t:HM.TF}{sa sb:List Stmt}(hc:XT X c t)(ha:XSs X sa g)(hb:XSs X sb u):XS X (.If c sa sb pos) (HM.sIf t g u):=by
 intro r o ho;unfold HM.sIf at ho;split at ho
 ·rename_i q
  refine PS.imp (Zwj (hc r _ q) (ha r o ho) Zhp) λE σ H ⟨F0,H0,F,at_,k⟩=>?_;exact⟨F0,H0,F,at_,λF' H' x=>ZjJ ⟨F0,H0,F',at_.grow x,k⟩⟩
 ·rename_i q
  refine PS.imp (Zwj (hc r _ q) Zhp (hb r o ho)) λE σ H ⟨F0,H0,F,at_,k⟩=>?_;exact⟨F0,H0,F,at_,λF' H' x=>Zj2 ⟨F0,H0,F',at_.grow x,k⟩⟩
 ·cases ho
theorem ZeI(i:Nat)(h:XS X st g):XS X st (HM.Zhd i g):=by intro r o ho;refine PS.imp (h (HM.Zmv i r) o ho) λE σ H ⟨F0,H0,F,at_,k⟩=>?_;obtain⟨F',_,_,a'⟩:=at_.freeze i;exact⟨F0,H0,F',a',k⟩
theorem ZK(i:Nat)(hN:X.N.Nodup)(h:XE X e fa)(hi:X.N[i]?=Z x:=by rfl)(hx:Loc X.env.scope x:=by first | exact ZBZ rfl | exact ZBC rfl)
  (hs:ZDM e (Z (.Name x p')) pos.line X.env=pure ZGI:=by rfl) (hf:X.fn x=ZGH\/X.env.scope.names.lookup x=Z .local:=by first | exact .inl rfl | exact .inr rfl) :
  XS X (.Assign [.Name x p'] e pos) (HM.ZT i fa):=by
 intro r o ho;obtain⟨d,h1,h2⟩:=ZBc.mp ho;subst h2;refine PS.imp (ZpD hN hi hx (h r d h1) hs hf) λE σ H ⟨F0,H0,F,at_,k⟩=>?_;exact⟨F0,H0,F,at_,λv F' H' x q=>k _ F' H' ((at_.grow x).set q)⟩
theorem Zbj(i:Nat)(hN:X.N.Nodup)(h:XF X e f)(hi:X.N[i]?=Z x:=by rfl)(hx:Loc X.env.scope x:=by first | exact ZBZ rfl | exact ZBC rfl)
  (hs:ZDM e (Z (.Name x p')) pos.line X.env=pure ZGI:=by rfl) (hf:X.fn x=ZGH\/X.env.scope.names.lookup x=Z .local:=by first | exact .inl rfl | exact .inr rfl) :
  XS X (.Assign [.Name x p'] e pos) (HM.Z8 i f):=by
 intro r o ho;obtain⟨d,h1,h2⟩:=ZBc.mp ho;subst h2;refine PS.imp (ZpD hN hi hx (h r d h1) hs hf) λE σ H ⟨F0,H0,F,at_,k⟩=>?_;exact⟨F0,H0,F,at_,λv F' H' x ⟨fp,q,nd,hn⟩=>k _ F' H' ((at_.grow x).storeNew at_ x.hh q nd hn)⟩
theorem ZcV(i:Nat){body:List Stmt}{fi:HM.IF}(hN:X.N.Nodup)(hxe:X.xe=λ_ _=>False)(hc:X.calm=ZGH)(hi:XI X (.Name x p') iter fi)(hb:XSs X body g)(hix:X.N[i]?=Z x:=by rfl)
  (hx:Loc X.env.scope x:=by first | exact ZBZ rfl | exact ZBC rfl) (hf:X.fn x=ZGH\/X.env.scope.names.lookup x=Z .local:=by first | exact .inl rfl | exact .inr rfl)
  (hs:∀x,ZC2 iter X.env x=pure x:=by intro _; rfl):XS X (.For (.Name x p') iter body [] pos) (HM.ZbS i fi g):=by
 intro r o ho;unfold HM.ZbS at ho;split at ho
 ·rename_i ds hds
  split at ho
  ·rename_i hbig
   have pb:PSs X body (λE σ H=>∃r o,g r=Z o/\tSt X.K r o E σ H):=λpins s σ H E I ⟨r,o,h1,h2⟩=>hb r o h1 pins s σ H E I h2;refine PS.imp (Zy4 (Znj hxe) hc (hi r ds hds) (Zkr hN hix hx hf) pb hs) λE σ H ⟨F0,H0,F,at_,k⟩=>?_;refine⟨F0,H0,F,at_,λJ F1 H1 x1 it=>?_⟩;refine⟨λn m σ H=>∃F r,At X.K F0 H0 F H r σ/\Zq F1 F/\n+m=ds.length/\HM.Zbm i g (ds.drop n) r=Z o,⟨ds.length,F1,r,at_.grow x1,Zq.refl _,by omega,ho⟩,?_⟩
   rintro n m σ H ⟨F2,r2,at2,s2,hn,go⟩
   obtain⟨it1,it2⟩:=it F2 H s2 at2.sub;cases m with
   | zero =>
    have e:n=ds.length:=by omega
    subst e;rw[List.drop_length]at go;cases go;exact .inl ⟨it2,k σ F2 H at2⟩
   | succ m =>
    have hlt:n<ds.length:=by omega
    rw[ZFL hlt]at go;obtain⟨j1,j2⟩:=it1 n ds[n] (ZBu hlt);refine .inr ⟨j1,λσ' H'=>∃F r,At X.K F0 H0 F H' r σ'/\Zq F1 F/\HM.Zbm i g (ds.drop (n+1)) r=Z o,λσ' H' ⟨F,r,a1,a2,a3⟩=>⟨m,by omega,F,r,a1,a2,by omega,a3⟩,λy H' hy=>?_⟩;obtain⟨e1,ry⟩:=j2 y H' hy;subst e1;obtain⟨F3,at3,s3,ry⟩:∃F3,At X.K F0 H0 F3 H' r2 σ/\Zq F1 F3/\Rep X.K F3 ds[n] y:=⟨_,at2.grow at2.refl.tups,s2.trans (Zdb at2.sub),ry⟩;have a3:=at3.set (i:=i) ry;have a4:=a3.rebase;unfold HM.Zbm at go;split at go
    ·rename_i r' hr
     exact⟨_,_,hr,F3,H0,F3,a4,λσ' F' H' a'=>⟨F',r',a'.unbase at3.ext at3.nt0,s3.trans a'.ext.ff,go⟩⟩
    ·rename_i r' hr
     exact⟨_,_,hr,F3,H0,F3,a4,λσ' F' H' a'=>⟨F',r',a'.unbase at3.ext at3.nt0,s3.trans a'.ext.ff,go⟩⟩
    ·rename_i r' hr
     cases go;exact⟨_,_,hr,F3,H0,F3,a4,λσ' F' H' a'=>k σ' F' H' (a'.unbase at3.ext at3.nt0)⟩
    ·rename_i d hr
     cases go;exact⟨_,_,hr,F3,H0,F3,a4,λv F' H' x q=>k v F' H' (at3.ext.unbase x) q⟩
    ·cases go
  ·cases ho
 ·cases ho
end
def spD(K:ZBd)(n:Nat)(M:List PyData->Option PyData):Sp:=λvs H Q _=>∃F ds d,vs.length=n/\Zq F H/\Tb H/\NoT F/\Zt K F ds vs/\M ds=Z d/\∀v F' H',Ext F H F' H'->Rep K F' d v->Q v H'
structure Callee(P:Program)(w:World)(K:ZBd)(mg:Str->Option Value)(base:Heap)(k:Nat)(x:Str)(M:List PyData->Option PyData):Prop where
 ex:∃f fd ps,(∀ds d,M ds=Z d->ds.length=ps.length)/\ZdH P w K mg base CX0 k f fd ps (spD K ps.length M)/\mg x=Z (.ref f)/\ZCO K (.ref f)=ZGH/\Binds K fd ps []
theorem Callee.mono{P:Program}{w:World}{K:ZBd}{mg:Str->Option Value}{base:Heap}{j k:Nat}{x:Str}{M:List PyData->Option PyData}(C:Callee P w K mg base j x M)(h:j<=k):Callee P w K mg base k x M:=by obtain⟨f,fd,ps,l,F,r⟩:=C.ex;exact⟨f,fd,ps,l,F.mono h,r⟩
section
variable{X:Cx}{pos p:Pos}{e:Expr}{es:List Expr}{f:HM.AF}
theorem Zl{k:Nat}{M:List PyData->Option PyData}(C:Callee X.prog X.w X.K X.mg X.base k x M)(hr:Zav k X.A)(ha:XA X (e::es) f)(hg:Gl X x:=by rfl)(hdb:(x==("__debug__":Str))=ZGI:=by decide)
  (he:ZBp (e::es) X.env=(ZGI,eval e X.env)::ZBp es X.env:=by rfl) (hpl:(backTo pos (ZBp es X.env)).any (·.1)=ZGI:=by rfl):XE X (.Call (.Name x p) (e::es) [] pos) (HM.Zm M f):=by
 intro r d hd;unfold HM.Zm at hd;split at hd
 ·rename_i ds hds
  obtain⟨fa,fd,ps,hl,F,hm,hk,hb⟩:=C.ex;refine PE.imp (ZmI (E:=E0) F hr hg hm hk hb .nil ZsE (ha.pa r ds hds) hdb he hpl) λσ H Q ⟨F0,H0,F1,at_,k⟩=>?_;refine⟨F0,H0,F1,at_,λvs F' H' x q=>?_⟩;show spD X.K ps.length M (vs++[]) H' Q E0;rw[ZBW];exact⟨F',ds,d,by rw[<-q.1]; exact hl ds d hd,x.sub,at_.tbx x,at_.ntx x,q,hd,λv F2 H2 x2 q2=>k v F2 H2 (x.trans x2) q2⟩
 ·cases hd
end
theorem ZgZ(s:Zq F H)(tb:Tb H)(nt:NoT F)(q:Zt K F ds vs)(hl:ds.length<=N.length):At K F H F H (HM.Ze9 N.length ds) (L2.start N vs):=by
 have hv:=q.1;refine⟨λ_=>[],.refl s,?_,λi b h=>?_,λ_ _=>rfl,λi a h=>by simp at h,λ_=>ZDb,λi j a _ h=>by simp at h,tb,nt⟩
 ·unfold HM.Ze9 L2.start
  rw[ZBv,ZBv,ZBb,ZBb,ZB8,ZB8,hv]
 ·unfold HM.Ze9 at h
  by_cases hi:i<ds.length
  ·rw[ZBX (by rw[ZBb]; exact hi),ZBG,ZBu hi]at h
   cases h;obtain⟨v,h1,h2⟩:=q.get (ZBu hi);refine⟨v,?_,.pl h2⟩;unfold L2.start;rw[ZBX (by rw[ZBb,<-hv]; exact hi),ZBG,h1];rfl
  ·rw[ZBQ (by rw[ZBb]; omega),ZDU]at h
   split at h<;>cases h
theorem Zrj{P:Program}{k:Nat}{f:Addr}{g:HM.SF}(Fn:Fun K x qual st f fd)(S:Zr N ps (Ze st))
  (body:∀(cdv:Value) (A:Around) (outer:List Env) (s:Shared) (H:Hp) (E:XK),Zav k (A.deeper (envOfC qual (Ze st) s.heap.objs.size f cdv))->XSs (Zf8 CX0 P w K mg base N qual (Ze st) f cdv A outer s H E).nox (ZaS st) g) :
  ZdH P w K mg base CX0 (k+1) f fd ps (spD K ps.length (HM.fnOf ps.length N.length g)):=by
 have hpl:ps.length<=N.length:=by have:=congrArg ZB7 S.pre; rw[ZB1]at this; omega
 refine Fn.ok S (λvs H Q E h=>?_) (λcdv A outer s H vs Q E hr h=>?_)
 ·obtain⟨_,_,_,h,_⟩:=h
  exact h
 ·obtain⟨F,ds,d,hl,sub,tb,nt,q,hM,kk⟩:=h
  unfold HM.fnOf at hM;split at hM
  ·rename_i hds
   have a0:=ZgZ (N:=N) sub tb nt q (by omega);split at hM
   ·rename_i r hr'
    cases hM;exact⟨_,body cdv A outer s H E hr _ _ hr',F,H,F,a0,λσ F' H' a'=>kk .non F' H' a'.ext .non⟩
   ·rename_i d' hr'
    cases hM;exact⟨_,body cdv A outer s H E hr _ _ hr',F,H,F,a0,λv F' H' x q=>kk v F' H' x q⟩
   ·cases hM
  ·cases hM
theorem Zto{P:Program}{k:Nat}{f:Addr}{g:HM.SF}(Fn:Fun K x qual st f fd)(S:Zr N ps (Ze st))(hm:mg x=Z (.ref f))(hb:Binds K fd ps [])
  (body:∀(cdv:Value) (A:Around) (outer:List Env) (s:Shared) (H:Hp) (E:XK),Zav k (A.deeper (envOfC qual (Ze st) s.heap.objs.size f cdv))->XSs (Zf8 CX0 P w K mg base N qual (Ze st) f cdv A outer s H E).nox (ZaS st) g) :
  Callee P w K mg base (k+1) x (HM.fnOf ps.length N.length g):=by
 refine⟨f,fd,ps,λds d h=>?_,Zrj Fn S body,hm,Fn.kp,hb⟩;unfold HM.fnOf at h;split at h
 ·assumption
 ·cases h
end
section
variable[FX]
section
variable{X:Cx}{a b c e:Expr}{fa fb fc:HM.EF}{pos p:Pos}
theorem ZgW{h:Int->Int->Option PyData}{x y z:PyData}(e:HM.Zft h x y=Z z):∃i j,x=.int i/\y=.int j/\h i j=Z z:=by
 unfold HM.Zft at e;split at e
 ·exact⟨_,_,rfl,rfl,e⟩
 ·cases e
theorem Zm0{g:Int->Int->V}{h:Int->Int->PyData}(hr:∀F i j,Rep K F (h i j) (g i j)):Bin K (rI0 g) (HM.Zft λi j=>Z (h i j)):=by intro F H x y z v w Q s e r1 r2 k;obtain⟨i,j,rfl,rfl,e⟩:=ZgW e;cases e;exact⟨i,j,r1.int_inv,r2.int_inv,k _ (hr F i j)⟩
theorem Za5:ZpW X .Add HM.Z9:=⟨_,Zyk,Zm0 λ_ _ _=>.int _⟩
theorem Zvl:ZpW X .Sub HM.Zm3:=⟨_,Zzn,Zm0 λ_ _ _=>.int _⟩
theorem Zcu:ZpW X .Mult HM.Za0:=by
 refine⟨_,ZyI,λF H x y z v w Q s e r1 r2 k=>?_⟩;obtain⟨i,j,rfl,rfl,e'⟩:=ZgW e;split at e'
 ·rename_i hs
  cases e';refine⟨i,j,r1.int_inv,r2.int_inv,?_,k _ (.int _)⟩;unfold HM.ZS at hs;rw[ZCq,ZEd,ZEd]at hs;unfold ZsA;omega
 ·cases e'
theorem oMod:ZpW X .Mod HM.Zm4:=by
 refine⟨_,ZyD,λF H x y z v w Q s e r1 r2 k=>?_⟩;obtain⟨i,j,rfl,rfl,e'⟩:=ZgW e;split at e'
 ·rename_i hs
  cases e';exact⟨i,j,r1.int_inv,r2.int_inv,hs,k _ (.int _)⟩
 ·cases e'
theorem cLt:Zfc X .Lt HM.gLt:=⟨⟨_,ZzC,Zm0 λ_ _ _=>.bl _⟩,by decide,by decide⟩
theorem cLe:Zfc X .LtE HM.gLe:=⟨⟨_,ZzJ,Zm0 λ_ _ _=>.bl _⟩,by decide,by decide⟩
theorem cGt:Zfc X .Gt HM.gGt:=⟨⟨_,ZzN,Zm0 λ_ _ _=>.bl _⟩,by decide,by decide⟩
theorem cGe:Zfc X .GtE HM.gGe:=⟨⟨_,ZzI,Zm0 λ_ _ _=>.bl _⟩,by decide,by decide⟩
theorem Rep.non_iff{d:PyData}{v:V}(h:Rep K F d v):decide (v=.non)=match d with | .none=>ZGH | _=>ZGI:=by cases h<;>first | rfl | exact decide_eq_false (λz=>nomatch z)
theorem ZlC:Zfc X .Is HM.ZiZ:=by
 refine⟨⟨_,Zzo,λF H x y z v w Q s e r1 r2 k=>?_⟩,by decide,by decide⟩;unfold HM.ZiZ at e;split at e
 ·refine⟨r2.none_inv,k _ ?_⟩
  rw[r1.non_iff];split at e
  ·cases e; exact .bl _
  ·rename_i hx
   cases e;cases x<;>first | exact .bl _ | exact absurd rfl hx
 ·cases e
theorem Zok:Zfc X .IsNot HM.Zgp:=by
 refine⟨⟨_,ZwN,λF H x y z v w Q s e r1 r2 k=>?_⟩,by decide,by decide⟩;unfold HM.Zgp at e;split at e
 ·refine⟨r2.none_inv,k _ ?_⟩
  rw[r1.non_iff];split at e
  ·cases e; exact .bl _
  ·rename_i hx
   cases e;cases x<;>first | exact .bl _ | exact absurd rfl hx
 ·cases e
theorem ZhY{h:Heap}:∀{ds:List PyData} {us:List Value},ds.length=us.length->(∀(i:Nat) d u,ds[i]?=Z d->us[i]?=Z u->∃as,Reads h u d as)->∃as,ReadsAll h us ds as
 | [],[],_,_=>⟨[],.nil⟩
 | [],_::_,hl,_=>by simp at hl
 | _::_,[],hl,_=>by simp at hl
 | d::ds,u::us,hl,k=>by obtain⟨as,h1⟩:=k 0 d u rfl rfl;obtain⟨bs,h2⟩:=ZhY (ds:=ds) (us:=us) (by simpa using hl) λi d u e1 e2=>k (i+1) d u (by simpa using e1) (by simpa using e2);exact⟨_,.cons h1 h2⟩
theorem ZrC:∀{ds:List PyData},ZD3 ds=ZGH->∀{i:Nat} {d:PyData},ds[i]?=Z d->d.canLay0=ZGH
 | [],_,i,d,e=>by simp at e
 | x::ds,h,i,d,e=>by
  have h':(x.canLay0&&ZD3 ds)=ZGH:=h;rw[ZBx]at h';cases i with
  | zero=>rw[ZDV]at e; cases e; exact h'.1
  | succ i=>rw[ZB0]at e; exact ZrC h'.2 e
theorem Zqd(h:ZD3 ds=ZGH){d:PyData}(e:ds[i]?=Z d):d.canLay0=ZGH:=ZrC h e
theorem Rep.reads{d:PyData}{v:V}(I:Inv X pins σ H s)(sub:Zq F H)(r:Rep X.K F d v):d.canLay0=ZGH->∀u,RelV v u->∃as,Reads s.heap u d as:=by
 induction r with
 | non=>intro _ u ru; cases ru; exact⟨[],.none⟩
 | bl b=>intro _ u ru; cases ru; exact⟨[],.bool b⟩
 | int i=>intro _ u ru; obtain⟨t,rfl⟩:=ru; exact⟨[],.int i t⟩
 | str x=>intro _ u ru; obtain⟨t,rfl⟩:=ru; exact⟨[],.str x t⟩
 | dct _ _ _ _ _=>intro z; cases z
 | fn _=>intro z; cases z
 | @tupk a x h=>intro z u ru;cases ru;obtain⟨its,rv,⟨o,ho,hc,n,hd⟩,_⟩:=I.tuple (.inr h);obtain⟨u,rfl,t,rfl⟩:=rv.one;exact⟨_,.tuple ho hc hd (by simpa using ReadsAll.cons (.str x t) .nil)⟩
 | @tup a ds vs h hl _ ih =>
  intro z u ru;cases ru;obtain⟨its,rv,⟨o,ho,hc,n,hd⟩,_⟩:=I.tuple (.of (sub _ _ h));obtain⟨as,hr⟩:=ZhY (h:=s.heap) (ds:=ds) (us:=its) (hl.trans rv.length) λi d u e1 e2=>by
   have hi:i<vs.length:=by rw[<-hl]; exact(ZBr.mp e1).1
   obtain⟨u',q1,q2⟩:=rv.get (ZBu hi);rw[e2]at q1;cases q1;exact ih i d _ e1 (ZBu hi) (Zqd z e1) u q2
  exact⟨_,.tuple ho hc hd (by simpa using hr)⟩
 | @lst a ds vs h hl _ ih =>
  intro z u ru;cases ru;obtain⟨its,rv,⟨o,n,ho,hc,_,hd⟩,_⟩:=I.list (sub.seq h);obtain⟨as,hr⟩:=ZhY (h:=s.heap) (ds:=ds) (us:=its) (hl.trans rv.length) λi d u e1 e2=>by
   have hi:i<vs.length:=by rw[<-hl]; exact(ZBr.mp e1).1
   obtain⟨u',q1,q2⟩:=rv.get (ZBu hi);rw[e2]at q1;cases q1;exact ih i d _ e1 (ZBu hi) (Zqd z e1) u q2
  exact⟨_,.list ho hc hd (by simpa using hr)⟩
def Zyt(K:ZBd)(neg:Bool):R2:=λv w H Q=>∃F x y,Zq F H/\Rep K F x v/\Rep K F y w/\HM.Zcn x=ZGH/\HM.Zcn y=ZGH/\Q (.bl (if neg then !PyData.eqv x y else ZEx x y)) H
theorem Zgl{d:PyData}(h:HM.Zcn d=ZGH):d.canLay0=ZGH/\d.depth<=60:=by unfold HM.Zcn at h;simpa using h
theorem Zz1{k:Nat}(hr:Zav k X.A):OpR X (ZCx .Eq) (Zyt X.K ZGI):=by intro pins s σ H v w u u' Q I r1 r2 ⟨F,x,y,sub,q1,q2,p1,p2,q⟩;obtain⟨a1,a2⟩:=Zgl p1;obtain⟨b1,b2⟩:=Zgl p2;obtain⟨as,h1⟩:=q1.reads I sub a1 u r1;obtain⟨bs,h2⟩:=q2.reads I sub b1 u' r2;refine PySem.SeqAt.eqOverData X.prog X.w X.A X.xe s u u' x y as bs _ h1 h2 a1 b1 ?_ ⟨.bl _,H,I,rfl,q⟩;have:=hr.un;have:min x.depth y.depth<=60:=ZCh (Nat.min_le_left _ _) a2;omega
theorem ZzQ{k:Nat}(hr:Zav k X.A):OpR X (ZCx .NotEq) (Zyt X.K ZGH):=by intro pins s σ H v w u u' Q I r1 r2 ⟨F,x,y,sub,q1,q2,p1,p2,q⟩;obtain⟨a1,a2⟩:=Zgl p1;obtain⟨b1,b2⟩:=Zgl p2;obtain⟨as,h1⟩:=q1.reads I sub a1 u r1;obtain⟨bs,h2⟩:=q2.reads I sub b1 u' r2;refine PySem.SeqAt.neOverData X.prog X.w X.A X.xe s u u' x y as bs _ h1 h2 a1 b1 ?_ ⟨.bl _,H,I,rfl,q⟩;have:=hr.un;have:min x.depth y.depth<=60:=ZCh (Nat.min_le_left _ _) a2;omega
theorem cEq{k:Nat}(hr:Zav k X.A):Zfc X .Eq HM.gEq:=by
 refine⟨⟨_,Zz1 hr,λF H x y z v w Q s e r1 r2 k=>?_⟩,by decide,by decide⟩;unfold HM.gEq at e;split at e
 ·rename_i hp
  cases e;rw[ZBx]at hp;exact⟨F,x,y,s,r1,r2,hp.1,hp.2,k _ (.bl _)⟩
 ·cases e
theorem cNe{k:Nat}(hr:Zav k X.A):Zfc X .NotEq HM.gNe:=by
 refine⟨⟨_,ZzQ hr,λF H x y z v w Q s e r1 r2 k=>?_⟩,by decide,by decide⟩;unfold HM.gNe at e;split at e
 ·rename_i hp
  cases e;rw[ZBx]at hp;exact⟨F,x,y,s,r1,r2,hp.1,hp.2,k _ (.bl _)⟩
 ·cases e
theorem ZlG{v:V}(sub:Zq F H)(r:Zam K F H q v fp)(h:HM.Zgb q=Z ds):∃a vs,v=.ref a/\(SqL K H a vs\/SqT K H a vs)/\Zt K F ds vs:=by
 cases r with
 | pl r =>
  cases r with
  | tup h1 h2 h3=>cases h; exact⟨_,_,rfl,.inr (.of (sub _ _ h1)),h2,h3⟩
  | @tupk a x h1=>cases h; exact⟨_,_,rfl,.inr (.inr h1),.one (.str x)⟩
  | lst h1 h2 h3=>cases h; exact⟨_,_,rfl,.inl (sub.seq h1),h2,h3⟩
  | dct _ _ _ _=>cases h
  | fn _=>cases h
  | non=>cases h
  | bl _=>cases h
  | int _=>cases h
  | str _=>cases h
 | ol h1 r=>cases h; exact⟨_,_,rfl,.inl (.of h1),r⟩
 | ok _ _ _=>cases h
 | hd _ _ _ _=>cases h
 | hf _=>cases h
 | ot _ _ _=>cases h
 | otl _ _ _ _=>cases h
theorem ZwA{i:Int}{d:PyData}(r:Zt K F ds vs)(h:HM.atD ds i=Z d):∃v,atI vs i=Z v/\Rep K F d v:=by
 unfold HM.atD at h;split at h
 ·rename_i j hj
  obtain⟨v,h1,h2⟩:=r.get h;refine⟨v,?_,h2⟩;unfold atI;rw[<-r.1,show ixN ds.length i=Z j from hj];exact h1
 ·cases h
theorem ZF{fb':HM.BF}(ha:XB X a fb')(hb:XE X b fb)(hs:Zrt b:=by intro _ _; rfl):XE X (.Subscript a b pos) (HM.eIx fb' fb):=by
 intro r d h;unfold HM.eIx at h;split at h
 ·rename_i x hx
  split at h
  ·rename_i ds hds
   split at h
   ·rename_i i hi
    refine PE.imp (Zz3 Zyb (ha r x hx) (hb r _ hi) hs) λσ H Q ⟨F0,H0,F,at_,k⟩=>?_;refine⟨F0,H0,F,at_,λv F1 H1 x1 ⟨fp,r1⟩=>⟨F0,H0,F1,at_.grow x1,λw F2 H2 x2 r2=>?_⟩⟩;obtain⟨l,vs,e1,hq,rs⟩:=ZlG x2.sub (r1.mono x2.ff λ_ _ _ z=>x2.hh _ _ z) hds;obtain⟨u,hu,ru⟩:=ZwA rs h;have fin:=k u F2 H2 (x1.trans x2) ru;rcases hq with hq | hq
    ·exact .inl ⟨l,vs,i,u,e1,r2.int_inv,hq,hu,fin⟩
    ·exact .inr (.inl ⟨l,vs,i,u,e1,r2.int_inv,hq,hu,fin⟩)
   ·cases h
  ·cases h
 ·cases h
def PAB(X:Cx)(e:Expr)(r:HM.Env)(q:HM.B):Prop:=PA X [e] λσ H Q=>Now X.K r σ H λF0 H0 F=>∀v fp F' H',Ext F H F' H'->Zam X.K F' H' q v fp->Q [v] H'
theorem Zc5(ha:XB X e f)(h:f r=Z q)(hs:ZBp [e] X.env=[(ZGI,eval e X.env)]:=by rfl):PAB X e r q:=by refine PA.imp (ZaL (ha r q h) Zca hs) λσ H Q ⟨F0,H0,F,at_,k⟩=>?_;exact⟨F0,H0,F,at_,λv F1 H1 x1 ⟨fp,r1⟩=>k v fp F1 H1 x1 r1⟩
end
end
section
variable[FX]
theorem ZyO:ZCg "all" = Z (.builtin "all"):=by decide +kernel
theorem ZyR:ZCg "len" = Z (.builtin "len"):=by decide +kernel
theorem ZpS:ZCg "max" = Z (.builtin "max"):=by decide +kernel
theorem Zpg:ZCg "min" = Z (.builtin "min"):=by decide +kernel
theorem Znt:ZCg "sorted" = Z (.builtin "sorted"):=by decide +kernel
theorem Zoa:ZCg "isinstance" = Z (.builtin "isinstance"):=by decide +kernel
theorem ZpT:ZCg "int" = Z (.type "int"):=by decide +kernel
theorem Zxe:ZCg "bool" = Z (.type "bool"):=by decide +kernel
theorem ZxF:ZCg "list" = Z (.type "list"):=by decide +kernel
theorem Zlz:ZCg "tuple" = Z (.type "tuple"):=by decide +kernel
theorem ZyB:ZCg "set" = Z (.type "set"):=by decide +kernel
section
variable{X:Cx}{a b c e:Expr}{fa fb fc:HM.EF}{pos p:Pos}{f:HM.BF}
theorem Zbb(hm:X.mg "len" = Z_)(ha:XB X a f)(hg:Gl X "len":=by rfl)(hs:ZBp [a] X.env=[(ZGI,eval a X.env)]:=by rfl):XE X (.Call (.Name "len" p) [a] [] pos) (HM.Zaz f):=by
 intro r d h;unfold HM.Zaz at h;split at h
 ·rename_i x hx
  obtain⟨n,h1,h2⟩:=ZBc.mp h;subst h2;refine PE.imp (ZbT (ZpU.or Zup) hg hm ZyR (Zc5 ha hx hs) (he:=hs)) λσ H Q ⟨F0,H0,F,at_,k⟩=>?_;refine⟨F0,H0,F,at_,λv fp F1 H1 x1 r1=>?_⟩;have fin:=λ(m:Nat) (e:m=n)=>k (.int m) F1 H1 x1 (by rw[e]; exact .int _);cases r1 with
  | pl q =>
   cases q with
   | tup q1 q2 q3=>cases h1; exact .inl ⟨_,_,rfl,.inr (.of (x1.sub _ _ q1)),fin _ q2.symm⟩
   | tupk q1=>cases h1; exact .inl ⟨_,_,rfl,.inr (.inr q1),fin _ rfl⟩
   | lst q1 q2 q3=>cases h1; exact .inl ⟨_,_,rfl,.inl (x1.sub.seq q1),fin _ q2.symm⟩
   | dct _ _ _ _=>cases h1
   | fn _=>cases h1
   | non=>cases h1
   | bl _=>cases h1
   | int _=>cases h1
   | str _=>cases h1
  | ol q1 q2=>cases h1; exact .inl ⟨_,_,rfl,.inl (.of q1),fin _ q2.1.symm⟩
  | ok q1 q2 q3=>cases h1;refine .inr ⟨_,_,rfl,q1,fin _ ?_⟩;have:=congrArg ZB7 q2;rw[ZBb,ZBb]at this;exact this.symm
  | ot _ _ _=>cases h1
  | otl _ _ _ _=>cases h1
  | hd _ _ _ _=>cases h1
  | hf _=>cases h1
 ·cases h
theorem Zah(hm:X.mg "tuple" = Z_)(ha:XB X a f)(hg:Gl X "tuple":=by rfl)(hs:ZBp [a] X.env=[(ZGI,eval a X.env)]:=by rfl):XE X (.Call (.Name "tuple" p) [a] [] pos) (HM.Z2 f):=by
 intro r d h;unfold HM.Z2 at h;split at h
 ·rename_i x hx
  obtain⟨ds,h1,h2⟩:=ZBc.mp h;subst h2;refine PE.imp (ZdD Zn4 hg hm Zlz (Zc5 ha hx hs) (he:=hs)) λσ H Q ⟨F0,H0,F,at_,k⟩=>?_;refine⟨F0,H0,F,at_,λv fp F1 H1 x1 r1=>?_⟩;have new:∀(vs:List V),Zt X.K F1 ds vs->∀l,H1 l=Z_->Q (.ref l) (upd H1 l (.tup vs)):=λvs q l hl=>k _ (upd F1 l (.tup vs)) _ (x1.lay hl) (.tup ZE q.1 (q.mono (Zq.upd' (x1.sub.free hl))).2);cases r1 with
  | pl q =>
   cases q with
   | tup q1 q2 q3=>cases h1; exact⟨_,_,rfl,.inr ⟨.of (x1.sub _ _ q1),k _ F1 H1 x1 (.tup q1 q2 q3)⟩⟩
   | tupk q1=>cases h1; exact⟨_,_,rfl,.inr ⟨.inr q1,k _ F1 H1 x1 (.tupk q1)⟩⟩
   | lst q1 q2 q3=>cases h1; exact⟨_,_,rfl,.inl ⟨x1.sub.seq q1,new _ ⟨q2,q3⟩⟩⟩
   | dct _ _ _ _=>cases h1
   | fn _=>cases h1
   | non=>cases h1
   | bl _=>cases h1
   | int _=>cases h1
   | str _=>cases h1
  | ol q1 q2=>cases h1; exact⟨_,_,rfl,.inl ⟨.of q1,new _ q2⟩⟩
  | ok _ _ _=>cases h1
  | ot _ _ _=>cases h1
  | otl _ _ _ _=>cases h1
  | hd _ _ _ _=>cases h1
  | hf _=>cases h1
 ·cases h
theorem Zet(x1:Ext F H F1 H1)(q:Zt K F1 ds vs)(hl:H1 l=Z_)
  (k:∀v F' H',Ext F H F' H'->(∃fp,Zam K F' H' (.ol ds) v fp/\fp.Nodup/\∀a∈fp,F' a=Z_/\H a=Z_)->P v F' H'):P (.ref l) F1 (upd H1 l (.lst vs)):=by
 refine k _ F1 _ (x1.lay' hl) ⟨[l],.ol ZE q,by simp,λa ha=>?_⟩;have:a=l:=by simpa using ha
 subst this;exact⟨x1.sub.free hl,x1.hh.free hl⟩
theorem Znc(hm:X.mg "list" = Z_)(ha:XB X a f)(hg:Gl X "list":=by rfl)(hs:ZBp [a] X.env=[(ZGI,eval a X.env)]:=by rfl):XF X (.Call (.Name "list" p) [a] [] pos) (HM.Zkt f):=by
 intro r d h;unfold HM.Zkt at h;split at h
 ·rename_i x hx
  obtain⟨ds,h1,h2⟩:=ZBc.mp h;subst h2;refine PE.imp (ZdD Zo9 hg hm ZxF (Zc5 ha hx hs) (he:=hs)) λσ H Q ⟨F0,H0,F,at_,k⟩=>?_;refine⟨F0,H0,F,at_,λv fp F1 H1 x1 r1=>?_⟩;obtain⟨l,vs,e1,hq,rs⟩:=ZlG x1.sub r1 h1;subst e1;exact⟨l,vs,rfl,hq,λl' hl'=>Zet (P:=λv _ H'=>Q v H') x1 rs hl' k⟩
 ·cases h
theorem Zl0{K:ZBd}{F:Hp}:∀{ds:List PyData} {vs:List V} {bs:List Bool},HM.Zfb ds=Z bs->Zt K F ds vs->vs=bs.map V.bl
 | [],vs,bs,h,r=>by cases h;exact r.nil_inv
 | d::ds,vs,bs,h,r=>by
  obtain⟨v,us,rfl,r1,r2⟩:=r.cons_inv;cases d with
  | bool b=>obtain⟨bs',h1,h2⟩:=ZBc.mp h;subst h2;rw[r1.bool_inv,Zl0 h1 r2];rfl
  | none=>cases h
  | int _=>cases h
  | str _=>cases h
  | list _=>cases h
  | tuple _=>cases h
  | dict _=>cases h
end
end
section
variable[FX]
section
variable{X:Cx}{a b c e:Expr}{fa fb fc:HM.EF}{pos p:Pos}{f:HM.BF}
theorem Zq1:∀{bs:List Bool} {us:List Value},Vals (bs.map V.bl) us->LSm.BoolsAre us bs:=by
 intro bs
 induction bs with
 | nil=>intro us r; rw[ZDw]at r; cases r; exact .nil
 | cons b bs ih =>
  intro us r;rw[ZBn]at r;cases r with
  | cons r1 r2=>cases r1;exact .cons b (ih r2)
theorem Zyu{vs:List Value}{bs:List Bool}{dflt:Bool}(hh:A.handled=Z_)(hl:s.heap.IsList l vs.toArray)(hb:LSm.BoolsAre vs bs){E:Value->Shared->Prop}
  (h:∀it fp wr (P:Nat->Value->Prop) St,Walks prog w A it fp wr vs.length P St->St 0 (s.heap.push { cls:=.type "list_iterator",data:=.fields #[.ref l,rawInt 0] })->TruthOf prog w A P (λi=>(bs[i]?).getD dflt)->wr=[s.heap.objs.size]->it=s.heap.objs.size->Q (.ref it) { s with heap:=s.heap.push { cls:=.type "list_iterator",data:=.fields #[.ref l,rawInt 0] } }) :
  wpAny (model prog w) A (pyIter (.ref l)) Q E s:=by
 have hlt:l<s.heap.objs.size:=let ⟨_,e,_⟩:=hl; ZBt e
 refine ZFF hl ?_;have W:=Walks.list (prog:=prog) (w:=w) hh s.heap.objs.size l (ZBA hlt) vs.toArray;rw[ZBs]at W;refine h _ _ _ _ _ W ⟨⟨_,ZBw _ rfl,rfl,rfl⟩,hl.push _⟩ (λi v s' Q' E' hP hQ=>?_) rfl rfl;obtain⟨b,e,rfl⟩:=hb.get i v (by simpa using hP);simp only[e,Option.getD_some]at hQ;exact ZCI hQ
theorem Ztz(hc:X.calm=ZGH):ZaO X (.builtin "all") (λxs H Q=>∃(p:Addr) (bs:List Bool),xs=[.ref p]/\SqL X.K H p (bs.map V.bl)/\Q (.bl (bs.all id)) H):=by intro pins s σ H xs us Q I r h;obtain⟨p,bs,rfl,hq,q⟩:=h;obtain⟨u,rfl,rx⟩:=vals1 r;cases rx;obtain⟨its,rv,pl,hz⟩:=I.list hq;have hb:=Zq1 rv;refine call_all_walk (Zyu (dflt:=ZGH) (A:=X.A.in1) (I.ok.hd hc) pl.isList hb λit fp wr P St W st tr e1 e2=>?_);subst e1 e2;refine⟨_,_,_,_,P,St,_,rfl,W,st,tr,λh' tk hk=>?_⟩;rw[hb.length,LSm.range_all bs];exact⟨.bl _,H,I.kept (LSm.kept_iter hk),rfl,q⟩
theorem ZdC{v:V}(sub:Zq F H)(r:Zam K F H q v fp)(h:HM.Zi7 q=Z ds):∃a vs,v=.ref a/\SqL K H a vs/\Zt K F ds vs:=by
 cases r with
 | pl r =>
  cases r with
  | lst h1 h2 h3=>cases h; exact⟨_,_,rfl,sub.seq h1,h2,h3⟩
  | dct _ _ _ _=>cases h
  | fn _=>cases h
  | tupk _=>cases h
  | tup _ _ _=>cases h
  | non=>cases h
  | bl _=>cases h
  | int _=>cases h
  | str _=>cases h
 | ol h1 r=>cases h; exact⟨_,_,rfl,.of h1,r⟩
 | ok _ _ _=>cases h
 | hd _ _ _ _=>cases h
 | hf _=>cases h
 | ot _ _ _=>cases h
 | otl _ _ _ _=>cases h
theorem ZgB(hm:X.mg "all" = Z_)(hc:X.calm=ZGH)(ha:XB X a f)(hg:Gl X "all":=by rfl)(hs:ZBp [a] X.env=[(ZGI,eval a X.env)]:=by rfl):XE X (.Call (.Name "all" p) [a] [] pos) (HM.ZiN f):=by
 intro r d h;unfold HM.ZiN at h;split at h
 ·rename_i x hx
  split at h
  ·rename_i ds hds
   obtain⟨bs,h1,h2⟩:=ZBc.mp h;subst h2;refine PE.imp (ZbT (Ztz hc) hg hm ZyO (Zc5 ha hx hs) (he:=hs)) λσ H Q ⟨F0,H0,F,at_,k⟩=>?_;refine⟨F0,H0,F,at_,λv fp F1 H1 x1 r1=>?_⟩;obtain⟨l,vs,e1,hq,rs⟩:=ZdC x1.sub r1 hds;rw[Zl0 h1 rs]at hq;exact⟨l,bs,by rw[e1],hq,k _ F1 H1 x1 (.bl _)⟩
  ·cases h
 ·cases h
theorem ZpQ{tyn:String}{t:HM.Ty}(hr:∀(s:Shared) (d:PyData) (v:V) (u:Value) (Q:Value->Shared->Prop),RelV v u->(∃(K:ZBd) (F:Hp),Rep K F d v)->(∀es,d≠.dict es)->(∀x,v=.ref x->∃o,s.heap.get? x=Z o/\((∃ds,d=.tuple ds/\o.cls=.type "tuple")\/(∃ds,d=.list ds/\o.cls=.type "list")\/∃ds,d=.dict ds/\o.cls=.type "dict")) ->
   (∀tk,Q (.bool (HM.Zj7 t d)) { s with toks:=tk })->wpAny (model X.prog X.w) X.A (call (.builtin "isinstance") [u,.type tyn]) Q X.xe s) :
  ZaO X (.builtin "isinstance") (λxs H Q=>∃F d v,xs=[v,.ty tyn]/\Zq F H/\Rep X.K F d v/\(∀es,d≠.dict es)/\Q (.bl (HM.Zj7 t d)) H):=by
 intro pins s σ H xs us Q I r h;obtain⟨F,d,v,rfl,sub,rp,nd,q⟩:=h;obtain⟨u,u',rfl,ru,ru'⟩:=vals2 r;cases(show u'=ZDg tyn from ru');refine hr s d v u _ ru ⟨_,_,rp⟩ nd (λx e=>?_) λtk=>⟨.bl _,H,I.tok tk,rfl,q⟩;subst e;cases rp with
 | tup h1 h2 h3=>obtain⟨its,rv,⟨o,ho,hc,n,hd⟩,_⟩:=I.tuple (.of (sub _ _ h1));exact⟨o,ho,.inl ⟨_,rfl,hc⟩⟩
 | tupk h1=>obtain⟨its,rv,⟨o,ho,hc,n,hd⟩,_⟩:=I.tuple (.inr h1);exact⟨o,ho,.inl ⟨_,rfl,hc⟩⟩
 | lst h1 h2 h3=>obtain⟨its,rv,⟨o,n,ho,hc,_,hd⟩,_⟩:=I.list (sub.seq h1);exact⟨o,ho,.inr (.inl ⟨_,rfl,hc⟩)⟩
 | @dct a es kvs vvs h1 _ _ _=>obtain⟨_,_,xs,_,o,es,ep,q1,q2,_⟩:=(show Zab X.prog X.w H s.heap x (.dT vvs) from Zl9 I.hok (Zkn h1 sub));exact⟨o,q1,.inr (.inr ⟨_,rfl,q2.1⟩)⟩
 | fn _=>exact absurd rfl (nd _)
theorem ZvV:ZaO X (.builtin "isinstance") (λxs H Q=>∃F d v,xs=[v,.ty "bool"]/\Zq F H/\Rep X.K F d v/\(∀es,d≠.dict es)/\Q (.bl (HM.Zj7 .bool d)) H):=by
 refine ZpQ λs d v u Q ru ⟨K,F,rp⟩ nd ho k=>?_;cases rp with
 | non=>cases ru; exact IsiPair.NoneType_bool (k _)
 | bl _=>cases ru; exact IsiPair.bool_bool (k _)
 | int _=>obtain⟨t,rfl⟩:=ru; exact IsiPair.int_bool (k _)
 | str _=>obtain⟨t,rfl⟩:=ru; exact IsiPair.str_bool (k _)
 | tup _ _ _ | tupk _ =>
  cases ru;obtain⟨o,h1,⟨_,_,h2⟩ | ⟨_,e,_⟩ | ⟨_,e,_⟩⟩:=ho _ rfl
  ·exact IsiPair.tuple_bool h1 h2 (k _)
  ·cases e
  ·cases e
 | lst _ _ _ =>
  cases ru;obtain⟨o,h1,⟨_,e,_⟩ | ⟨_,_,h2⟩ | ⟨_,e,_⟩⟩:=ho _ rfl
  ·cases e
  ·exact IsiPair.list_bool h1 h2 (k _)
  ·cases e
 | dct _ _ _ _ =>
  cases ru;obtain⟨o,h1,⟨_,e,_⟩ | ⟨_,e,_⟩ | ⟨_,_,h2⟩⟩:=ho _ rfl
  ·cases e
  ·cases e
  ·exact IsiPair.dict_bool h1 h2 (k _)
 | fn _=>exact absurd rfl (nd _)
theorem Zxu:ZaO X (.builtin "isinstance") (λxs H Q=>∃F d v,xs=[v,.ty "int"]/\Zq F H/\Rep X.K F d v/\(∀es,d≠.dict es)/\Q (.bl (HM.Zj7 .int d)) H):=by
 refine ZpQ λs d v u Q ru ⟨K,F,rp⟩ nd ho k=>?_;cases rp with
 | non=>cases ru; exact IsiPair.NoneType_int (k _)
 | bl _=>cases ru; exact IsiPair.bool_int (k _)
 | int _=>obtain⟨t,rfl⟩:=ru; exact IsiPair.int_int (k _)
 | str _=>obtain⟨t,rfl⟩:=ru; exact IsiPair.str_int (k _)
 | tup _ _ _ | tupk _ =>
  cases ru;obtain⟨o,h1,⟨_,_,h2⟩ | ⟨_,e,_⟩ | ⟨_,e,_⟩⟩:=ho _ rfl
  ·exact IsiPair.tuple_int h1 h2 (k _)
  ·cases e
  ·cases e
 | lst _ _ _ =>
  cases ru;obtain⟨o,h1,⟨_,e,_⟩ | ⟨_,_,h2⟩ | ⟨_,e,_⟩⟩:=ho _ rfl
  ·cases e
  ·exact IsiPair.list_int h1 h2 (k _)
  ·cases e
 | dct _ _ _ _ =>
  cases ru;obtain⟨o,h1,⟨_,e,_⟩ | ⟨_,e,_⟩ | ⟨_,_,h2⟩⟩:=ho _ rfl
  ·cases e
  ·cases e
  ·exact IsiPair.dict_int h1 h2 (k _)
 | fn _=>exact absurd rfl (nd _)
theorem Zue:ZaO X (.builtin "isinstance") (λxs H Q=>∃F d v,xs=[v,.ty "tuple"]/\Zq F H/\Rep X.K F d v/\(∀es,d≠.dict es)/\Q (.bl (HM.Zj7 .tuple d)) H):=by
 refine ZpQ λs d v u Q ru ⟨K,F,rp⟩ nd ho k=>?_;cases rp with
 | non=>cases ru; exact IsiPair.NoneType_tuple (k _)
 | bl _=>cases ru; exact IsiPair.bool_tuple (k _)
 | int _=>obtain⟨t,rfl⟩:=ru; exact IsiPair.int_tuple (k _)
 | str _=>obtain⟨t,rfl⟩:=ru; exact IsiPair.str_tuple (k _)
 | tup _ _ _ | tupk _ =>
  cases ru;obtain⟨o,h1,⟨_,_,h2⟩ | ⟨_,e,_⟩ | ⟨_,e,_⟩⟩:=ho _ rfl
  ·exact IsiPair.tuple_tuple h1 h2 (k _)
  ·cases e
  ·cases e
 | lst _ _ _ =>
  cases ru;obtain⟨o,h1,⟨_,e,_⟩ | ⟨_,_,h2⟩ | ⟨_,e,_⟩⟩:=ho _ rfl
  ·cases e
  ·exact IsiPair.list_tuple h1 h2 (k _)
  ·cases e
 | dct _ _ _ _ =>
  cases ru;obtain⟨o,h1,⟨_,e,_⟩ | ⟨_,e,_⟩ | ⟨_,_,h2⟩⟩:=ho _ rfl
  ·cases e
  ·cases e
  ·exact IsiPair.dict_tuple h1 h2 (k _)
 | fn _=>exact absurd rfl (nd _)
theorem Zop{tyn:Str}{tys:String}{t:HM.Ty}(hR:ZaO X (.builtin "isinstance") (λxs H Q=>∃F d v,xs=[v,.ty tys]/\Zq F H/\Rep X.K F d v/\(∀es,d≠.dict es)/\Q (.bl (HM.Zj7 t d)) H))(bt:ZCg tyn=Z (.type tys))
  (hm:X.mg "isinstance" = Z_) (hm2:X.mg tyn=Z_) (ha:XE X a fa) (hg:Gl X "isinstance") (hg2:Gl X tyn) (hn:tyn ≠ "__name__") (hd:(tyn==("__debug__":Str))=ZGI)
  (hs1:ZBp [a,.Name tyn p2] X.env=(ZGI,eval a X.env)::ZBp [.Name tyn p2] X.env) (hs2:ZBp [.Name tyn p2] X.env=[(ZGI,eval (.Name tyn p2) X.env)]):XE X (.Call (.Name "isinstance" p) [a,.Name tyn p2] [] pos) (HM.Zi5 fa t):=by
 intro r d h;have key:∃x,fa r=Z x/\(∀es,x≠.dict es)/\d=.bool (HM.Zj7 t x):=by
  unfold HM.Zi5 at h;split at h
  ·cases h
  ·rename_i x hn hx
   cases h;exact⟨x,hx,λes z=>hn es (by rw[z]),rfl⟩
  ·cases h
 obtain⟨x,h1,nd,h2⟩:=key;subst h2;refine PE.imp (ZbT hR hg hm Zoa (ZaL (ha r x h1) (ZaL (Zxl (v:=.ty tys) hg2 hm2 bt rfl hn hd) Zca (by rw[hs2]; rfl)) hs1) (he:=hs1) (hpl:=by rw[hs2]; rfl)) λσ H Q ⟨F0,H0,F,at_,k⟩=>?_;exact⟨F0,H0,F,at_,λv F1 H1 x1 r1=>⟨F1,x,v,rfl,x1.sub,r1,nd,k _ F1 H1 x1 (.bl _)⟩⟩
theorem Zqw(hm:X.mg "isinstance" = Z_)(hm2:X.mg "bool" = Z_)(ha:XE X a fa)(hg:Gl X "isinstance":=by rfl)(hg2:Gl X "bool":=by rfl)(hs1:ZBp [a,.Name "bool" p2] X.env=(ZGI,eval a X.env)::ZBp [.Name "bool" p2] X.env:=by rfl) :
  XE X (.Call (.Name "isinstance" p) [a,.Name "bool" p2] [] pos) (HM.Zi5 fa .bool):=Zop ZvV Zxe hm hm2 ha hg hg2 (by decide) (by decide) hs1 rfl
theorem ZrU(hm:X.mg "isinstance" = Z_)(hm2:X.mg "int" = Z_)(ha:XE X a fa)(hg:Gl X "isinstance":=by rfl)(hg2:Gl X "int":=by rfl)(hs1:ZBp [a,.Name "int" p2] X.env=(ZGI,eval a X.env)::ZBp [.Name "int" p2] X.env:=by rfl) :
  XE X (.Call (.Name "isinstance" p) [a,.Name "int" p2] [] pos) (HM.Zi5 fa .int):=Zop Zxu ZpT hm hm2 ha hg hg2 (by decide) (by decide) hs1 rfl
theorem Zjj(hm:X.mg "isinstance" = Z_)(hm2:X.mg "tuple" = Z_)(ha:XE X a fa)(hg:Gl X "isinstance":=by rfl)(hg2:Gl X "tuple":=by rfl)(hs1:ZBp [a,.Name "tuple" p2] X.env=(ZGI,eval a X.env)::ZBp [.Name "tuple" p2] X.env:=by rfl) :
  XE X (.Call (.Name "isinstance" p) [a,.Name "tuple" p2] [] pos) (HM.Zi5 fa .tuple):=Zop Zue Zlz hm hm2 ha hg hg2 (by decide) (by decide) hs1 rfl
theorem ZxO(hm:X.mg "max" = Z_)(hc:X.calm=ZGH)(ha:XE X a fa)(hb:XE X b fb)(hg:Gl X "max":=by rfl)(hs1:ZBp [a,b] X.env=(ZGI,eval a X.env)::ZBp [b] X.env:=by rfl)(hs2:ZBp [b] X.env=[(ZGI,eval b X.env)]:=by rfl) :
  XE X (.Call (.Name "max" p) [a,b] [] pos) (HM.op2 HM.Zx1 fa fb):=by
 intro r d h;obtain⟨x,y,h1,h2,h3⟩:=Zic h;obtain⟨i,j,rfl,rfl,e⟩:=ZgW h3;cases e;refine PE.imp (ZbT (Zun hc) hg hm ZpS (ZaL (ha r _ h1) (ZaL (hb r _ h2) Zca hs2) hs1) (he:=hs1) (hpl:=by rw[hs2]; rfl)) λσ H Q ⟨F0,H0,F,at_,k⟩=>?_;exact⟨F0,H0,F,at_,λv F1 H1 x1 r1=>⟨F0,H0,F1,at_.grow x1,λw F2 H2 x2 r2=>⟨i,j,by rw[r1.int_inv,r2.int_inv],k _ F2 H2 (x1.trans x2) (.int _)⟩⟩⟩
theorem ZxP(hm:X.mg "min" = Z_)(hc:X.calm=ZGH)(ha:XE X a fa)(hb:XE X b fb)(hg:Gl X "min":=by rfl)(hs1:ZBp [a,b] X.env=(ZGI,eval a X.env)::ZBp [b] X.env:=by rfl)(hs2:ZBp [b] X.env=[(ZGI,eval b X.env)]:=by rfl) :
  XE X (.Call (.Name "min" p) [a,b] [] pos) (HM.op2 HM.Zx4 fa fb):=by
 intro r d h;obtain⟨x,y,h1,h2,h3⟩:=Zic h;obtain⟨i,j,rfl,rfl,e⟩:=ZgW h3;cases e;refine PE.imp (ZbT (Zt2 hc) hg hm Zpg (ZaL (ha r _ h1) (ZaL (hb r _ h2) Zca hs2) hs1) (he:=hs1) (hpl:=by rw[hs2]; rfl)) λσ H Q ⟨F0,H0,F,at_,k⟩=>?_;exact⟨F0,H0,F,at_,λv F1 H1 x1 r1=>⟨F0,H0,F1,at_.grow x1,λw F2 H2 x2 r2=>⟨i,j,by rw[r1.int_inv,r2.int_inv],k _ F2 H2 (x1.trans x2) (.int _)⟩⟩⟩
theorem ZuJ(hm:X.mg "int" = Z_)(ha:XE X a fa)(hg:Gl X "int":=by rfl)(hs:ZBp [a] X.env=[(ZGI,eval a X.env)]:=by rfl):XE X (.Call (.Name "int" p) [a] [] pos) (HM.Zp1 fa):=by
 intro r d h;unfold HM.Zp1 at h;split at h
 ·rename_i i hi
  cases h;refine PE.imp (ZdD ZnD hg hm ZpT (ZaL (ha r _ hi) Zca hs) (he:=hs)) λσ H Q ⟨F0,H0,F,at_,k⟩=>?_;exact⟨F0,H0,F,at_,λv F1 H1 x1 r1=>.inl ⟨i,by rw[r1.int_inv],k _ F1 H1 x1 (.int _)⟩⟩
 ·rename_i q hq
  cases h;refine PE.imp (ZdD ZnD hg hm ZpT (ZaL (ha r _ hq) Zca hs) (he:=hs)) λσ H Q ⟨F0,H0,F,at_,k⟩=>?_;exact⟨F0,H0,F,at_,λv F1 H1 x1 r1=>.inr ⟨q,by rw[r1.bool_inv],k _ F1 H1 x1 (.int _)⟩⟩
 ·cases h
end
end
section
variable[FX]
section
variable{X:Cx}{a b c e:Expr}{fa fb fc:HM.EF}{pos p:Pos}{f:HM.BF}{tg:Expr}
theorem PI.imp{X:Cx}{tg e:Expr}{t u:TI}(h:PI X tg e t)(hi:∀σ H R,u σ H R->t σ H R):PI X tg e u:=λpins s σ H R I q=>h pins s σ H R I (hi σ H R q)
theorem Zyh{l:Expr}{tl:TE}(hl:PE X l tl):PI X tg l (λσ H R=>tl σ H λx H1=>∃a,x=.ref a/\((∃xs,SqL X.K H1 a xs)/\R (Itl X.K a) H1\/(∃xs,SqT X.K H1 a xs)/\R (Itt X.K a) H1)):=by
 intro pins s σ H R I h;refine thn (hl pins s σ H _ I h) λv s1 ⟨x,H1,I1,r1,q1⟩=>?_;obtain⟨a,e,q1⟩:=q1;subst e;cases r1;rcases q1 with⟨⟨xs,hq⟩,q⟩ | ⟨⟨xs,hq⟩,q⟩
 ·obtain⟨its,rv,p,hz⟩:=I1.list hq
  refine ZFF p.isList ⟨s1.heap.objs.size,[s1.heap.objs.size],_,_,H1,rfl,I1.kept (t':=s1.toks) λb o e=>ZBg _ e,Zuz a _,⟨_,ZBw _ rfl,rfl,rfl⟩,λb hb=>?_,q⟩;obtain rfl:b=s1.heap.objs.size:=by simpa using hb
  exact I1.fpOk (ZBl _) (I1.hok.fresh (ZBl _))
 ·obtain⟨its,rv,p,hz⟩:=I1.tuple hq
  refine ZEr (show s1.heap.IsTuple a its.toArray from p) ⟨s1.heap.objs.size,[s1.heap.objs.size],_,_,H1,rfl,I1.kept (t':=s1.toks) λb o e=>ZBg _ e,Zss a _,⟨_,ZBw _ rfl,rfl,rfl⟩,λb hb=>?_,q⟩;obtain rfl:b=s1.heap.objs.size:=by simpa using hb
  exact I1.fpOk (ZBl _) (I1.hok.fresh (ZBl _))
theorem ZvE{a:Addr}(h:SqL K F a vs)(r:Zt K F ds vs):ItD K (Itl K a) ds F:=by intro F' H s1 s2;have hq:SqL K H a vs:=(s1.trans s2).seq h;refine⟨λi d hd=>?_,⟨vs,hq,by rw[r.1]; exact ZBl _⟩⟩;obtain⟨v,h1,h2⟩:=r.get hd;refine⟨⟨vs,v,hq,h1⟩,λx H' hy=>?_⟩;obtain⟨e,y⟩:=hy;refine⟨e,?_⟩;have:=y vs hq;rw[h1]at this;cases this;exact h2.mono (s1.trans (Zdb s2))
theorem ZvQ{a:Addr}(h:SqT K F a vs)(r:Zt K F ds vs):ItD K (Itt K a) ds F:=by intro F' H s1 s2;have hq:SqT K H a vs:=ZdG h (s1.trans s2);refine⟨λi d hd=>?_,⟨vs,hq,by rw[r.1]; exact ZBl _⟩⟩;obtain⟨v,h1,h2⟩:=r.get hd;refine⟨⟨vs,v,hq,h1⟩,λx H' hy=>?_⟩;obtain⟨e,y⟩:=hy;refine⟨e,?_⟩;have:=y vs hq;rw[h1]at this;cases this;exact h2.mono (s1.trans (Zdb s2))
theorem ZwO{a:Addr}(h:F a=Z (.tup vs))(r:Zt K F ds vs):ItD K (Itt K a) ds F:=by intro F' H s1 s2;have hq:SqT K H a vs:=.of (s2 _ _ (s1 _ _ h));refine⟨λi d hd=>?_,⟨vs,hq,by rw[r.1]; exact ZBl _⟩⟩;obtain⟨v,h1,h2⟩:=r.get hd;refine⟨⟨vs,v,hq,h1⟩,λx H' hy=>?_⟩;obtain⟨e,y⟩:=hy;refine⟨e,?_⟩;have:=y vs hq;rw[h1]at this;cases this;exact h2.mono (s1.trans (Zdb s2))
theorem Zac(h:XE X e fa):XI X tg e (HM.Zaa (HM.bOf fa)):=by
 intro r ds hd;unfold HM.Zaa HM.bOf at hd;cases hx:fa r with
 | none=>rw[hx]at hd; cases hd
 | some d =>
  rw[hx]at hd;have hd:HM.Zgb (.pl d)=Z ds:=hd;refine PI.imp (Zyh (h r d hx)) λσ H R ⟨F0,H0,F,at_,k⟩=>?_;refine⟨F0,H0,F,at_,λv F1 H1 x1 r1=>?_⟩;cases r1 with
  | @tupk a x h1=>cases hd;exact⟨a,rfl,.inr ⟨⟨_,.inr h1⟩,k _ F1 H1 x1 (ZvQ (.inr h1) (.one (.str x)))⟩⟩
  | @tup a ds' vs h1 h2 h3=>cases hd;exact⟨a,rfl,.inr ⟨⟨vs,.of (x1.sub _ _ h1)⟩,k _ F1 H1 x1 (ZwO h1 ⟨h2,h3⟩)⟩⟩
  | @lst a ds' vs h1 h2 h3=>cases hd;exact⟨a,rfl,.inl ⟨⟨vs,x1.sub.seq h1⟩,k _ F1 H1 x1 (ZvE h1 ⟨h2,h3⟩)⟩⟩
  | dct _ _ _ _=>cases hd
  | fn _=>cases hd
  | non=>cases hd
  | bl _=>cases hd
  | int _=>cases hd
  | str _=>cases hd
theorem ZwL(lo:Int)(n:Nat):ItD K (Itr lo n) (HM.Zc4 lo n) F:=by
 intro F' H s1 s2;have hl:(HM.Zc4 lo n).length=n:=by unfold HM.Zc4; rw[ZBb,ZCv]
 refine⟨λi d hd=>?_,?_⟩
 ·have hi:i<n:=by rw[<-hl]; exact(ZBr.mp hd).1
  unfold HM.Zc4 at hd;rw[ZBG,List.getElem?_range hi]at hd;cases hd;exact⟨hi,λx H' ⟨e1,e2⟩=>⟨e1,by rw[e2]; exact .int _⟩⟩
 ·rw[hl]; exact ZBl _
theorem ZrB{j:Int}(h:HM.okR j=ZGH):-1000000<j/\j<1000000:=by unfold HM.okR at h;rw[ZEd]at h;omega
theorem Zch(hm:X.mg "range" = Z_)(ha:XE X a fa)(hg:Gl X "range":=by rfl)(hs:ZBp [a] X.env=[(ZGI,eval a X.env)]:=by rfl):XI X tg (.Call (.Name "range" p) [a] [] pos) (HM.ZbI fa):=by
 intro r ds hd;unfold HM.ZbI at hd;split at hd
 ·rename_i j hj
  split at hd
  ·rename_i hok
   cases hd;obtain⟨k1,k2⟩:=ZrB hok;refine PI.imp (ZtN hg hm (ZaL (ha r _ hj) Zca hs) hs) λσ H R ⟨F0,H0,F,at_,k⟩=>?_;exact⟨F0,H0,F,at_,λv F1 H1 x1 r1=>⟨j,by rw[r1.int_inv],by omega,by omega,k _ F1 H1 x1 (ZwL 0 j.toNat)⟩⟩
  ·cases hd
 ·cases hd
theorem Zs6{gb:HM.BF}(ha:XB X a ga)(hb:XB X b gb):XF X (.BinOp a .Add b pos) (HM.ZsF ga gb):=by
 intro r d h;unfold HM.ZsF at h;split at h
 ·rename_i xs hx
  split at h
  ·rename_i ys hy
   split at h
   ·rename_i hz
    cases h;refine PE.imp (Zmi ZyN (ha r _ hx) (hb r _ hy)) λσ H Q ⟨F0,H0,F,at_,k⟩=>?_;refine⟨F0,H0,F,at_,λv F1 H1 x1 ⟨fp,r1⟩=>⟨F0,H0,F1,at_.grow x1,λw F2 H2 x2 ⟨fq,r2⟩=>?_⟩⟩;cases r1 with
    | ol h1 q1 =>
     cases r2 with
     | ol h2 q2 =>
      have q1':=q1.mono x2.ff;refine⟨_,_,_,_,rfl,rfl,x2.hh _ _ h1,h2,?_,λl hl=>Zet (P:=λv _ H'=>Q v H') (x1.trans x2) (q1'.append q2) hl k⟩;have e1:=q1.1;have e2:=q2.1;have e3:(1000000:Nat)<=sizeLine:=by decide
      unfold HM.big at hz;omega
   ·cases h
  ·cases h
 ·cases h
theorem ZxQ(ha:XB X a ga)(hb:XE X b fb):XF X (.BinOp a .Mult b pos) (HM.Zvm ga fb):=by
 intro r d h;unfold HM.Zvm at h;split at h
 ·rename_i xs hx
  split at h
  ·rename_i i hy
   split at h
   ·rename_i hz
    cases h;rw[ZBx,decide_eq_true_eq,decide_eq_true_eq]at hz;refine PE.imp (Zmi Zzh (ha r _ hx) (hb r _ hy)) λσ H Q ⟨F0,H0,F,at_,k⟩=>?_;refine⟨F0,H0,F,at_,λv F1 H1 x1 ⟨fp,r1⟩=>⟨F0,H0,F1,at_.grow x1,λw F2 H2 x2 r2=>?_⟩⟩;cases r1 with
    | ol h1 q1 =>
     have q1':=q1.mono x2.ff;refine⟨_,i,_,rfl,r2.int_inv,x2.hh _ _ h1,by omega,by omega,?_,λl hl=>Zet (P:=λv _ H'=>Q v H') (x1.trans x2) (q1'.rep i.toNat) hl k⟩;have e1:=q1.1;have e3:(1000*1000:Nat)<=sizeLine:=by decide
     refine ZCh (Nat.mul_le_mul (?_:_<=1000) (?_:_<=1000)) e3<;>omega
   ·cases h
  ·cases h
 ·cases h
def XO(X:Cx)(e:Option Expr)(f:Option HM.EF):Prop:=∀r o,HM.ZhR f r=Z o->PO X e λσ H Q=>Now X.K r σ H λF0 H0 F=>∀F' H',Ext F H F' H'->Q o H'
theorem ZdS:XO X Z_ Z_:=by intro r o h;cases h;intro pins s σ H Q I q;obtain⟨F0,H0,F,at_,k⟩:=q;exact Zxt pins s σ H Q I (k F H at_.refl)
theorem ZdR(h:XE X e fa):XO X (Z e) (Z fa):=by
 intro r o ho;unfold HM.ZhR at ho;split at ho
 ·rename_i z; cases z
 ·rename_i g z
  cases z;split at ho
  ·rename_i i hi
   cases ho;intro pins s σ H Q I q;obtain⟨F0,H0,F,at_,k⟩:=q;exact Zxs (h r _ hi) pins s σ H Q I ⟨F0,H0,F,at_,λv F1 H1 x1 r1=>⟨i,r1.int_inv,k F1 H1 x1⟩⟩
  ·cases ho
theorem ZxR{lo hi:Option Expr}{fl fh:Option HM.EF}(ha:XB X a ga)(hl:XO X lo fl)(hh:XO X hi fh):XF X (.Subscript a (.Slice lo hi Z_ p2) pos) (HM.ZvA ga fl fh):=by
 intro r d h;unfold HM.ZvA at h;split at h
 ·rename_i x hx
  split at h
  ·rename_i xs hxs
   split at h
   ·rename_i l hl'
    split at h
    ·rename_i u hu'
     cases h;refine PE.imp (Zpu Zxc (ha r _ hx) (hl r _ hl') (hh r _ hu')) λσ H Q ⟨F0,H0,F,at_,k⟩=>?_;refine⟨F0,H0,F,at_,λv F1 H1 x1 ⟨fp,r1⟩=>⟨F0,H0,F1,at_.grow x1,λF2 H2 x2=>⟨F0,H0,F2,(at_.grow x1).grow x2,λF3 H3 x3=>?_⟩⟩⟩;have x23:=x2.trans x3;obtain⟨l',vs,e1,hq,rs⟩:=ZdC x3.sub (r1.mono x23.ff λ_ _ _ z=>x23.hh _ _ z) hxs;refine⟨l',vs,e1,hq,λl2 hl2=>Zet (P:=λv _ H'=>Q v H') (x1.trans x23) ?_ hl2 k⟩;unfold HM.cutD Zh1;rw[<-rs.1];exact(rs.drop _).take _
    ·cases h
   ·cases h
  ·cases h
 ·cases h
theorem Zbv.val{fp:Nat->List Addr}(e:Zbv K F0 H0 F H r σ fp)(h:r[i]?=Z (Z (.ol ds))) :
  ∃l vs,σ[i]?=Z (Z (.ref l))/\H l=Z (.lst vs)/\Zt K F ds vs/\fp i=[l]:=by
 obtain⟨v,h1,h2⟩:=e.at_ i _ h;generalize hf:fp i=q at h2;cases h2 with
 | ol k1 k2=>exact⟨_,_,h1,k1,k2,rfl⟩
theorem At.chgList{es:List PyData}(e:At K F0 H0 F H r σ)(h:r[i]?=Z (Z (.ol ds))) :
  ∃l vs,σ[i]?=Z (Z (.ref l))/\H l=Z (.lst vs)/\Zt K F ds vs/\∀us,Zt K F es us->At K F0 H0 F (upd H l (.lst us)) (r.set i (Z (.ol es))) σ:=by
 obtain⟨fp,e⟩:=e;obtain⟨l,vs,h1,h2,h3,h4⟩:=e.val h;refine⟨l,vs,h1,h2,h3,λus q=>e.change (fp':=[l]) h1 (.ol ZE q) (by simp) (λa ha=>.inl (by rw[h4]; exact ha)) λa o z hn=>?_⟩;rw[ZA (λz=>hn (by rw[h4,z]; simp))];exact z
theorem Zex(i:Nat)(ha:XE X a fa)(hN:X.N[i]?=Z x:=by rfl)(hv:Vis X.env.scope x:=by first | exact ZBZ rfl | exact ZBC (ZBZ rfl) | exact ZBC (ZBC rfl))(hd:(x==("__debug__":Str))=ZGI:=by decide)(hcd:(x==("__classdict__":Str))=ZGI:=by decide)
  (hbase:ZDD (.Name x p1) "append" X.env (eval (.Name x p1) X.env)=eval (.Name x p1) X.env:=by rfl)
  (hfew:((backTo p3 (ZBp [a] X.env)).all (λx=>!x.1)&&(ZFT p3 (ZEM [] X.env)).all (λx=>x.1.isSome)&&decide (([a]:List Expr).length+([]:List Keyword).length+(if([]:List Keyword).isEmpty then 0 else 1)<30))=ZGH:=by rfl)
  (hline:(p2.endLine==p3.line)=ZGH:=by rfl) (hs:ZBp [a] X.env=[(ZGI,eval a X.env)]:=by rfl):XS X (.Expr (.Call (.Attribute (.Name x p1) "append" p2) [a] [] p3) pos) (HM.ZeF i fa):=by
 intro r o h;unfold HM.ZeF at h;split at h
 ·rename_i ds hds
  split at h
  ·rename_i d hd'
   split at h
   ·rename_i hz
    cases h;refine PS.imp (Zkz (Zsc ZDW ZFV ZFW Zke (Zb9 hN hv hd hcd) (ZaL (ha r d hd') Zca hs) hbase hfew hline hs rfl)) λE σ H ⟨F0,H0,F,at_,k⟩=>?_;obtain⟨l,vs,e1,e2,e3,_⟩:=at_.chgList (es:=ds) hds;refine⟨.ref l,e1,.inl ⟨rfl,_,SqL.of e2⟩,F0,H0,F,at_,λv F1 H1 x1 r1=>?_⟩;have at1:=at_.grow x1;obtain⟨l',vs',f1,f2,f3,f4⟩:=at1.chgList (es:=ds++[d]) hds;rw[e1]at f1;cases f1;refine⟨_,vs',v,rfl,rfl,f2,?_,k _ F1 _ (f4 _ (f3.append (.one r1)))⟩;have e4:=f3.1;have e5:(1000000:Nat)<=sizeLine:=by decide
    unfold HM.big at hz;omega
   ·cases h
  ·cases h
 ·cases h
theorem Zwp(i:Nat)(hk:XE X b fb)(ha:XE X a fa)(hN:X.N[i]?=Z x:=by rfl)(hv:Vis X.env.scope x:=by first | exact ZBZ rfl | exact ZBC (ZBZ rfl) | exact ZBC (ZBC rfl))(hd:(x==("__debug__":Str))=ZGI:=by decide)(hcd:(x==("__classdict__":Str))=ZGI:=by decide)
  (hsub:∀v,assign (.Subscript (.Name x p1) b p2) X.env v=(do
   let ov <-holding [v] (eval (.Name x p1) X.env)
   let iv <-holding [v,ov] (eval b X.env)
   standAt p2
   holding [v,ov,iv] (setItem ov iv v)
   release [v,ov,iv] []):=by intro _; rfl)
  (hs:swapsWithSole [.Subscript (.Name x p1) b p2] a pos.line X.env=pure ZGI:=by rfl) (hw:swappedStores [.Subscript (.Name x p1) b p2] a X.env=pure Z_:=by rfl)
  (h1:(ZEu [.Subscript (.Name x p1) b p2] X.env).map (·.2)=[assign (.Subscript (.Name x p1) b p2) X.env]:=by rfl):XS X (.Assign [.Subscript (.Name x p1) b p2] a pos) (HM.ZsY i fb fa):=by
 intro r o h;unfold HM.ZsY at h;split at h
 ·rename_i d hd'
  split at h
  ·rename_i ds hds
   split at h
   ·rename_i n hn
    split at h
    ·rename_i j hj
     cases h;refine PS.imp (Zx7 (ha r d hd') (Zy2 (Zb9 hN hv hd hcd) (hk r _ hn) set_list hsub) hs hw h1) λE σ H ⟨F0,H0,F,at_,k⟩=>?_;refine⟨F0,H0,F,at_,λv F1 H1 x1 r1=>?_⟩;have at1:=at_.grow x1;obtain⟨l,vs,e1,e2,e3,_⟩:=at1.chgList (es:=ds) hds;refine⟨.ref l,e1,F0,H0,F1,at1,λw F2 H2 x2 r2=>?_⟩;obtain⟨l',vs',f1,f2,f3,f4⟩:=(at1.grow x2).chgList (es:=ds.set j d) hds;rw[e1]at f1;cases f1;refine⟨_,vs',n,j,rfl,r2.int_inv,f2,?_,k _ F2 _ (f4 _ (f3.set (r1.mono x2.ff) j))⟩;rw[<-f3.1];exact hj
    ·cases h
   ·cases h
  ·cases h
 ·cases h
end
end
section
variable[FX]
section
variable{K:ZBd}{F:Hp}{κ:Type}[DecidableEq κ]
def Za6(K:ZBd)(F:Hp)(kvs:List (κ × PyData))(vvs:List (κ × V)):Prop:=kvs.map (·.1)=vvs.map (·.1)/\Zt K F (kvs.map (·.2)) (vvs.map (·.2))
theorem Za6.nil:Za6 K F ([]:List (κ × PyData)) []:=⟨rfl,.nil⟩
theorem Za6.cons{k:κ}{d:PyData}{v:V}{kvs:List (κ × PyData)}{vvs:List (κ × V)}(r:Rep K F d v)(q:Za6 K F kvs vvs):Za6 K F ((k,d)::kvs) ((k,v)::vvs) :=
 ⟨by rw[ZBn,ZBn,q.1],by rw[ZBn,ZBn]; exact .cons r q.2⟩
theorem Za6.inv{kvs:List (κ × PyData)}{vvs:List (κ × V)}(q:Za6 K F kvs vvs):(kvs=[]/\vvs=[])\/∃k d v kvs' vvs',kvs=(k,d)::kvs'/\vvs=(k,v)::vvs'/\Rep K F d v/\Za6 K F kvs' vvs':=by
 cases kvs with
 | nil =>
  cases vvs with
  | nil=>exact .inl ⟨rfl,rfl⟩
  | cons p r=>exact absurd q.1 (by simp)
 | cons p kvs' =>
  cases vvs with
  | nil=>exact absurd q.1 (by simp)
  | cons p' vvs' =>
   obtain⟨k,d⟩:=p;obtain⟨k',v⟩:=p';obtain⟨q1,q2⟩:=q;rw[ZBn,ZBn]at q1 q2;injection q1 with e1 e2
   have e1:k=k':=e1;subst e1;obtain⟨v',us,e3,r1,r2⟩:=q2.cons_inv;injection e3 with e3 e4
   refine .inr ⟨k,d,v,kvs',vvs',rfl,rfl,?_,e2,?_⟩
   ·rw[show v=v' from e3]; exact r1
   ·rw[e4]; exact r2
theorem Za6.len{kvs:List (κ × PyData)}{vvs:List (κ × V)}(q:Za6 K F kvs vvs):kvs.length=vvs.length:=by
 have:=congrArg ZB7 q.1
 rwa [ZBb,ZBb]at this
theorem Za6.any{kvs:List (κ × PyData)}{vvs:List (κ × V)}(k:κ)(q:Za6 K F kvs vvs):(kvs.any λp=>decide (p.1=k))=vvs.any λp=>decide (p.1=k):=by
 have e:∀{β:Type} (l:List (κ × β)),(l.any λp=>decide (p.1=k))=(l.map (·.1)).any λx=>decide (x=k):=λl=>by rw[List.any_map]; rfl
 rw[e,e,q.1]
theorem Za6.repl{d:PyData}{v:V}(k:κ)(r:Rep K F d v):∀{kvs:List (κ × PyData)} {vvs:List (κ × V)},Za6 K F kvs vvs->Za6 K F (kvs.map λp=>if p.1=k then(p.1,d)else p) (vvs.map λp=>if p.1=k then(p.1,v)else p)
 | [],vvs,q=>by
  rcases q.inv with⟨_,e⟩ | ⟨_,_,_,_,_,e,_⟩
  ·subst e; exact .nil
  ·cases e
 | p::kvs,vvs,q=>by
  rcases q.inv with⟨e,_⟩ | ⟨k',d',v',kvs',vvs',e1,e2,r1,r2⟩
  ·cases e
  ·cases e1
   subst e2;have ih:=Za6.repl k r r2;rw[ZBn,ZBn]
   by_cases h:k'=k
   ·rw[if_pos h,if_pos h]; exact .cons r ih
   ·rw[if_neg h,if_neg h]; exact .cons r1 ih
theorem Za6.snoc{kvs:List (κ × PyData)}{vvs:List (κ × V)}{k:κ}{d:PyData}{v:V}(q:Za6 K F kvs vvs)(r:Rep K F d v):Za6 K F (kvs++[(k,d)]) (vvs++[(k,v)]) :=
 ⟨by rw[ZBJ,ZBJ,q.1]; rfl,by rw[ZBJ,ZBJ]; exact q.2.append (.one r)⟩
theorem Za6.put{kvs:List (κ × PyData)}{vvs:List (κ × V)}{d:PyData}{v:V}(q:Za6 K F kvs vvs)(k:κ)(r:Rep K F d v):Za6 K F (HM.putD kvs k d) (putK vvs k v):=by
 unfold HM.putD putK;rw[q.any k]
 by_cases h:(vvs.any λp=>decide (p.1=k))=ZGH
 ·rw[if_pos h,if_pos h]; exact q.repl k r
 ·rw[if_neg h,if_neg h]; exact q.snoc r
theorem Za6.look{k:κ}:∀{kvs:List (κ × PyData)} {vvs:List (κ × V)},Za6 K F kvs vvs->(∀d,HM.Zj kvs k=Z d->∃v,ZaZ vvs k=Z v/\Rep K F d v)/\(HM.Zj kvs k=Z_->ZaZ vvs k=Z_)
 | [],vvs,q=>by
  rcases q.inv with⟨_,e⟩ | ⟨_,_,_,_,_,e,_⟩
  ·subst e; exact⟨λd h=>(by cases h),λ_=>rfl⟩
  ·cases e
 | p::kvs,vvs,q=>by
  rcases q.inv with⟨e,_⟩ | ⟨k',d',v',kvs',vvs',e1,e2,r1,r2⟩
  ·cases e
  ·cases e1
   subst e2;obtain⟨i1,i2⟩:=Za6.look (k:=k) r2
   by_cases h:k'=k
   ·have e3:HM.Zj ((k',d')::kvs) k=Z d':=by simp[HM.Zj,ZCc,h]
    rw[e3,Zev (p:=(k',v')) h];exact⟨λd hd=>(by cases hd; exact⟨v',rfl,r1⟩),λhd=>by cases hd⟩
   ·have e3:HM.Zj ((k',d')::kvs) k=HM.Zj kvs k:=by simp[HM.Zj,ZCc,h]
    rw[e3,Zeq (p:=(k',v')) h];exact⟨i1,i2⟩
theorem Za6.some_iff{k:κ}{kvs:List (κ × PyData)}{vvs:List (κ × V)}(q:Za6 K F kvs vvs):(ZaZ vvs k).isSome=(HM.Zj kvs k).isSome:=by
 obtain⟨i1,i2⟩:=q.look (k:=k);cases h:HM.Zj kvs k with
 | none=>rw[i2 h]; rfl
 | some d=>obtain⟨v,h1,_⟩:=i1 d h; rw[h1]; rfl
end
section
variable{K:ZBd}{F:Hp}
theorem ZiA{d:PyData}{k:Key}{v:V}(h:HM.Zkj d=Z k)(r:Rep K F d v):v=kV k:=by cases r<;>first | (cases h; rfl) | cases h
theorem Znz:∀{ds:List PyData} {ks:List Key} {vs:List V},HM.Zho ds=Z ks->Zt K F ds vs->vs=ks.map kV
 | [],ks,vs,h,r=>by cases h; exact r.nil_inv
 | d::ds,ks,vs,h,r=>by
  obtain⟨v,us,rfl,r1,r2⟩:=r.cons_inv;unfold HM.Zho at h;split at h
  ·rename_i k hk
   obtain⟨ks',h1,h2⟩:=ZBc.mp h;subst h2;rw[ZiA hk r1,Znz h1 r2];rfl
  ·cases h
theorem ZrN:∀{ds:List PyData} {ks:List Key},HM.ZmU ds=Z ks->HM.Zho ds=Z ks
 | [],ks,h=>h
 | d::ds,ks,h=>by
  unfold HM.ZmU at h;split at h
  ·cases ‹_=[]›
  ·rename_i i r e
   injection e with e1 e2
   subst e1 e2;obtain⟨ks',h1,h2⟩:=ZBc.mp h;subst h2;show(match HM.Zkj (.int i)with | some k=>(HM.Zho ds).map (k::·) | none=>Z_)=_;rw[ZrN h1];rfl
  ·cases h
theorem ZdB{d:PyData}{ks:List Key}{v:V}(h:HM.ZbG d=Z ks)(r:Rep K F d v):∃b,v=.ref b/\F b=Z (.tup (ks.map kV)):=by
 cases r with
 | tup h1 h2 h3=>refine⟨_,rfl,?_⟩;rw[<-Znz (ZrN h) ⟨h2,h3⟩];exact h1
 | tupk _=>cases h
 | lst _ _ _=>cases h
 | dct _ _ _ _=>cases h
 | fn _=>cases h
 | non=>cases h
 | bl _=>cases h
 | int _=>cases h
 | str _=>cases h
end
section
variable{X:Cx}{a b c e:Expr}{fa fb fc:HM.EF}{pos p:Pos}{f:HM.BF}
theorem fresh_one(x1:Ext F H F1 H1)(hl:H1 l=Z_)(hq:Zam K F1 (upd H1 l o) q (.ref l) [l])
  (k:∀v F' H',Ext F H F' H'->(∃fp,Zam K F' H' q v fp/\fp.Nodup/\∀a∈fp,F' a=Z_/\H a=Z_)->P v F' H'):P (.ref l) F1 (upd H1 l o):=by
 refine k _ F1 _ (x1.lay' hl) ⟨[l],hq,by simp,λa ha=>?_⟩;obtain rfl:a=l:=by simpa using ha
 exact⟨x1.sub.free hl,x1.hh.free hl⟩
theorem Zzx:XF X (.Dict [] [] pos) HM.fDk:=by intro r d h;cases h;exact PE.imp Zvn λσ H Q ⟨F0,H0,F,at_,k⟩ l hl=>fresh_one (P:=λv _ H'=>Q v H') at_.refl hl (.ok ZE rfl .nil) k
theorem Zod:XF X (.Dict [] [] pos) HM.fDt:=by intro r d h;cases h;exact PE.imp Zql λσ H Q ⟨F0,H0,F,at_,k⟩ l hl=>fresh_one (P:=λv _ H'=>Q v H') at_.refl hl (.ot ZE rfl .nil) k
theorem ZxS:XF X (.Dict [] [] pos) HM.Zx3:=by intro r d h;cases h;exact PE.imp Zql λσ H Q ⟨F0,H0,F,at_,k⟩ l hl=>fresh_one (P:=λv _ H'=>Q v H') at_.refl hl (.otl ZE rfl rfl λi ds l' h=>by simp at h) k
theorem ZuK(ha:XE X a fa)(hb:XE X b fb):XF X (.Dict [Z a] [b] pos) (HM.Zqs fa fb):=by
 intro r d h;unfold HM.Zqs at h;split at h
 ·rename_i x hx
  split at h
  ·rename_i y hy
   split at h
   ·rename_i k hk
    cases h;refine PE.imp (ZxJ (Zv6 (ha r x hx) (hb r y hy) Zw6) rfl rfl (by simp) (by simp)) λσ H Q ⟨F0,H0,F,at_,kk⟩ l hl=>?_;have hFl:F l=Z_:=at_.sub.free hl;have x0:Ext F H F (upd H l (.dK [])):=at_.refl.lay' hl;refine⟨F0,H0,F,at_.grow x0,λv F1 H1 x1 r1=>⟨F0,H0,F1,(at_.grow x0).grow x1,λw F2 H2 x2 r2=>?_⟩⟩;have x12:=x1.trans x2;have hl2:H2 l=Z (.dK []):=x12.hh l _ ZE;have hF2:F2 l=Z_:=by
     cases q:F2 l with
     | none=>rfl
     | some o =>
      rcases x12.new l o q with z | z
      ·rw[hFl]at z; cases z
      ·exact(z.no ZE λ_ q=>by cases q).elim
    refine⟨hl2,[(k,w)],?_,by simp,?_⟩
    ·rw[ZiA hk r1]
     rfl
    have xe:Ext F H F2 (upd H2 l (.dK (Zig [] [(k,w)]))):=by
     refine⟨x12.ff,λc o z=>?_,λc o z=>?_,λc o z=>?_,λt=>(x12.tab (t.same (Zlh hl))).keep λa u z hu=>?_,x12.nts⟩
     ·have hc:c≠l:=ZaA z hl
      exact(x12.hh c o (by rw[ZA hc]; exact z)).cong (ZA hc)
     ·rw[ZA (λe=>by rw[e,hF2]at z; cases z)]
      exact x12.sub c o z
     ·rcases x12.new c o z with q | q
      ·exact .inl q
      ·exact .inr (q.back (.of (Zq.upd' hl)))
     ·rw[ZA (λe=>by subst e; rw[hl2]at z; cases z; cases hu)]; exact z
    refine kk _ F2 _ xe ⟨[l],.ok ZE rfl (.one r2),by simp,λc hc=>?_⟩;obtain rfl:c=l:=by simpa using hc
    exact⟨hF2,hl⟩
   ·cases h
  ·cases h
 ·cases h
end
end
section
variable[FX]
theorem At.chgOne(e:At K F0 H0 F H r σ)(h:r[i]?=Z (Z q))(hv:σ[i]?=Z (Z (.ref l)))(hone:∀v fp,Zam K F H q v fp->∃a,v=.ref a/\fp=[a]) :
  ∀o q',Zam K F (upd H l o) q' (.ref l) [l]->At K F0 H0 F (upd H l o) (r.set i (Z q')) σ:=by
 intro o q' hq;obtain⟨fp,e⟩:=e;obtain⟨v,h1,h2⟩:=e.at_ i _ h;obtain⟨a,e1,e2⟩:=hone v _ h2;subst e1;rw[hv]at h1;cases h1;refine e.change (fp':=[l]) hv hq (by simp) (λc hc=>.inl (by rw[e2]; exact hc)) λc o' z hn=>?_;rw[ZA (λz=>hn (by rw[e2,z]; simp))];exact z
section
variable{X:Cx}{a b c e:Expr}{fa fb fc:HM.EF}{pos p:Pos}{f:HM.BF}
theorem Zib{n:Nat}(h:n<HM.big):n<sizeLine:=by
 have e5:(1000000:Nat)<=sizeLine:=by decide
 unfold HM.big at h;omega
theorem ZgC(hu:X.A.units+1<cLine)(i:Nat)(hk:XE X b fb)(ha:XE X a fa)(hN:X.N[i]?=Z x:=by rfl)(hv:Vis X.env.scope x:=by first | exact ZBZ rfl | exact ZBC (ZBZ rfl) | exact ZBC (ZBC rfl))(hd:(x==("__debug__":Str))=ZGI:=by decide)(hcd:(x==("__classdict__":Str))=ZGI:=by decide)
  (hs:ZDM a (Z (.Subscript (.Name x p1) b p2)) pos.line X.env=pure ZGI:=by rfl):XS X (.Assign [.Subscript (.Name x p1) b p2] a pos) (HM.Zh2 i fb fa):=by
 intro r o h;unfold HM.Zh2 at h;split at h
 ·rename_i d hd'
  split at h
  ·rename_i y hy
   split at h
   ·rename_i kvs hb
    split at h
    ·rename_i k hk'
     split at h
     ·rename_i hz
      cases h;refine PS.imp (ZrJ hu (Zb9 hN hv hd hcd) (hk r y hy) (ha r d hd') hs) λE σ H ⟨F0,H0,F,at_,kk⟩=>?_;refine⟨F0,H0,F,at_,λv F1 H1 x1 r1=>?_⟩;have at1:=at_.grow x1;obtain⟨u,fp,e1,e2⟩:=at1.any hb;refine⟨u,e1,F0,H0,F1,at1,λw F2 H2 x2 r2=>?_⟩;have at2:=at1.grow x2;cases e2 with
      | @ok l _ vvs e2 e3 e4=>have T:Za6 X.K F2 kvs vvs:=⟨e3,e4.mono x2.ff⟩;have T':=T.put k (r1.mono x2.ff);rw[ZiA hk' r2];have hH:H2 l=Z (.dK vvs):=x2.hh _ _ e2;refine⟨l,_,rfl,ZjS.k hH (by rw[<-T.len]; exact Zib hz),kk _ F2 _ (at2.chgOne hb e1 (λv fp q=>by cases q; exact⟨_,rfl,rfl⟩) _ _ (.ok ZE T'.1 T'.2))⟩
     ·cases h
    ·cases h
   ·rename_i kvs hb
    split at h
    ·rename_i k hk'
     split at h
     ·rename_i hz
      cases h;refine PS.imp (ZrJ hu (Zb9 hN hv hd hcd) (hk r y hy) (ha r d hd') hs) λE σ H ⟨F0,H0,F,at_,kk⟩=>?_;refine⟨F0,H0,F,at_,λv F1 H1 x1 r1=>?_⟩;have at1:=at_.grow x1;obtain⟨u,fp,e1,e2⟩:=at1.any hb;refine⟨u,e1,F0,H0,F1,at1,λw F2 H2 x2 r2=>?_⟩;have at2:=at1.grow x2;cases e2 with
      | @ot l _ vvs e2 e3 e4=>have T:Za6 X.K F2 kvs vvs:=⟨e3,e4.mono x2.ff⟩;have T':=T.put k (r1.mono x2.ff);obtain⟨bb,rfl,hbb⟩:=ZdB hk' r2;have hH:H2 l=Z (.dT vvs):=x2.hh _ _ e2;refine⟨l,_,rfl,ZjS.t hH (x2.sub _ _ hbb) (by rw[<-T.len]; exact Zib hz),kk _ F2 _ (at2.chgOne hb e1 (λv fp q=>by cases q; exact⟨_,rfl,rfl⟩) _ _ (.ot ZE T'.1 T'.2))⟩
     ·cases h
    ·cases h
   ·cases h
  ·cases h
 ·cases h
theorem Zlw{K:ZBd}{F H:Hp}(k:List Key):∀(kvs:List (List Key × List PyData)) (vvs:List (List Key × V)) (ls:List Addr),kvs.map (·.1)=vvs.map (·.1)->vvs.map (·.2)=ls.map V.ref ->
  (∀(i:Nat) (ds:List PyData) (l:Addr),(kvs.map (·.2))[i]?=Z ds->ls[i]?=Z l->∃vs,H l=Z (.lst vs)/\Zt K F ds vs) ->
  (∀ds,HM.Zj kvs k=Z ds->∃l' vs,ZaZ vvs k=Z (.ref l')/\l'∈ls/\H l'=Z (.lst vs)/\Zt K F ds vs)/\(HM.Zj kvs k=Z_->ZaZ vvs k=Z_)
 | [],[],_,_,_,_=>⟨(λds h=>by cases h),λ_=>rfl⟩
 | [],_::_,_,hk,_,_=>by simp at hk
 | _::_,[],_,hk,_,_=>by simp at hk
 | _::_,_::_,[],_,hv,_=>by simp at hv
 | (k1,ds1)::kvs,(k2,v2)::vvs,l1::ls,hk,hv,r=>by
  rw[ZBn,ZBn]at hk hv;injection hk with e1 e2
  injection hv with e3 e4
  have e1:k1=k2:=e1;have e3:v2=.ref l1:=e3;subst e1 e3;obtain⟨i1,i2⟩:=Zlw k kvs vvs ls e2 e4 λi ds l h1 h2=>r (i+1) ds l (by simpa using h1) (by simpa using h2)
  by_cases hkk:k1=k
  ·have e5:HM.Zj ((k1,ds1)::kvs) k=Z ds1:=by simp[HM.Zj,ZCc,hkk]
   rw[e5,Zev (p:=(k1,V.ref l1)) hkk];obtain⟨vs,q1,q2⟩:=r 0 ds1 l1 rfl rfl;exact⟨(λds h=>by cases h; exact⟨l1,vs,rfl,by simp,q1,q2⟩),(λh=>by cases h)⟩
  ·have e5:HM.Zj ((k1,ds1)::kvs) k=HM.Zj kvs k:=by simp[HM.Zj,ZCc,hkk]
   rw[e5,Zeq (p:=(k1,V.ref l1)) hkk];exact⟨λds h=>let ⟨l',vs,a1,a2,a3⟩:=i1 ds h; ⟨l',vs,a1,ZBi _ a2,a3⟩,i2⟩
theorem ZvY{v:V}(q:Zam K F H (.otl kvs) v fp) :
  ∃l vvs ls,v=.ref l/\fp=l::ls/\H l=Z (.dT vvs)/\kvs.map (·.1)=vvs.map (·.1)/\vvs.map (·.2)=ls.map V.ref /\
   ∀k,(∀ds,HM.Zj kvs k=Z ds->∃l' vs,ZaZ vvs k=Z (.ref l')/\l'∈ls/\H l'=Z (.lst vs)/\Zt K F ds vs)/\(HM.Zj kvs k=Z_->ZaZ vvs k=Z_):=by
 cases q with
 | @otl l _ vvs ls h hk hv r=>exact⟨l,vvs,ls,rfl,rfl,h,hk,hv,λk=>Zlw k kvs vvs ls hk hv r⟩
theorem ZvH(h:HM.ZsI i fa r=Z q):∃x bb,fa r=Z x/\r[i]?=Z (Z bb) /\
  ((∃kvs k d,bb=.ok kvs/\HM.Zkj x=Z k/\HM.Zj kvs k=Z d/\q=.pl d)\/(∃kvs k d,bb=.ot kvs/\HM.ZbG x=Z k/\HM.Zj kvs k=Z d/\q=.pl d)\/∃kvs k ds,bb=.otl kvs/\HM.ZbG x=Z k/\HM.Zj kvs k=Z ds/\q=.ol ds):=by
 unfold HM.ZsI at h;split at h
 ·rename_i x hx
  split at h
  ·rename_i kvs hb
   split at h
   ·rename_i k hk
    obtain⟨d,h1,h2⟩:=ZBc.mp h;exact⟨x,_,hx,hb,.inl ⟨kvs,k,d,rfl,hk,h1,h2.symm⟩⟩
   ·cases h
  ·rename_i kvs hb
   split at h
   ·rename_i k hk
    obtain⟨d,h1,h2⟩:=ZBc.mp h;exact⟨x,_,hx,hb,.inr (.inl ⟨kvs,k,d,rfl,hk,h1,h2.symm⟩)⟩
   ·cases h
  ·rename_i kvs hb
   split at h
   ·rename_i k hk
    obtain⟨d,h1,h2⟩:=ZBc.mp h;exact⟨x,_,hx,hb,.inr (.inr ⟨kvs,k,d,rfl,hk,h1,h2.symm⟩)⟩
   ·cases h
  ·cases h
 ·cases h
theorem ZxT(hu:X.A.units+1<cLine)(i:Nat)(hk:XE X b fb)(hN:X.N[i]?=Z x:=by rfl)(hv:Vis X.env.scope x:=by first | exact ZBZ rfl | exact ZBC (ZBZ rfl) | exact ZBC (ZBC rfl))(hd:(x==("__debug__":Str))=ZGI:=by decide)(hcd:(x==("__classdict__":Str))=ZGI:=by decide)
  (hs:Zs0 b:=by intro _ _; rfl):XB X (.Subscript (.Name x p1) b pos) (HM.ZsI i fb):=by
 intro r q h;obtain⟨y,bb,h1,h2,h3⟩:=ZvH h;refine PE.imp (ZrF hu (Zb9 hN hv hd hcd) (hk r y h1) hs) λσ H Q ⟨F0,H0,F,at_,kk⟩=>?_;obtain⟨u,fp,e1,e2⟩:=at_.any h2;refine⟨u,e1,F0,H0,F,at_,λw F2 H2 x2 r2=>?_⟩;have e2':=e2.mono x2.ff λ_ _ _ z=>x2.hh _ _ z;rcases h3 with⟨kvs,k,d,rfl,hk',hl,rfl⟩ | ⟨kvs,k,d,rfl,hk',hl,rfl⟩ | ⟨kvs,k,ds,rfl,hk',hl,rfl⟩
 ·cases e2' with
  | @ok l _ vvs g1 g2 g3=>obtain⟨v,q1,q2⟩:=(Za6.look (k:=k) (K:=X.K) (F:=F2) ⟨g2,g3⟩).1 d hl;rw[ZiA hk' r2];exact⟨l,v,rfl,by rw[<-q1]; exact ZdK.k g1,kk v F2 H2 x2 ⟨[],.pl q2⟩⟩
 ·cases e2' with
  | @ot l _ vvs g1 g2 g3=>obtain⟨v,q1,q2⟩:=(Za6.look (k:=k) (K:=X.K) (F:=F2) ⟨g2,g3⟩).1 d hl;obtain⟨bb',rfl,hbb⟩:=ZdB hk' r2;exact⟨l,v,rfl,by rw[<-q1]; exact ZdK.t g1 (x2.sub _ _ hbb),kk v F2 H2 x2 ⟨[],.pl q2⟩⟩
 ·obtain⟨l,vvs,ls,rfl,_,g1,_,_,hlk⟩:=ZvY e2'
  obtain⟨l',vs,q1,_,q2,q3⟩:=(hlk k).1 ds hl;obtain⟨bb',rfl,hbb⟩:=ZdB hk' r2;exact⟨l,_,rfl,by rw[<-q1]; exact ZdK.t g1 (x2.sub _ _ hbb),kk _ F2 H2 x2 ⟨[l'],.ol q2 q3⟩⟩
end
end
section
variable[FX]
abbrev No:Value->Shared->Prop:=λ_ _=>False
abbrev Zrx(ifs:List Expr)(env:Env):Sem Bool :=
 forIn ifs ZGH λc r=>if r=ZGH then do let ok <-isTrue c env (eval c env); pure (ZE3 ok)else pure (ZE3 r)
theorem Zux{R:Result->Shared->Prop}{target:Expr}{it acc:Value}(J:Nat->Shared->Prop)
  (turn:∀n s,J n s->wpAny (model prog w) A (pyNext it) (λr s1=>match r with
   | none=>R (.ok .next) s1
   | some v=>wpAny (model prog w) A (ZEZ target it v) (λ_ s2=>wpAny (model prog w) A (assign target env v) (λ_ s3=>wpAny (model prog w) A (Zrx ifs env) (λok s4=>if ok=ZGH then wpAny (model prog w) A (eval elt env) (λx s5=>wpAny (model prog w) A (call (.builtin "list.append") [acc,x]) (λ_ s6=>∃m,m<n/\J m s6) No s5) No s4 else ∃m,m<n/\J m s4) No s3) No s2) No s1) No s)
  (n:Nat) (h:J n s):codeAny (model prog w) A (.compLoop (.ListComp elt [⟨target,iter,ifs,0⟩] scope pos) 0 it acc env) R s:=by
 refine codeAny_loop rfl J (λn s hI=>?_) n h;show wpAny _ A ((compTurn (.ListComp elt [⟨target,iter,ifs,0⟩] scope pos) 0 it acc env).onRaise (λx=>do noteFrame x env; theTreesLotGoes x)) _ _ s;refine wpAny_noted ?_;rw[compTurn_list];refine ZBa (wpAny_standAt (ZBa (ZCH (turn n s hI) (λr s1 h1=>?_) λ_ _ z=>z.elim)));cases r with
 | none=>exact ZBe h1
 | some v =>
  refine ZBa (ZCH h1 (λ_ s2 h2=>ZBa (ZCH h2 (λ_ s3 h3=>ZBa (ZCH h3 (λok s4 h4=>?_) λ_ _ z=>z.elim)) λ_ _ z=>z.elim)) λ_ _ z=>z.elim);cases ok with
  | false=>exact ZBe ⟨rfl,h4⟩
  | true=>refine ZBa (ZBa (ZCH h4 (λx s5 h5=>?_) λ_ _ z=>z.elim));exact ZBa (ZCH h5 (λ_ s6 h6=>ZBe (ZBe ⟨rfl,h6⟩)) λ_ _ z=>z.elim)
def ZY(X:Cx)(N:List Str)(scope:Scope)(cl:List (Str × Addr))(C:Addr)(s₀:Shared)(H₀:Hp)(ex:List Addr):Cx where
 prog:=X.prog
 w:=X.w
 K:=X.K
 mg:=X.mg
 base:=X.base
 A:=X.A
 N:=N
 s₀:=s₀
 H₀:=H₀
 env:=compEnvC scope cl C X.env
 outer:=X.stack
 stack:=X.stack
 ex:=ex
 fn:=λ_=>ZGI
 calm:=ZGH
 pn:=[]
 xe:=λ_ _=>False
theorem ZiG{env:Env}:∀(names:List (Str × NameKind)) (cs:List (Str × Addr)),(∀y∈names,y.2=.free->∃c,env.cells.lookup y.1=Z c)->(∀x c,cs.lookup x=Z c->env.cells.lookup x=Z c) ->
  ∃cl,(forIn names cs λ(x:Str × NameKind) r=>(match x with | (name,kind)=>if kind==.free then do let c <-cellOf env name; pure (ZE3 ((name,c)::r))else pure (ZE3 r):Sem (ForInStep (List (Str × Addr)))))=pure cl /\
   (∀x c,cl.lookup x=Z c->env.cells.lookup x=Z c)/\(∀x,(cs.lookup x).isSome=ZGH->(cl.lookup x).isSome=ZGH)/\∀y∈names,y.2=.free->(cl.lookup y.1).isSome=ZGH
 | [],cs,_,h2=>⟨cs,rfl,h2,λ_ h=>h,λy hy=>by simp at hy⟩
 | (n,k)::r,cs,h1,h2=>by
  rw[List.forIn_cons]
  by_cases hk:(k==ZDE)=ZGH
  ·obtain⟨c,hc⟩:=h1 (n,k) (ZBf ..) (by simpa using hk)
   have ec:cellOf env n=pure c:=by unfold cellOf; rw[hc]
   obtain⟨cl,e1,e2,e3,e4⟩:=ZiG r ((n,c)::cs) (λy hy=>h1 y (ZBi _ hy)) (λx d hx=>by
    rw[ZC7]at hx;split at hx
    ·rename_i hb
     have:x=n:=by simpa using hb
     cases hx; rw[this]; exact hc
    ·exact h2 x d hx)
   refine⟨cl,?_,e2,λx hx=>e3 x ?_,λy hy hf=>?_⟩
   ·simp only[hk,if_true,ec,pure_bind]
    exact e1
   ·rw[ZC7]
    split
    ·rfl
    ·exact hx
   ·rcases ZBq.mp hy with e | hy
    ·subst e
     exact e3 n (by rw[ZC7]; simp)
    ·exact e4 y hy hf
  ·obtain⟨cl,e1,e2,e3,e4⟩:=ZiG r cs (λy hy=>h1 y (ZBi _ hy)) h2
   refine⟨cl,?_,e2,e3,λy hy hf=>?_⟩
   ·simp only[hk,if_false,pure_bind,ZDc]
    exact e1
   ·rcases ZBq.mp hy with e | hy
    ·subst e
     exact absurd (by simpa using hf) hk
    ·exact e4 y hy hf
theorem Zf5(h:∀y∈scope.names,y.2=.free->∃c,env.cells.lookup y.1=Z c) :
  ∃cl,closureFor scope env=pure cl/\(∀x c,cl.lookup x=Z c->env.cells.lookup x=Z c)/\∀y∈scope.names,y.2=.free->(cl.lookup y.1).isSome=ZGH:=by
 obtain⟨cl,e1,e2,_,e4⟩:=ZiG (env:=env) scope.names [] h (λx c hx=>by simp at hx);refine⟨cl,?_,e2,e4⟩;unfold closureFor;exact(congrArg (λm:Sem (List (Str × Addr))=>m >>= λcs=>pure cs) e1).trans (pure_bind cl λcs=>pure cs)
theorem Ext.chg(x:Ext F H F' H')(o:HO)(h1:H p=Z_)(h2:F' p=Z_)(h3:∀u,H' p=Z u->Zm7 u=ZGH):Ext F H F' (upd H' p o) :=
 ⟨x.ff,λb q z=>by
  have hb:b≠p:=ZaA z h1;have y:=x.hh b q z;unfold Zdm at y ⊢;rw[ZA hb];exact y,λb q z=>by rw[ZA (ZaA z h2)]; exact x.sub b q z,x.new,λt=>(x.tab t).keep λa u z hu=>by
   have ha:a≠p:=λe=>by subst e; exact ZuA (h3 u z) hu
   rw[ZA ha]; exact z,x.nts⟩
theorem At.push{d:PyData}{v:V}(e:At K F0 H0 F H r σ)(q:Rep K F d v):At K F0 H0 F H (Z (.pl d)::r) (Z v::σ):=by
 obtain⟨fp,e⟩:=e;refine⟨λi=>match i with | 0=>[] | i+1=>fp i,e.ext,by rw[ZBy,ZBy,e.len],λi b h=>?_,λi h=>?_,λi a h=>?_,λi=>?_,λi j a hij h=>?_,e.tb,e.nt⟩
 ·cases i with
  | zero=>rw[ZDV]at h;cases h;exact⟨v,rfl,.pl q⟩
  | succ i=>rw[ZB0]at h;obtain⟨u,h1,h2⟩:=e.at_ i b h;exact⟨u,by rw[ZB0]; exact h1,h2⟩
 ·cases i with
  | zero=>rfl
  | succ i=>exact e.emp i λb z=>h b (by rw[ZB0]; exact z)
 ·cases i with
  | zero=>simp at h
  | succ i=>exact e.own i a h
 ·cases i with
  | zero=>exact ZDb
  | succ i=>exact e.nd i
 ·cases i with
  | zero=>simp at h
  | succ i =>
   cases j with
   | zero=>simp
   | succ j=>exact e.dis i j a (by omega) h
theorem At.chgNew(o:HO)(e:At K F0 H0 F H r σ)(es:At K F0 H0 Fs Hs r σ)(hs:ZaI Hs H)(h1:Hs p=Z_)(h2:F p=Z_)(h3:∀u,H p=Z u->Zm7 u=ZGH):At K F0 H0 F (upd H p o) r σ:=by
 obtain⟨fp,e⟩:=e;obtain⟨fq,es⟩:=es;have hp:∀i,¬p∈fp i:=λi hm=>by
  obtain⟨b,hb⟩:=e.bound hm;obtain⟨v,q1,q2⟩:=e.at_ i b hb;obtain⟨v',q3,q4⟩:=es.at_ i b hb;rw[q1]at q3;cases q3;generalize fp i=f1 at q2 hm;generalize fq i=f2 at q4;cases q2 with
  | pl _=>simp at hm
  | hd _ _ _ _=>simp at hm
  | hf _=>simp at hm
  | ol k _=>cases q4 with | ol k' _=>simp at hm; subst hm; rw[h1]at k'; cases k'
  | ok k _ _=>cases q4 with | ok k' _ _=>simp at hm; subst hm; rw[h1]at k'; cases k'
  | ot k _ _=>cases q4 with | ot k' _ _=>simp at hm; subst hm; rw[h1]at k'; cases k'
  | otl k _ v1 _ =>
   cases q4 with
   | otl k' hk' v2 r2' =>
    have eo:=hs.back k' k λ_ z=>by cases z
    cases eo;have v2':=v2;rw[v1]at v2;rcases ZBq.mp hm with z2 | z2
    ·subst z2; rw[h1]at k'; cases k'
    ·have:V.ref p∈ZFf V.ref _:=ZBh.mpr ⟨p,z2,rfl⟩
     rw[v2]at this;obtain⟨a',m1,m2⟩:=ZBh.mp this;injection m2 with m2
     subst m2;obtain⟨o,ho⟩:=Zam.there (Zam.otl k' hk' v2' r2') (ZBi _ m1);rw[h1]at ho; cases ho
 have hH0:H0 p=Z_:=es.ext.hh.free h1;refine⟨fp,e.ext.chg o hH0 h2 h3,e.len,λi b h=>?_,e.emp,e.own,e.nd,e.dis,e.tb,e.nt⟩;obtain⟨v,q1,q2⟩:=e.at_ i b h;refine⟨v,q1,q2.mono (Zq.refl F) λa ha o' z=>?_⟩;have hne:a≠p:=λe=>hp i (by rw[<-e]; exact ha);exact .of (by rw[ZA hne]; exact z)
end
section
variable[FX]
structure ZdT(X:Cx)(N:List Str)(scope:Scope)(fr:List Str):Prop where
 kind:scope.kind=.function
 cell:∀y∈scope.names,y.2≠.cell
 names:∀y∈scope.names,y.2=.local->scope.names.lookup y.1=Z .local
 loc:∀x∈fr,scope.names.lookup x=Z .local
 first:∀(i:Nat) (x:Str),fr[i]?=Z x->N[i]?=Z x
 nd:N.Nodup
 len:N.length=X.N.length+fr.length
 cap:∀y∈scope.names,y.2=.free->X.env.kindOf y.1=Z .cell\/X.env.kindOf y.1=Z .free
 same:∀(i:Nat) (y:Str),N[i+fr.length]?=Z y->scope.names.lookup y=Z .free->X.N[i]?=Z y
 vis:∀(i:Nat) (y:Str),N[i+fr.length]?=Z y->Vis scope y->scope.names.lookup y=Z .free
def goG(dec:PyData->Option (List PyData))(c:HM.TF)(e:HM.EF)(r:HM.Env):List PyData->Option (List PyData)
 | []=>Z []
 | x::xs=>match dec x with
  | some ys=>match c (ys.map (λd=>Z (HM.B.pl d))++r)with
   | some ZGH=>match e (ys.map (λd=>Z (HM.B.pl d))++r)with
    | some y=>(goG dec c e r xs).map (y::·)
    | none=>Z_
   | some ZGI=>goG dec c e r xs
   | none=>Z_
  | none=>Z_
def ZfO(dec:PyData->Option (List PyData))(i:HM.IF)(c:HM.TF)(e:HM.EF):HM.BF:=λr=>match i r with
 | some xs=>if xs.length<HM.big then(goG dec c e r xs).map λys=>HM.B.ol ys else Z_
 | none=>Z_
def ZjT(Y:Cx)(m:Nat)(tg:Expr)(dec:PyData->Option (List PyData)):Prop:=∀(pins:List (Addr × Obj)) (s:Shared) (σ:L2.St) (sv:List (Option V)) (H F:Hp) (d:PyData) (ys:List PyData) (xv:V) (u:Value),sv.length=m->Inv Y pins (sv++σ) H s->RelV xv u->Zq F H->Rep Y.K F d xv->dec d=Z ys ->
 wpAny (model Y.prog Y.w) Y.A (assign tg Y.env u) (λ_ s'=>∃vs:List V,vs.length=m/\Inv Y pins (vs.map Z++σ) H s'/\Zt Y.K F ys vs) Y.xe s
theorem At.pushes{K:ZBd}{F0 H0 F H:Hp}{r:HM.Env}{σ:L2.St}:∀{ds:List PyData} {vs:List V},At K F0 H0 F H r σ->Zt K F ds vs->At K F0 H0 F H (ds.map (λd=>Z (HM.B.pl d))++r) (vs.map Z++σ)
 | [],vs,e,q=>by rw[q.nil_inv];exact e
 | d::ds,vs,e,q=>by obtain⟨v,us,rfl,r1,r2⟩:=q.cons_inv;exact(At.pushes e r2).push r1
section
variable{X:Cx}{N:List Str}{scope:Scope}{fr:List Str}{cl:List (Str × Addr)}{C:Addr}
theorem ZbE{env:Env}{y:Str}{k:NameKind}:∀{names:List (Str × NameKind)},(names.map λ(n,k)=>if(k==ZDE&&env.scope.kind==.function&&env.kindOf n==Z .cell)then(n,NameKind.cell)else(n,k)).lookup y=Z k ->
  names.lookup y=Z k\/(k=.cell/\names.lookup y=Z .free)
 | [],h=>by simp at h
 | (n,k')::r,h=>by
  have ih:=@ZbE env y k r;rw[ZBn]at h;dsimp only at h
  by_cases hc:(k'==ZDE&&env.scope.kind==.function&&env.kindOf n==Z .cell)=ZGH
  ·rw[if_pos hc,ZC7]at h
   rw[ZC7];split at h
   ·cases h
    refine .inr ⟨rfl,?_⟩;have:(k'==ZDE)=ZGH:=by rw[ZBx,ZBx]at hc;exact hc.1.1
    rw[show k'=ZDE by simpa using this]
   ·exact ih h
  ·rw[if_neg hc,ZC7]at h
   rw[ZC7];split at h
   ·cases h
    exact .inl rfl
   ·exact ih h
theorem lookup_mem{y:Str}{k:NameKind}:∀{names:List (Str × NameKind)},names.lookup y=Z k->(y,k)∈names
 | [],h=>by simp at h
 | (n,k')::r,h=>by
  rw[ZC7]at h;split at h
  ·cases h
   rename_i hb;rw[show y=n by simpa using hb];exact ZBf ..
  ·exact ZBi _ (lookup_mem h)
theorem ZxK(T:ZdT X N scope fr)(hcl:∀y c,cl.lookup y=Z c->X.env.cells.lookup y=Z c)(hfr:∀y∈scope.names,y.2=.free->(cl.lookup y.1).isSome=ZGH)
  (I:Inv X pins σ H s) (hc:X.calm=ZGH) (hf:∀b∈fp,Zf1 X pins H b) (hfl:∀b∈fp,b<s.heap.objs.size) (hC:s.heap.objs.size<=C):(ZY X N scope cl C s H fp).Ok:=by
 refine⟨I.ok.mod,T.kind,I.ok.glob,I.ok.blt,hC,λy z c h1 h2=>I.ok.inj y z c (hcl y c h1) (hcl z c h2),λy h=>?_,λy c h=>?_,λ_=>I.ok.hd hc,I.ok.frames,.inl rfl,λb hb=>⟨?_,λy c h=>?_⟩,λb o h=>I.bs b o h,
  ZCh I.ok.bsz I.sz,λb o h hb=>?_,λb hb hs=>?_,I.stack,I.stkFree⟩
 ·have h':(relabel scope X.env).names.lookup y=Z .cell\/(relabel scope X.env).names.lookup y=Z .free:=h
  have hm:(y,ZDE)∈scope.names:=by
   rcases h' with h' | h'
   ·rcases ZbE h' with q | ⟨_,q⟩
    ·exact absurd rfl (T.cell _ (lookup_mem q))
    ·exact lookup_mem q
   ·rcases ZbE h' with q | ⟨e,_⟩
    ·exact lookup_mem q
    ·cases e
  exact ZBM.mp (hfr _ hm rfl)
 ·exact absurd h (by show ¬ZGI=ZGH; simp)
 ·exact ZBA (ZBK (hfl b hb) hC)
 ·obtain⟨_,_,_,_,q,_⟩:=hf b hb
  exact q y c (hcl y c h)
 ·obtain⟨_,_,_,q,_⟩:=hf b hb
  rcases q with q | q
  ·exact I.ok.noex b o h q
  ·exact absurd (ZBK (ZBt h) (ZCh I.ok.bsz q)) (ZC1 _)
 ·obtain⟨_,q1,q2,_⟩:=hf b hb
  rcases ZBq.mp (I.stkSub b hs)with z | z
  ·exact q1 z
  ·exact q2 z
theorem Zpk{D:Addr}{h1:Heap}{tk:Nat}(T:ZdT X N scope fr)(hcl:∀y c,cl.lookup y=Z c->X.env.cells.lookup y=Z c)(hfr:∀y∈scope.names,y.2=.free->(cl.lookup y.1).isSome=ZGH)
  (I:Inv X pins σ H s) (hc:X.calm=ZGH) (hf:∀b∈fp,Zf1 X pins H b) (hfl:∀b∈fp,b<s.heap.objs.size) (hD:s.heap.objs.size=D) (hC:D<C) (ns:h1.Ns C (λ_=>Z_)) (hl:h1.get? D=Z { cls:=.type "list",data:=.seq #[] 0 })
  (k:∀b o,s.heap.get? b=Z o->h1.get? b=Z o):Inv (ZY X N scope cl C s H fp) [] (ZBR fr.length Z_++σ) (upd H D (.lst [])) { s with heap:=h1,toks:=tk }:=by
 have hn:H D=Z_:=I.hok.fresh (ZE4 hD);have hDC:s.heap.objs.size<=C:=ZCh (ZE4 hD) (ZDh hC);have hCn:H C=Z_:=I.hok.fresh hDC;refine⟨ZxK T hcl hfr I hc hf hfl hDC,rfl,I.bare,Un.laid k (ZE4 hD) hn,⟨_,ns,λi y v e1 e2 e3=>?_⟩,λy c h=>?_,?_,λy c h=>?_,λp hp=>absurd (show p∈([]:List (Addr × Obj)) from hp) (by simp),I.hok.laid k (ZE4 hD) ⟨ZCC _,[],0,.nil,hl⟩,?_⟩
 ·have hge:fr.length<=i:=by
   apply ZDr;intro hlt;rw[ZBX (by rw[ZB8]; exact hlt),ZDU,if_pos hlt]at e2;cases e2
  rw[ZBQ (by rw[ZB8]; exact hge),ZB8]at e2;obtain⟨j,rfl⟩:∃j,i=j+fr.length:=⟨i-fr.length,by omega⟩;rw[Nat.add_sub_cancel]at e2
  ·have e3':Vis scope y:=by
    have e3:Vis (relabel scope X.env) y:=e3;rcases e3 with q | q | q
    ·rcases ZbE q with q | ⟨z,_⟩
     ·exact .inl q
     ·cases z
    ·rcases ZbE q with q | ⟨_,q⟩
     ·exact .inr (.inl q)
     ·exact .inr (.inr q)
    ·rcases ZbE q with q | ⟨z,_⟩
     ·exact .inr (.inr q)
     ·cases z
   have hfree:=T.vis j y e1 e3';have hm:=lookup_mem hfree;have hN:=T.same j y e1 hfree;have hcap:=T.cap _ hm rfl;obtain⟨m,_,hl⟩:=I.loc;obtain⟨u,ru,lu⟩:=hl j y v hN e2 (by
    rcases hcap with q | q
    ·exact .inr (.inl q)
    ·exact .inr (.inr q))
   refine⟨u,ru,?_⟩;obtain⟨c,hcc⟩:=ZBM.mp (hfr _ hm rfl);rcases lu with⟨q,_⟩ | ⟨_,c',e,z⟩
   ·rcases hcap with q' | q'<;>(rw[q']at q; cases q)
   ·refine .inr ⟨?_,c,hcc,?_⟩
    ·rcases e3 with q | q | q
     ·have q:(relabel scope X.env).names.lookup y=Z .local:=q
      rcases ZbE q with q | ⟨z,_⟩
      ·rw[hfree]at q; cases q
      ·cases z
     ·exact .inl q
     ·exact .inr q
    ·rw[hcl y c hcc]at e
     cases e;obtain⟨o,ho,hd⟩:=z;exact⟨o,k _ _ ho,hd⟩
 ·obtain⟨v,o,ho,hd⟩:=I.cell y c (hcl y c h)
  exact⟨v,o,k _ _ ho,hd⟩
 ·show upd H D (.lst []) C=Z_
  rw[ZA (ZEo hC)];exact hCn
 ·have hq:=I.freeC y c (hcl y c h)
  obtain⟨v,o,ho,_⟩:=I.cell y c (hcl y c h);have:c≠D:=ZBA (by rw[<-hD]; exact ZBt ho);rw[ZA this];exact hq
 ·show(ZBR fr.length Z_++σ).length=N.length
  rw[ZBv,ZB8,I.len,T.len,Nat.add_comm]
def XTs(Y:Cx)(ifs:List Expr)(f:HM.TF):Prop:=∀r c,f r=Z c->∀(pins:List (Addr × Obj)) (s:Shared) (σ:L2.St) (H:Hp) (Q:Bool->Hp->Prop),Inv Y pins σ H s->(Now Y.K r σ H λF0 H0 F=>∀F' H',Ext F H F' H'->Q c H') ->
 wpAny (model Y.prog Y.w) Y.A (Zrx ifs Y.env) (TP Y pins σ Q) Y.xe s
theorem ZaW:XTs Y [] HM.ZW:=by intro r c h pins s σ H Q I ⟨F0,H0,F,at_,k⟩;cases h;exact wpAny_tests_nil ⟨H,I,k F H at_.refl⟩
theorem Zey{e:Expr}{f:HM.TF}(h:XT Y e f):XTs Y [e] f:=λr c hc pins s σ H Q I q=>wpAny_tests_one (h r c hc pins s σ H Q I q)
def ItE(K:ZBd)(J:It)(ds:List PyData)(F:Hp):Prop:=∀F' H,Zq F F'->Zq F' H ->
 (∀(i:Nat) (d:PyData),ds[i]?=Z d->J.go i H/\∀x H',J.yld i H x H'->∃F2,Ext (ZbX F' H) H F2 H'/\Rep K F2 d x)/\J.stop ds.length H
theorem ItD.e{K:ZBd}{J:It}{ds:List PyData}{F:Hp}(h:ItD K J ds F):ItE K J ds F:=λF' H s1 s2=>by obtain⟨a,b⟩:=h F' H s1 s2;refine⟨λi d hd=>⟨(a i d hd).1,λx H' hy=>?_⟩,b⟩;obtain⟨e,r⟩:=(a i d hd).2 x H' hy;subst e;exact⟨_,.refl (Ext.refl s2).tups.sub,r⟩
def XIE(X:Cx)(tg e:Expr)(f:HM.IF):Prop:=∀r ds,f r=Z ds->PI X tg e λσ H R=>Now X.K r σ H λF0 H0 F=>∀J F' H',Ext F H F' H'->ItE X.K J ds F'->R J H'
theorem XI.e{X:Cx}{tg e:Expr}{f:HM.IF}(h:XI X tg e f):XIE X tg e f:=λr ds hr pins s σ H R I ⟨F0,H0,F,at_,k⟩=>h r ds hr pins s σ H R I ⟨F0,H0,F,at_,λJ F' H' x q=>k J F' H' x q.e⟩
theorem Zpy{it D:Addr}{tn:Nat->Heap->Prop}{J:It}{tg:Expr}{dec:PyData->Option (List PyData)}{fc:HM.TF}{fe:HM.EF}{s4:Shared}{out:List PyData}
  {R:Result->Shared->Prop} (T:ZdT X N scope fr) (I2:Inv X pins σ H1 s2) (W:Turn X.prog X.w X.K tg J fp it tn) (hf:∀b∈fp,Zf1 X pins H1 b)
  (I4:Inv (ZY X N scope cl C s2 H1 fp) [] (ZBR fr.length Z_++σ) (upd H1 D (.lst [])) s4) (tn0:tn 0 s4.heap) (hD:s2.heap.objs.size<=D) (hfl:∀b∈fp,b<s2.heap.objs.size) (hbl:X.calm=ZGH)
  (hc:XTs (ZY X N scope cl C s2 H1 fp) ifs fc) (he:XE (ZY X N scope cl C s2 H1 fp) elt fe) (at_:At X.K F0 H0 Fs Hs r σ) (x1:Ext Fs Hs F1 H1) (itd:ItE X.K J ds F1) (hbind:ZjT (ZY X N scope cl C s2 H1 fp) fr.length tg dec) (hbig:ds.length<HM.big) (go:goG dec fc fe r ds=Z out)
  (hR:∀s',(∃F H vs,Inv (ZY X N scope cl C s2 H1 fp) [] (ZBR fr.length Z_++σ) H s'/\Ext Fs Hs F H/\H D=Z (.lst vs)/\F D=Z_/\Zt X.K F out vs)->R (.ok .next) s') :
  codeAny (model X.prog X.w) X.A (.compLoop (.ListComp elt [⟨tg,iter,ifs,0⟩] scope pos) 0 (.ref it) (.ref D) (compEnvC scope cl C X.env)) R s4:=by
 have hH1D:H1 D=Z_:=I2.hok.fresh hD;have hHsD:Hs D=Z_:=x1.hh.free hH1D;have hF1D:F1 D=Z_:=x1.sub.free hH1D;have hfpD:∀b∈fp,b≠D:=λb hb=>ZBA (ZBK (hfl b hb) hD);have okY:=I4.ok;have stat:∀{H:Hp},(∀b∈fp,H b=Z_)->∀b∈fp,Zf1 (ZY X N scope cl C s2 H1 fp) [] H b:=λhn b hb=>⟨hn b hb,(okY.exf b hb).1,okY.exfs b hb,.inl hb,(okY.exf b hb).2,λp hp=>absurd (show p∈([]:List (Addr × Obj)) from hp) (by simp)⟩;refine Zux (λn s'=>∃(j:Nat) (sv:List (Option V)) (F H:Hp) (ys:List PyData) (vs:List V) (rest:List PyData),sv.length=fr.length/\Inv (ZY X N scope cl C s2 H1 fp) [] (sv++σ) H s'/\tn j s'.heap/\(∀b∈fp,H b=Z_)/\Ext Fs Hs F H/\Zq F1 F/\At X.K F0 H0 F H r σ /\
  H D=Z (.lst vs)/\F D=Z_/\Zt X.K F ys vs/\j+n=ds.length/\ys.length<=j/\goG dec fc fe r (ds.drop j)=Z rest/\out=ys++rest) ?_ ds.length
  ⟨0,ZBR fr.length Z_,F1,_,[],[],out,ZB8,I4,tn0,λb hb=>by rw[ZA (hfpD b hb)]; exact(hf b hb).1,x1.lay' hH1D,Zq.refl _,(at_.grow x1).grow ((at_.grow x1).refl.lay' hH1D),ZE,hF1D,.nil,by omega,ZBl _,go,rfl⟩
 rintro n s5 ⟨j,sv,F,H,ys,vs,rest,hsv,I5,tn5,hfp5,x5,sF,at5,hHD,hFD,rys,hjn,hyl,hgo,hout⟩
 obtain⟨it1,it2⟩:=itd F H sF at5.sub;cases n with
 | zero =>
  have ej:j=ds.length:=by omega
  subst ej;rw[List.drop_length]at hgo;cases hgo;rw[ZBW]at hout;subst hout;refine thn (W.done (ZY X N scope cl C s2 H1 fp) rfl rfl rfl rfl _ [] s5 _ H No I5 (stat hfp5) tn5 it2) λrv s6 ⟨e,I6⟩=>?_;subst e;refine hR s6 ⟨F,H,vs,I6.weak (by rw[ZBv,ZBv,ZB8,hsv]) λi v hv=>?_,x5,hHD,hFD,rys⟩
  by_cases hi:i<fr.length
  ·rw[ZBX (by rw[ZB8]; exact hi),ZDU,if_pos hi]at hv
   cases hv
  ·rw[ZBQ (by rw[ZB8]; omega),ZB8]at hv
   rw[ZBQ (by omega),hsv];exact hv
 | succ n =>
  have hlt:j<ds.length:=by omega
  obtain⟨jg,jy⟩:=it1 j ds[j] (ZBu hlt);obtain⟨F2,x5,sF,at5,hFD,rys,jy⟩:∃F2,Ext Fs Hs F2 H/\Zq F1 F2/\At X.K F0 H0 F2 H r σ/\F2 D=Z_/\Zt X.K F2 ys vs/\∀x H',J.yld j H x H'->∃F3,Ext F2 H F3 H'/\Rep X.K F3 ds[j] x :=
   ⟨ZbX F H,x5.tups,sF.trans (Zdb at5.sub),at5.grow at5.refl.tups,by unfold ZbX; rw[hHD]; exact hFD,rys.mono (Zdb at5.sub),jy⟩
  clear it1 it2
  rw[ZFL hlt]at hgo;refine thn (W.item (ZY X N scope cl C s2 H1 fp) rfl rfl rfl rfl j [] s5 _ H No I5 (stat hfp5) tn5 jg) λrv s6 ⟨u,e,h6⟩=>?_;subst e;refine thn h6 λ_ s7 ⟨xv,H7,I7,r7,y7,tn7,fr7⟩=>?_;obtain⟨F7,x7,rx⟩:=jy xv H7 y7;obtain⟨F2,x5,sF,at5,hHD,hFD,rys,rx⟩:∃F2,Ext Fs Hs F2 H7/\Zq F1 F2/\At X.K F0 H0 F2 H7 r σ/\H7 D=Z (.lst vs)/\F2 D=Z_/\Zt X.K F2 ys vs/\Rep X.K F2 ds[j] xv:=by
   refine⟨F7,x5.trans x7,sF.trans x7.ff,at5.grow x7,x7.hh _ _ hHD,?_,rys.mono x7.ff,rx⟩;cases q:F7 D with
   | none=>rfl
   | some o =>
    rcases x7.new D o q with z | z
    ·rw[hFD]at z; cases z
    ·exact(z.no hHD λ_ q=>by cases q).elim
  have I7':=I7.pinned (stat fr7) (W.obj _ _ tn7);unfold goG at hgo;split at hgo
  case h_2=>cases hgo
  rename_i zs hzs;have dok:=hbind _ s7 σ sv H7 F2 ds[j] zs xv u hsv I7' r7 at5.sub rx hzs;refine thn dok λ_ s8 ⟨ws,hws,I8,rws⟩=>?_;have atp:=at5.pushes rws;have again:∀{s9:Shared} {F9 H9:Hp} {zs9:List PyData} {ws9:List V} {rest':List PyData},Inv (ZY X N scope cl C s2 H1 fp) ([]++ZjU fp s7.heap) (ws.map Z++σ) H9 s9->Ext Fs Hs F9 H9->Zq F2 F9->At X.K F0 H0 F9 H9 r σ->H9 D=Z (.lst ws9)->F9 D=Z_->Zt X.K F9 zs9 ws9->zs9.length<=j+1->goG dec fc fe r (ds.drop (j+1))=Z rest'->out=zs9++rest' ->
    ∃m,m<n+1/\∃(j:Nat) (sv:List (Option V)) (F2 H:Hp) (ys:List PyData) (vs:List V) (rest:List PyData),sv.length=fr.length/\Inv (ZY X N scope cl C s2 H1 fp) [] (sv++σ) H s9/\tn j s9.heap/\(∀b∈fp,H b=Z_)/\Ext Fs Hs F2 H/\Zq F1 F2/\At X.K F0 H0 F2 H r σ /\
     H D=Z (.lst vs)/\F2 D=Z_/\Zt X.K F2 ys vs/\j+m=ds.length/\ys.length<=j/\goG dec fc fe r (ds.drop j)=Z rest/\out=ys++rest:=by
   intro s9 F9 H9 zs9 ws9 rest' I9 x9 s9F a9 h9 f9 r9 l9 g9 o9;refine⟨n,ZDs n,j+1,ws.map Z,F9,H9,zs9,ws9,rest',by rw[ZBb]; exact hws,I9.unpinned,W.keep _ _ _ tn7 λb hb o e=>(I9.pin (b,o) (ZBE _ (ZBE _ (Zgm hb e)))).1,λb hb=>?_,x9,sF.trans s9F,a9,h9,f9,r9,by omega,l9,g9,o9⟩;obtain⟨o,e,d⟩:=W.obj _ _ tn7 b hb;exact(I9.pin (b,o) (ZBE _ (ZBE _ (Zgm hb e)))).2.1
  have noD:∀{F' H':Hp},Ext F2 H7 F' H'->F' D=Z_:=λ{F' H'} y=>by
   cases q:F' D with
   | none=>rfl
   | some o =>
    rcases y.new D o q with z | z
    ·rw[hFD]at z; cases z
    ·exact(z.no hHD λ_ q=>by cases q).elim
  split at hgo
  ·rename_i hcv
   split at hgo
   ·rename_i y hy
    obtain⟨rest',g1,g2⟩:=ZBc.mp hgo;subst g2;refine thn (hc _ _ hcv _ s8 _ H7 (λc' H'=>c'=ZGH/\∃F',Ext F2 H7 F' H') I8 ⟨F0,H0,F2,atp,λF' H' y=>⟨rfl,F',y⟩⟩) λok s9 ⟨H9,I9,eok,F9,x9⟩=>?_;subst eok;rw[if_pos rfl];refine thn (he _ _ hy _ s9 _ H9 (λv' H'=>∃F',Ext F9 H9 F' H'/\Rep X.K F' y v') I9 ⟨F0,H0,F9,atp.grow x9,λv' F' H' x q=>⟨F',x,q⟩⟩) λu' s10 ⟨v',H10,I10,r10,F10,x10,q10⟩=>?_;have x910:=x9.trans x10;have hHD':H10 D=Z (.lst vs):=x910.hh _ _ hHD;have hFD':=noD x910;refine thn (Zke (X:=ZY X N scope cl C s2 H1 fp) _ s10 _ H10 (.ref D) [v'] (.ref D) [u'] (λ_ H'=>H'=upd H10 D (.lst (vs++[v']))) I10 rfl (.cons r10 .nil) ⟨D,vs,v',rfl,rfl,hHD',?_,rfl⟩) λ_ s11 ⟨_,H11,I11,_,e11⟩=>?_
    ·have:=rys.1
     exact Zib (by omega)
    subst e11;refine again (zs9:=ys++[y]) I11 ((x5.trans x910).chg _ hHsD hFD' λu z=>by rw[hHD']at z; cases z; rfl) x910.ff ((at5.grow x910).chgNew _ at_ (x5.trans x910).hh hHsD hFD' λu z=>by rw[hHD']at z; cases z; rfl) ZE hFD' ((rys.mono x910.ff).append (.one q10)) (by rw[ZBv]; show ys.length+1<=j+1; omega) g1 (by rw[hout,ZC3]; rfl)
   ·cases hgo
  ·rename_i hcv
   refine thn (hc _ _ hcv _ s8 _ H7 (λc' H'=>c'=ZGI/\∃F',Ext F2 H7 F' H') I8 ⟨F0,H0,F2,atp,λF' H' y=>⟨rfl,F',y⟩⟩) λok s9 ⟨H9,I9,eok,F9,x9⟩=>?_;subst eok;rw[if_neg (by simp)];exact again (zs9:=ys) I9 (x5.trans x9) x9.ff (at5.grow x9) (x9.hh _ _ hHD) (noD x9) (rys.mono x9.ff) (by omega) hgo hout
  ·cases hgo
theorem ZpA{s':Shared}{sv:List (Option V)}{h':Heap}(I2:Inv X pins σ H1 s2)(hf:∀b∈fp,Zf1 X pins H1 b)(hC:s2.heap.objs.size<=C)
  (I:Inv (ZY X N scope cl C s2 H1 fp) [] (sv++σ) H s') (hs:ZC5 C s'.heap h'):Inv X pins σ H { s' with heap:=h' }:=by
 have u:Un (frs X.stack) fp H1 H s2.heap s'.heap:=I.base;have hCn:H C=Z_:=I.free;have ne:∀b o,s2.heap.get? b=Z o->b≠C:=λb o e=>ZBA (ZBK (ZBt e) hC);refine I2.call' (s':={ s' with heap:=h' }) (ch:=fp) I.os ⟨λb o e n hb hx=>(hs.2 b (ne b o e)).trans (u.keep b o e n hb hx),λb o e n hb hx=>?_,u.free,λb o e hx=>?_,u.tups,u.frzs,u.tbls⟩ (λb o e=>?_) I.bare λb hb=>?_
 ·obtain⟨sl,q⟩:=u.slot b o e n hb hx
  exact⟨sl,(hs.2 b (ne b o e)).trans q⟩
 ·obtain⟨o',q⟩:=u.there b o e hx
  exact⟨o',(hs.2 b (ne b o e)).trans q⟩
 ·refine(I.hok b o e).stay (λc w' hc q=>(hs.2 c ?_).trans q) (λ_ q=>q) λ_ _ q=>q
  rintro rfl
  rcases hc with rfl | hc
  ·rw[hCn]at e; cases e
  ·rw[hCn]at hc; cases hc
 ·obtain⟨q0,q1,q2,q3,q4,q5⟩:=hf b hb
  exact⟨q3,q1,q4,q5⟩
variable{elt iter:Expr}{ifs:List Expr}{tg:Expr}{pos:Pos}{fi:HM.IF}{dec:PyData->Option (List PyData)}{fc:HM.TF}{fe:HM.EF}
theorem Zqb(T:ZdT X N scope fr)(I:Inv X pins σ H s):∀y∈scope.names,y.2=.free->∃c,X.env.cells.lookup y.1=Z c:=λy hy e=>I.ok.has y.1 (T.cap y hy e)
theorem Zoq(hxe:X.xe=λ_ _=>False)(hcalm:X.calm=ZGH)(T:ZdT X N scope fr)(hbind:∀cl C s H ex,ZjT (ZY X N scope cl C s H ex) fr.length tg dec)(hi:XIE X tg iter fi)(hc:∀cl C s H ex,XTs (ZY X N scope cl C s H ex) ifs fc)(he:∀cl C s H ex,XE (ZY X N scope cl C s H ex) elt fe)
  (hs:∀x,ZC2 iter X.env x=pure x:=by intro _; rfl):XF X (.ListComp elt [⟨tg,iter,ifs,0⟩] scope pos) (ZfO dec fi fc fe):=by
 intro r b h;unfold ZfO at h;split at h
 ·rename_i ds hds
  split at h
  ·rename_i hbig
   obtain⟨out,hgo,e⟩:=ZBc.mp h;subst e;intro pins s σ H Q I ⟨F0,H0,F,at_,k⟩;obtain⟨cl,hclos,hcl,hfr⟩:=Zf5 (Zqb T I);rw[eval_ListComp];refine wpAny_comprehension_free (use:=Z_) rfl hs hclos T.kind T.names (thn (hi r ds hds pins s σ H (λJ H'=>∃F',Ext F H F' H'/\ItE X.K J ds F') I ⟨F0,H0,F,at_,λJ F' H' x q=>⟨F',x,q⟩⟩) λv s1 h1=>thn h1 λitv s2 h2=>?_);obtain⟨it,fp,tn,J,H1,rfl,I2,W,st2,f2,F1,x1,itd⟩:=h2;have hfl:∀b∈fp,b<s2.heap.objs.size:=λb hb=>let ⟨o,ho,_⟩:=W.obj 0 _ st2 b hb; ZBt ho
   refine ZBV (ZE5 T.cell (by intro y hy; simp at hy) (λh1 hns hsb=>?_) T.kind);dsimp only at hns hsb ⊢;generalize hP:s2.heap.push { cls:=.type "list",dict:=Z_,data:=.seq ([]:List Value).toArray }=h0 at hns hsb ⊢;have hsz:h0.objs.size=s2.heap.objs.size+1:=by rw[<-hP,ZDd]
   have hDC:s2.heap.objs.size<h0.objs.size:=by rw[hsz]; exact ZDs _
   have old:∀b o,s2.heap.get? b=Z o->h1.get? b=Z o:=λb o e=>hsb.extBut b o (ZBA (ZDl (ZBt e) hDC)) (ZBg _ (by rw[<-hP]; exact ZBg _ e));have hl:h1.get? s2.heap.objs.size=Z { cls:=.type "list",data:=.seq #[] 0 }:=hsb.extBut _ _ (ZBA hDC) (ZBg _ (by rw[<-hP]; exact ZBw _ rfl));have I4:Inv (ZY X N scope cl h0.objs.size s2 H1 fp) [] (ZBR fr.length Z_++σ) (upd H1 s2.heap.objs.size (.lst [])) { s2 with heap:=h1,toks:=s2.toks+([]:List (Str × Value)).length }:=Zpk T hcl hfr I2 hcalm f2 hfl rfl hDC hns hl old;have tn1:tn 0 h1:=W.keep _ _ _ st2 λb _ o e=>old b o e;have hHsD:H s2.heap.objs.size=Z_:=x1.hh.free (I2.hok.fresh (ZBl _));have loop:codeAny (model X.prog X.w) X.A (.compLoop (.ListComp elt [⟨tg,iter,ifs,0⟩] scope pos) 0 (.ref it) (.ref s2.heap.objs.size) (compEnvC scope cl h0.objs.size X.env)) (compPost (model X.prog X.w) X.A X.xe Z_ (EP X pins σ Q) (.ref s2.heap.objs.size) h0.objs.size)
     { s2 with heap:=h1,toks:=s2.toks+([]:List (Str × Value)).length }:=by
    refine Zpy T I2 W f2 I4 tn1 (ZBl _) hfl hcalm (hc _ _ _ _ _) (he _ _ _ _ _) at_ x1 itd (hbind _ _ _ _ _) hbig hgo λs' ⟨F',H',vs,I',x',hD',hFD',rs⟩=>?_;obtain⟨m,hn,_⟩:=id I'.loc;refine⟨m,hn,λh2 hs2=>⟨.ref s2.heap.objs.size,H',ZpA I2 f2 (ZDh hDC) I' hs2,rfl,k _ F' H' x' ⟨[s2.heap.objs.size],.ol hD' rs,by simp,λa ha=>?_⟩⟩⟩;obtain rfl:a=s2.heap.objs.size:=by simpa using ha
    exact⟨hFD',hHsD⟩
   exact codeAny_compStart_list loop (W.self _ 0 _ _ _ tn1 loop)
  ·cases h
 ·cases h
theorem ZkN(i:Nat)(hN:X.N.Nodup)(hxe:X.xe=λ_ _=>False)(hcalm:X.calm=ZGH)(T:ZdT X N scope fr)(hbind:∀cl C s H ex,ZjT (ZY X N scope cl C s H ex) fr.length tg dec)(hi:XIE X tg iter fi)(hc:∀cl C s H ex,XTs (ZY X N scope cl C s H ex) ifs fc)(he:∀cl C s H ex,XE (ZY X N scope cl C s H ex) elt fe)
  (hiy:X.N[i]?=Z y:=by rfl) (hy:X.env.scope.names.lookup y=Z .local:=by rfl) (hsw:ZDM (.ListComp elt [⟨tg,iter,ifs,0⟩] scope pos) (Z (.Name y py)) spos.line X.env=pure ZGH:=by rfl)
  (hs:∀x,ZC2 iter X.env x=pure x:=by intro _; rfl):XS X (.Assign [.Name y py] (.ListComp elt [⟨tg,iter,ifs,0⟩] scope pos) spos) (HM.Z8 i (ZfO dec fi fc fe)):=by
 intro r o h;obtain⟨b,hb,e⟩:=ZBc.mp h;subst e;unfold ZfO at hb;split at hb
 ·rename_i ds hds
  split at hb
  ·rename_i hbig
   obtain⟨out,hgo,e⟩:=ZBc.mp hb;subst e;intro pins s σ H E I ⟨F0,H0,F,at_,k⟩;obtain⟨cl,hclos,hcl,hfr⟩:=Zf5 (Zqb T I);rw[exec_Assign_Name_used _ _ _ _ hsw];refine ZBa (wpAny_standAt (ZBa ?_));show wpAny _ X.A (do let _ <-comprehension (.ListComp elt [⟨tg,iter,ifs,0⟩] scope pos) scope X.env _ (newList []) ZGI (eval iter X.env) (Z (assign (.Name y py) X.env))) _ _ s;refine ZBa (ZCH (wpAny_comprehension_free (use:=Z (assign (.Name y py) X.env)) (Q:=λ_ s'=>SP X pins E .next s') rfl hs hclos T.kind T.names (thn (hi r ds hds pins s σ H (λJ H'=>∃F',Ext F H F' H'/\ItE X.K J ds F') I ⟨F0,H0,F,at_,λJ F' H' x q=>⟨F',x,q⟩⟩) λv s1 h1=>thn h1 λitv s2 h2=>?_)) (λ_ s' hq=>ZBe (ZBe hq)) λ_ _ e=>e)
   obtain⟨it,fp,tn,J,H1,rfl,I2,W,st2,f2,F1,x1,itd⟩:=h2;have hfl:∀b∈fp,b<s2.heap.objs.size:=λb hb=>let ⟨o,ho,_⟩:=W.obj 0 _ st2 b hb; ZBt ho
   refine ZBV (ZE5 T.cell (by intro y hy; simp at hy) (λh1 hns hsb=>?_) T.kind);dsimp only at hns hsb ⊢;generalize hP:s2.heap.push { cls:=.type "list",dict:=Z_,data:=.seq ([]:List Value).toArray }=h0 at hns hsb ⊢;have hsz:h0.objs.size=s2.heap.objs.size+1:=by rw[<-hP,ZDd]
   have hDC:s2.heap.objs.size<h0.objs.size:=by rw[hsz]; exact ZDs _
   have old:∀b o,s2.heap.get? b=Z o->h1.get? b=Z o:=λb o e=>hsb.extBut b o (ZBA (ZDl (ZBt e) hDC)) (ZBg _ (by rw[<-hP]; exact ZBg _ e));have hl:h1.get? s2.heap.objs.size=Z { cls:=.type "list",data:=.seq #[] 0 }:=hsb.extBut _ _ (ZBA hDC) (ZBg _ (by rw[<-hP]; exact ZBw _ rfl));have I4:Inv (ZY X N scope cl h0.objs.size s2 H1 fp) [] (ZBR fr.length Z_++σ) (upd H1 s2.heap.objs.size (.lst [])) { s2 with heap:=h1,toks:=s2.toks+([]:List (Str × Value)).length }:=Zpk T hcl hfr I2 hcalm f2 hfl rfl hDC hns hl old;have tn1:tn 0 h1:=W.keep _ _ _ st2 λb _ o e=>old b o e;have hHsD:H s2.heap.objs.size=Z_:=x1.hh.free (I2.hok.fresh (ZBl _));have loop:codeAny (model X.prog X.w) X.A (.compLoop (.ListComp elt [⟨tg,iter,ifs,0⟩] scope pos) 0 (.ref it) (.ref s2.heap.objs.size) (compEnvC scope cl h0.objs.size X.env)) (compPost (model X.prog X.w) X.A X.xe (Z (assign (.Name y py) X.env)) (λ_ s'=>SP X pins E .next s') (.ref s2.heap.objs.size) h0.objs.size)
     { s2 with heap:=h1,toks:=s2.toks+([]:List (Str × Value)).length }:=by
    refine Zpy T I2 W f2 I4 tn1 (ZBl _) hfl hcalm (hc _ _ _ _ _) (he _ _ _ _ _) at_ x1 itd (hbind _ _ _ _ _) hbig hgo λs' ⟨F',H',vs,I',x',hD',hFD',rs⟩=>?_;obtain⟨m,hn,_⟩:=id I'.loc;have IX:Inv X pins σ H' s':=ZpA (h':=s'.heap) I2 f2 (ZDh hDC) I' (ZGG _ _);have hCn:H' h0.objs.size=Z_:=I'.free;have neL:h0.objs.size≠X.env.locals:=ZEo (ZDl I2.lt hDC);have neC:∀z c,X.env.cells.lookup z=Z c->c≠h0.objs.size:=λz c hz=>by obtain⟨v,o,ho,_⟩:=I2.cell z c hz;exact ZBA (ZDl (ZBt ho) hDC)
    have neP:∀p∈X.pn++pins,p.1≠h0.objs.size:=λp hp=>ZBA (ZDl (ZBt (I2.pin p hp).1) hDC);show wpAny _ X.A (assign (.Name y py) X.env (.ref s2.heap.objs.size)) _ _ _;refine wpAny_assign_Name (Znm IX hN hiy (.inl hy) (v:=.ref s2.heap.objs.size) rfl (λs3 I3 hsa=>?_) (.inr hy));obtain⟨a,sa,ea⟩:=hsa;have neA:h0.objs.size≠a:=by
     rcases ea with e | e
     ·rw[e]; exact neL
     ·exact ZCn (neC _ _ e)
    refine⟨m,hn.sameBut sa neA,λh2 hs2=>?_⟩;refine⟨_,H',I3.turned (t':=s3.toks) (it:=h0.objs.size) (λb o hb e=>(hs2.2 b hb).trans e) hCn neL (.inr (ZCh I2.sz (ZDh hDC))) neC neP,k _ F' H' ((at_.grow x').storeNew at_ x'.hh (fp':=[s2.heap.objs.size]) (.ol hD' rs) (by simp) λa ha=>?_)⟩;obtain rfl:a=s2.heap.objs.size:=by simpa using ha
    exact⟨hFD',hHsD⟩
   exact codeAny_compStart_list loop (W.self _ 0 _ _ _ tn1 loop)
  ·cases hb
 ·cases hb
end
end
section
variable[FX]
def Zvq(d:PyData):Option (List PyData):=Z [d]
def ZmN:PyData->Option (List PyData)
 | .tuple [x,y]=>Z [x,y]
 | _=>Z_
theorem Zx2(c:HM.TF)(e:HM.EF)(r:HM.Env):∀xs,HM.ZaP c e r xs=goG Zvq c e r xs
 | []=>rfl
 | x::xs=>by unfold HM.ZaP goG;rw[Zx2 c e r xs];rfl
theorem Zy5(c:HM.TF)(e:HM.EF)(r:HM.Env):∀xs,HM.ZdU c e r xs=goG ZmN c e r xs
 | []=>rfl
 | x::xs=>by
  have ih:=Zy5 c e r xs;unfold HM.ZdU goG;split
  ·rename_i h; cases h
  ·rename_i a b q h
   cases h;rw[ih];rfl
  ·rename_i h1
   have hn:ZmN x=Z_:=by
    unfold ZmN;split
    ·exact(h1 _ _ _ rfl).elim
    ·rfl
   rw[hn]
theorem Zrm(i:HM.IF)(c:HM.TF)(e:HM.EF):HM.ZP i c e=ZfO Zvq i c e:=by
 funext r
 unfold HM.ZP ZfO;cases i r with
 | none=>rfl
 | some xs=>dsimp only; rw[Zx2]
theorem ZrI(i:HM.IF)(c:HM.TF)(e:HM.EF):HM.Zc2 i c e=ZfO ZmN i c e:=by
 funext r
 unfold HM.Zc2 ZfO;cases i r with
 | none=>rfl
 | some xs=>dsimp only; rw[Zy5]
theorem ZvI{d1 d2:PyData}{v:V}(h:Rep K F (.tuple [d1,d2]) v):∃a v1 v2,v=.ref a/\F a=Z (.tup [v1,v2])/\Rep K F d1 v1/\Rep K F d2 v2:=by
 cases h with
 | @tup a ds vs h1 h2 h3 =>
  cases vs with
  | nil=>simp at h2
  | cons v1 vs=>cases vs with
   | nil=>simp at h2
   | cons v2 vs=>cases vs with
    | nil=>exact⟨a,v1,v2,rfl,h1,h3 0 _ _ rfl rfl,h3 1 _ _ rfl rfl⟩
    | cons _ _=>simp at h2
section
variable{X:Cx}{N:List Str}{scope:Scope}{x x2:Str}{px px2 pt:Pos}{kt:Nat}
theorem Zuh(T:ZdT X N scope [x])(cl:List (Str × Addr))(C:Addr)(s₀:Shared)(H₀:Hp)(ex:List Addr):ZjT (ZY X N scope cl C s₀ H₀ ex) 1 (.Name x px) Zvq:=by
 intro pins s σ sv H F d ys xv u hsv I r sub q hd;cases hd;have hx:=T.loc x (ZBk.mpr rfl);refine thn (Zkr (X:=ZY X N scope cl C s₀ H₀ ex) (i:=0) T.nd (T.first 0 x rfl) (.inl (ZDm hx)) (.inr (ZDm hx)) _ s _ H xv u (λσ' H'=>σ'=(sv++σ).set 0 (Z xv)/\H'=H) I r ⟨rfl,rfl⟩) λ_ s' ⟨σ',H',I',e1,e2⟩=>?_
 subst e1 e2;refine⟨[xv],rfl,?_,.one q⟩;cases sv with
 | nil=>simp at hsv
 | cons a sv=>cases sv with
  | nil=>exact I'
  | cons _ _=>simp at hsv
theorem Zug(T:ZdT X N scope [x,x2])(cl:List (Str × Addr))(C:Addr)(s₀:Shared)(H₀:Hp)(ex:List Addr):ZjT (ZY X N scope cl C s₀ H₀ ex) 2 (.Tuple [.Name x px,.Name x2 px2] kt pt) ZmN:=by
 intro pins s σ sv H F d ys xv u hsv I r sub q hd;have hx:=T.loc x (ZBf ..);have hx2:=T.loc x2 (ZBi _ (ZBf ..));unfold ZmN at hd;split at hd
 ·rename_i d1 d2
  cases hd;obtain⟨pa,v1,v2,e7,hpa,rx1,rx2⟩:=ZvI q;subst e7;refine thn (ZyG (X:=ZY X N scope cl C s₀ H₀ ex) (n:=2) rfl (Zph (Zkr (X:=ZY X N scope cl C s₀ H₀ ex) (i:=0) T.nd (T.first 0 x rfl) (.inl (ZDm hx)) (.inr (ZDm hx))) (Zph (Zkr (X:=ZY X N scope cl C s₀ H₀ ex) (i:=1) T.nd (T.first 1 x2 rfl) (.inl (ZDm hx2)) (.inr (ZDm hx2))) ZwY)) rfl rfl _ s _ H (.ref pa) u (λσ' H'=>σ'=((sv++σ).set 0 (Z v1)).set 1 (Z v2)/\H'=H) I r ⟨pa,[v1,v2],rfl,.of (sub _ _ hpa),rfl,v1,[v2],rfl,v2,[],rfl,rfl,rfl,rfl⟩) λ_ s' ⟨σ',H',I',e1,e2⟩=>?_
  subst e1 e2;refine⟨[v1,v2],rfl,?_,.cons rx1 (.one rx2)⟩;cases sv with
  | nil=>simp at hsv
  | cons a sv=>cases sv with
   | nil=>simp at hsv
   | cons b sv=>cases sv with
    | nil=>exact I'
    | cons _ _=>simp at hsv
 ·cases hd
def Zub(kinds:Str->Option NameKind)(XN N:List Str)(names:List (Str × NameKind))(fr:List Str):Bool :=
 names.all (λy=>y.2 != .cell)&&names.all (λy=>y.2 != .local||names.lookup y.1==Z .local)&&fr.all (λx=>names.lookup x==Z .local)&&(ZBm fr.length).all (λi=>N[i]?==fr[i]?)&&decide N.Nodup&&N.length==XN.length+fr.length &&
 names.all (λy=>y.2 != .free||kinds y.1==Z .cell||kinds y.1==Z .free) &&
 (ZBm (N.length-fr.length)).all (λi=>match N[i+fr.length]? with
  | some y=>(names.lookup y != Z .free||XN[i]?==Z y)&&(names.lookup y==Z .free||(names.lookup y != Z .local&&names.lookup y != Z .cell))
  | none=>ZGH)
theorem ZJ{X:Cx}{N XN:List Str}{scope sc:Scope}{fr:List Str}(hs:X.env.scope=sc:=by rfl)(hN:X.N=XN:=by rfl)(hk:scope.kind=.function:=by rfl)(h:Zub (λy=>sc.names.lookup y) XN N scope.names fr=ZGH:=by decide +kernel):ZdT X N scope fr:=by
 subst hN;unfold Zub at h;simp only[ZBx,ZBj,ZCq,bne_iff_ne,beq_iff_eq,decide_eq_true_eq]at h;obtain⟨⟨⟨⟨⟨⟨⟨h1,h2⟩,h3⟩,h4⟩,h5⟩,h6⟩,h7⟩,h8⟩:=h;have at_:∀(i:Nat) (y:Str),N[i+fr.length]?=Z y->(scope.names.lookup y≠Z .free\/X.N[i]?=Z y)/\(scope.names.lookup y=Z .free\/(scope.names.lookup y≠Z .local/\scope.names.lookup y≠Z .cell)):=λi y e=>by have hi:i+fr.length<N.length:=(ZBr.mp e).1;have:=h8 i (ZBD.mpr (by omega));rw[e]at this;simpa only[ZBx,ZCq,bne_iff_ne,beq_iff_eq]using this
 refine⟨hk,h1,λy hy e=>(h2 y hy).resolve_left (λz=>z e),h3,λi x e=>?_,h5,h6,λy hy e=>?_,λi y e q=>(at_ i y e).1.resolve_left (λz=>z q),λi y e v=>?_⟩
 ·rw[h4 i (ZBD.mpr (ZBr.mp e).1)]
  exact e
 ·have:=h7 y hy
  rw[show X.env.kindOf y.1=sc.names.lookup y.1 by rw[<-hs]; rfl];rcases this with(z | z) | z
  ·exact absurd e z
  ·exact .inl z
  ·exact .inr z
 ·rcases(at_ i y e).2 with z | ⟨z1,z2⟩
  ·exact z
  ·rcases v with v | v | v
   ·exact absurd v z1
   ·exact absurd v z2
   ·exact v
variable{elt iter:Expr}{ifs:List Expr}{pos:Pos}{fi:HM.IF}{fc:HM.TF}{fe:HM.EF}
theorem Zaq(hxe:X.xe=λ_ _=>False)(hcalm:X.calm=ZGH)(T:ZdT X N scope [x])(hi:XI X (.Name x px) iter fi)(hc:∀cl C s H ex,XTs (ZY X N scope cl C s H ex) ifs fc)(he:∀cl C s H ex,XE (ZY X N scope cl C s H ex) elt fe)
  (hs:∀x,ZC2 iter X.env x=pure x:=by intro _; rfl):XF X (.ListComp elt [⟨.Name x px,iter,ifs,0⟩] scope pos) (HM.ZP fi fc fe):=by
 rw[Zrm];exact Zoq hxe hcalm T (Zuh T) hi.e hc he hs
theorem Zor(hxe:X.xe=λ_ _=>False)(hcalm:X.calm=ZGH)(T:ZdT X N scope [x,x2])(hi:XI X (.Tuple [.Name x px,.Name x2 px2] kt pt) iter fi)(hc:∀cl C s H ex,XTs (ZY X N scope cl C s H ex) ifs fc)(he:∀cl C s H ex,XE (ZY X N scope cl C s H ex) elt fe)
  (hs:∀x,ZC2 iter X.env x=pure x:=by intro _; rfl):XF X (.ListComp elt [⟨.Tuple [.Name x px,.Name x2 px2] kt pt,iter,ifs,0⟩] scope pos) (HM.Zc2 fi fc fe):=by
 rw[ZrI];exact Zoq hxe hcalm T (Zug T) hi.e hc he hs
theorem ZeJ(i:Nat)(hN:X.N.Nodup)(hxe:X.xe=λ_ _=>False)(hcalm:X.calm=ZGH)(T:ZdT X N scope [x])(hi:XI X (.Name x px) iter fi)(hc:∀cl C s H ex,XTs (ZY X N scope cl C s H ex) ifs fc)(he:∀cl C s H ex,XE (ZY X N scope cl C s H ex) elt fe)
  (hiy:X.N[i]?=Z y:=by rfl) (hy:X.env.scope.names.lookup y=Z .local:=by rfl) (hsw:ZDM (.ListComp elt [⟨.Name x px,iter,ifs,0⟩] scope pos) (Z (.Name y py)) spos.line X.env=pure ZGH:=by rfl)
  (hs:∀x,ZC2 iter X.env x=pure x:=by intro _; rfl):XS X (.Assign [.Name y py] (.ListComp elt [⟨.Name x px,iter,ifs,0⟩] scope pos) spos) (HM.Z8 i (HM.ZP fi fc fe)):=by
 rw[Zrm];exact ZkN i hN hxe hcalm T (Zuh T) hi.e hc he hiy hy hsw hs
end
end
section
variable[FX]
section
variable{prog:Program}{w:World}{K:Type}[DecidableEq K]{knd:HeapKind prog w K}{A:Around}{E:Value->Shared->Prop}{s:Shared}
theorem ZmZ{d:Addr}{xs:List (K × Addr × Value)}{k:K}{v:Value}(hu:knd.room A)(hkey:knd.is s.heap k a)(hm:s.heap.DictOfH knd d xs)(hsz:xs.length<=sizeLine)
  (h1:∀p,atKey xs k=Z p->Q p.2 { s with toks:=s.toks+knd.draws k })
  (h2:atKey xs k=Z_->∀h',h'.DictOfH knd d (storedH xs k a v)->ZC5 d s.heap h'->Q v { s with heap:=h',toks:=s.toks+knd.draws k }) :
  wpAny (model prog w) A (dictSetDefault d (.ref a) v) Q E s:=by
 obtain⟨o,es,ep,ho,hc,hd,he,his,hn⟩:=hm;unfold dictSetDefault
 try with_reducible refine ZCm ?_
 refine ZBa (knd.pyHash hu hkey ?_);refine ZBa (wpAny_dictFind_heap (s:={ s with toks:=s.toks+knd.draws k }) hu hkey ho hd he his hn ?_ ?_)
 ·intro hno
  have hnot:k ∉ xs.map (·.1):=not_mem_keys_of_get hno;have hnk:=atKey_none_of_get hno;refine ZBa (ZE6 (ZBa (wpAny_updateDictKeys (hz:=by have e:=size_of_entries he; omega) (s:={ s with toks:=s.toks+knd.draws k }) ho hd (ZBe (h2 hnk _ ⟨_,_,ep+1,ZCk _ ho (Obj.isFreed_of_dict (Obj.data_mapDictKeys hd _)),
   hc.mapDictKeys _,Obj.data_mapDictKeys hd _,?_,?_,?_⟩ (ZCi ..))))))
  ·rw[storedH_new hnk]
   simp[he,entryOfKey]
  ·rw[storedH_new hnk]
   intro x hx;rcases ZBI.mp hx with hx | hx
   ·exact knd.keeps (his x hx) ho hd (ZCi ..)
   ·simp only[ZBk]at hx
    subst hx;exact knd.keeps hkey ho hd (ZCi ..)
  ·rw[storedH_new hnk]
   rw[ZBJ,ZDn];refine⟨hn,by simp,?_⟩;intro x hx y hy;simp only[ZBn,ZDw,ZBk]at hy;subst hy;exact λe=>hnot (e▸hx)
 ·intro j p hj
  refine ZBa (ZEE (s:={ s with toks:=s.toks+knd.draws k }) ho hd ?_);rw[entry_at he j,hj];exact ZBa (ZE6 (ZBe (h1 p (atKey_of_get hn hj))))
theorem ZkK(d a:Addr)(hd:(d==ZCV)=ZGI)(dflt:Value) :
  MeetsIn prog w (Builtin.«dict.setdefault» ⟨[.ref d,.ref a,dflt],[]⟩) (λA R s=>knd.room A.in1/\∃k xs,knd.is s.heap k a/\s.heap.DictOfH knd d xs/\xs.length<=sizeLine /\
   (∀p,atKey xs k=Z p->R (.ok (.ret p.2)) { s with toks:=s.toks+knd.draws k }) /\
   (atKey xs k=Z_->∀h',h'.DictOfH knd d (storedH xs k a dflt)->ZC5 d s.heap h'->R (.ok (.ret dflt)) { s with heap:=h',toks:=s.toks+knd.draws k })) :=
 .of_wp λA R s ⟨hu,k,xs,hkey,hm,hz,h1,h2⟩=>by unfold Builtin.«dict.setdefault»;refine ZBa ?_;unfold Builtin.Dict.keyAndDefault;refine ZBa (wpAny_notOrdered_dict hm.typeIs ?_);show wpAny _ _ (pure (d,ZB2 a,Z dflt)) _ _ s;refine ZBe ?_;show wpAny _ _ (if(d==ZCV)=ZGH then _ else(dictSetDefault d (.ref a) dflt >>= _)) _ _ s;rw[if_neg (by rw[hd]; exact ZB3)];exact ZBa (ZmZ hu hkey hm hz (λp hp=>ZBe ⟨p.2,rfl,h1 p hp⟩) λhn h' hm' hs'=>ZBe ⟨dflt,rfl,h2 hn h' hm' hs'⟩)
end
section
variable{X:Cx}{pins:List (Addr × Obj)}{σ:L2.St}{H:Hp}{s:Shared}{a b:Addr}{z:V}{r:Value}{A:Around}{E:Value->Shared->Prop}{kvs:List (List Key × V)}{k:List Key}
theorem Zzt(hu:A.units+1<cLine)(I:Inv X pins σ H s)(e:H a=Z (.dT kvs))(eb:H b=Z (.tup (k.map kV)))(hl:kvs.length<sizeLine)(rz:RelV z r)
  (h1:∀v,ZaZ kvs k=Z v->∀w' s',Inv X pins σ H s'->RelV v w'->Q w' s') (h2:ZaZ kvs k=Z_->∀s',Inv X pins σ (upd H a (.dT (kvs++[(k,z)]))) s'->Q r s') :
  wpAny (model X.prog X.w) A (call (.builtin "dict.setdefault") [.ref a,.ref b,r]) Q E s:=by
 obtain⟨zz,hd,xs,rel,dd⟩:=Zwf I.hok e;have hz:xs.length<=sizeLine:=by rw[<-ZDY rel]; exact zz
 have hv:=rel.val k;refine call_meetsIn ZFg dd.typeIs PySem.F.entry_dict_setdefault (PySem.F.args_dict_setdefault_3 _ _ _) (ZkK (knd:=ZEn (Zay X.prog X.w)) a b hd r) ⟨ZDx hu,k,xs,ZgY I.hok eb,dd,hz,λp hp=>?_,λhn h' dd' hs=>?_⟩
 ·rw[hp]at hv
  cases hvv:ZaZ kvs k with
  | none=>rw[hvv]at hv; exact hv.elim
  | some v=>rw[hvv]at hv; exact h1 v hvv _ _ (I.tok _) hv
 ·rw[hn]at hv
  have hvv:ZaZ kvs k=Z_:=by
   cases hvv:ZaZ kvs k with
   | none=>rfl
   | some v=>rw[hvv]at hv; exact hv.elim
  refine h2 hvv _ ?_;have hp:=rel.put k eb rz;have epk:putK kvs k z=kvs++[(k,z)]:=by unfold putK;rw[if_neg];rw[Zlm,hvv];simp
  rw[epk]at hp;obtain⟨q,es,ep,hq,g2,g3,g4,_,g5⟩:=dd';refine Zkv I (by rw[e]; exact ZEw) hs ⟨q,hq⟩ ⟨by rw[ZBv]; exact hl,hd,_,hp.keeps λc ys ec=>?_,q,es,ep,hq,g2,g3,g4,g5⟩;rw[ZA (Zwa ec e (λz=>nomatch z))];exact ec
end
def ZAx(td ty tx:TE):TE:=λσ H Q=>td σ H λx H1=>∃a,x=.ref a/\IsD H1 a/\ty σ H1 λy H2=>tx σ H2 λz H3=>∃kvs k b,H3 a=Z (.dT kvs)/\y=.ref b/\H3 b=Z (.tup (k.map kV))/\kvs.length<sizeLine /\
 (∀v,ZaZ kvs k=Z v->Q v H3)/\(ZaZ kvs k=Z_->Q z (upd H3 a (.dT (kvs++[(k,z)]))))
section
variable{X:Cx}{o e f:Expr}{apos cpos:Pos}{td ty tx:TE}
theorem Zzj(hu:X.A.units+1<cLine)(ho:PE X o td)(he:PE X e ty)(hf:PE X f tx)(m:M2 X o "setdefault" apos e f cpos):PE X (.Call (.Attribute o "setdefault" apos) [e,f] [] cpos) (ZAx td ty tx):=by intro pins s σ H Q I h;refine wpAny_Call_method m.base m.few m.line ZF2 ZFg PySem.F.type_dict_setdefault (thn (ho pins s σ H _ I h) λu s1 ⟨x,H1,I1,rx,a,ex,d,q1⟩=>?_);subst ex;obtain rfl:u=ZB2 a:=rx;obtain⟨t1,t2,_⟩:=Ztg I1 d;refine⟨t1,t2,?_⟩;rw[m.trees];refine ZD1 rfl (ZE1 (ZEp (thn (he pins s1 σ H1 _ I1 q1) λiv s2 ⟨y,H2,I2,ry,q2⟩=>ZEp (thn (hf pins s2 σ H2 _ I2 q2) λfv s3 ⟨z,H3,I3,rz,kvs,k,b,ea,ey,eb,hl,q3,q4⟩=>ZFE ?_))));subst ey;obtain rfl:iv=ZB2 b:=ry;exact Zzt hu I3 ea eb hl rz (λv hv w' s4 I4 rw'=>⟨v,H3,I4,rw',q3 v hv⟩) λhn s4 I4=>⟨z,_,I4,rz,q4 hn⟩
end
def OT(K:ZBd)(F H:Hp)(kvs:List (List Key × List PyData))(vvs:List (List Key × V))(ls:List Addr):Prop:=kvs.map (·.1)=vvs.map (·.1)/\vvs.map (·.2)=ls.map V.ref /\
 ∀(i:Nat) (ds:List PyData) (l:Addr),(kvs.map (·.2))[i]?=Z ds->ls[i]?=Z l->∃vs,H l=Z (.lst vs)/\Zt K F ds vs
section
variable{K:ZBd}{F F' H H':Hp}{kvs:List (List Key × List PyData)}{vvs:List (List Key × V)}{ls:List Addr}
theorem OT.len(q:OT K F H kvs vvs ls):kvs.length=ls.length/\kvs.length=vvs.length:=by have e1:=congrArg ZB7 q.1;have e2:=congrArg ZB7 q.2.1;rw[ZBb,ZBb]at e1 e2;omega
theorem OT.mono(q:OT K F H kvs vvs ls)(s:Zq F F')(k:∀a∈ls,∀o,H a=Z o->H' a=Z o):OT K F' H' kvs vvs ls :=
 ⟨q.1,q.2.1,λi ds l h1 h2=>let ⟨vs,q1,q2⟩:=q.2.2 i ds l h1 h2; ⟨vs,k l (ZBN h2) _ q1,q2.mono s⟩⟩
theorem OT.snoc(q:OT K F H kvs vvs ls)(k:List Key)(hp:H p=Z (.lst [])):OT K F H (kvs++[(k,[])]) (vvs++[(k,.ref p)]) (ls++[p]):=by
 refine⟨by rw[ZBJ,ZBJ,q.1]; rfl,by rw[ZBJ,ZBJ,q.2.1]; rfl,λi ds l h1 h2=>?_⟩;have hl:=q.len;rw[ZBJ]at h1
 by_cases hi:i<kvs.length
 ·rw[ZBX (by rw[ZBb]; exact hi)]at h1
  rw[ZBX (by omega)]at h2;exact q.2.2 i ds l h1 h2
 ·rw[ZBQ (by rw[ZBb]; omega),ZBb]at h1
  rw[ZBQ (by omega),<-hl.1]at h2;cases hj:i-kvs.length with
  | zero=>rw[hj]at h1 h2;cases h1; cases h2;exact⟨[],hp,.nil⟩
  | succ j=>rw[hj]at h1; cases h1
theorem OT.look(q:OT K F H kvs vvs ls)(k:List Key):(∀ds,HM.Zj kvs k=Z ds->∃l' vs,ZaZ vvs k=Z (.ref l')/\l'∈ls/\H l'=Z (.lst vs)/\Zt K F ds vs)/\(HM.Zj kvs k=Z_->ZaZ vvs k=Z_):=Zlw k kvs vvs ls q.1 q.2.1 q.2.2
theorem OT.app(k:List Key){d:PyData}{v:V}:∀{kvs:List (List Key × List PyData)} {vvs:List (List Key × V)} {ls:List Addr},OT K F H kvs vvs ls->ls.Nodup->Rep K F d v->∀{l':Addr} {vs:List V},ZaZ vvs k=Z (.ref l')->H l'=Z (.lst vs) ->
  OT K F (upd H l' (.lst (vs++[v]))) (HM.Zd2 kvs k d) vvs ls
 | [],[],_,q,_,_,l',vs,hv,_=>by cases hv
 | [],_::_,_,q,_,_,_,_,_,_=>by have:=q.len; simp at this
 | _::_,[],_,q,_,_,_,_,_,_=>by have:=q.len; simp at this
 | _::_,_::_,[],q,_,_,_,_,_,_=>by have:=q.len; simp at this
 | (k1,ds1)::kvs,(k2,v2)::vvs,l1::ls,q,nd,rd,l',vs,hv,hl=>by
  obtain⟨q1,q2,q3⟩:=q;rw[ZBn,ZBn]at q1 q2;injection q1 with e1 e2
  injection q2 with e3 e4
  have e1:k1=k2:=e1;have e3:v2=.ref l1:=e3;subst e1 e3;have rest:OT K F H kvs vvs ls:=⟨e2,e4,λi ds l h1 h2=>q3 (i+1) ds l (by simpa using h1) (by simpa using h2)⟩;obtain⟨n1,n2⟩:=ZB4.mp nd;obtain⟨us,f1,f2⟩:=q3 0 ds1 l1 rfl rfl;unfold HM.Zd2
  by_cases hk:k1=k
  ·rw[if_pos hk]
   rw[Zev (p:=(k1,V.ref l1)) hk]at hv;cases hv;rw[hl]at f1;cases f1;refine⟨by rw[ZBn,ZBn,e2],by rw[ZBn,ZBn,e4],λi ds l h1 h2=>?_⟩;cases i with
   | zero=>cases h1; cases h2;exact⟨_,ZE,f2.append (.one rd)⟩
   | succ i=>rw[ZBn,ZB0]at h1;rw[ZB0]at h2;obtain⟨us,g1,g2⟩:=rest.2.2 i ds l h1 h2;exact⟨us,by rw[ZA (λz=>n1 (by rw[<-z]; exact ZBN h2))]; exact g1,g2⟩
  ·rw[if_neg hk]
   rw[Zeq (p:=(k1,V.ref l1)) hk]at hv;have ih:=OT.app k rest n2 rd hv hl;have hne:l1≠l':=by
    rintro rfl
    have:∀(vvs:List (List Key × V)) (ls:List Addr),vvs.map (·.2)=ls.map V.ref->∀l',ZaZ vvs k=Z (.ref l')->l'∈ls:=by
     intro vvs
     induction vvs with
     | nil=>intro ls _ l' h; cases h
     | cons p vvs ih =>
      intro ls he l' h;cases ls with
      | nil=>simp at he
      | cons l ls =>
       rw[ZBn,ZBn]at he;injection he with he1 he2
       by_cases hp:p.1=k
       ·rw[Zev hp]at h
        rw[he1]at h;cases h;exact ZBf
       ·rw[Zeq hp]at h
        exact ZBi _ (ih ls he2 l' h)
    exact n1 (this vvs ls e4 _ hv)
   refine⟨by rw[ZBn,ZBn,ih.1],by rw[ZBn,ZBn,e4],λi ds l h1 h2=>?_⟩;cases i with
   | zero=>cases h1; cases h2;exact⟨us,by rw[ZA hne]; exact f1,f2⟩
   | succ i=>rw[ZBn,ZB0]at h1;rw[ZB0]at h2;exact ih.2.2 i ds l h1 h2
end
theorem Zbv.otl{K:ZBd}{F0 H0 F H:Hp}{r:HM.Env}{σ:L2.St}{fp:Nat->List Addr}{i:Nat}{kvs:List (List Key × List PyData)}(e:Zbv K F0 H0 F H r σ fp)(h:r[i]?=Z (Z (.otl kvs))) :
  ∃a vvs ls,σ[i]?=Z (Z (.ref a))/\H a=Z (.dT vvs)/\OT K F H kvs vvs ls/\fp i=a::ls:=by
 obtain⟨v,h1,h2⟩:=e.at_ i _ h;generalize hf:fp i=q at h2;cases h2 with
 | otl k1 k2 k3 k4=>exact⟨_,_,_,h1,k1,⟨k2,k3,k4⟩,rfl⟩
theorem Zbv.otlNew{Fb:Hp}{fp:Nat->List Addr}(k:List Key)(eb:Zbv K F0 H0 Fb Hb r σ fp)(x:Ext Fb Hb F H)(h:r[i]?=Z (Z (.otl kvs)))(hp:H p=Z (.lst []))(hF:F p=Z_)(hb:Hb p=Z_) :
  ∃a vvs,σ[i]?=Z (Z (.ref a))/\H a=Z (.dT vvs)/\vvs.length=kvs.length/\(HM.Zj kvs k=Z_->ZaZ vvs k=Z_)/\At K F0 H0 F (upd H a (.dT (vvs++[(k,.ref p)]))) (r.set i (Z (.otl (kvs++[(k,[])])))) σ:=by
 have e:=eb.grow x;obtain⟨a,vvs,ls,h1,h2,h3,h4⟩:=e.otl h;have hpn:∀j,p ∉ fp j:=λj hj=>by obtain⟨o,ho⟩:=eb.there hj;rw[hb]at ho; cases ho
 have hpa:p≠a:=λz=>hpn i (by rw[h4,z]; exact ZBf);have hal:a ∉ ls:=(ZB4.mp (h4▸e.nd i)).1;have nl:ls.Nodup:=(ZB4.mp (h4▸e.nd i)).2;have hpl:p ∉ ls:=λz=>hpn i (by rw[h4]; exact ZBi _ z);refine⟨a,vvs,h1,h2,h3.len.2.symm,(h3.look k).2,?_⟩;have q:=h3.snoc k hp;have q':OT K F (upd H a (.dT (vvs++[(k,.ref p)]))) (kvs++[(k,[])]) (vvs++[(k,.ref p)]) (ls++[p]):=q.mono (Zq.refl F) λc hc o z=>by
  rw[ZA]
  ·exact z
  ·rintro rfl
   rcases ZBI.mp hc with hc | hc
   ·exact hal hc
   ·exact hpa (ZBk.mp hc).symm
 have nd':(a::(ls++[p])).Nodup:=by
  refine ZB4.mpr ⟨?_,?_⟩
  ·intro z
   rcases ZBI.mp z with z | z
   ·exact hal z
   ·exact hpa (ZBk.mp z).symm
  ·rw[ZDn]
   refine⟨nl,by simp,λx hx y hy=>?_⟩;obtain rfl:y=p:=by simpa using hy
   rintro rfl
   exact hpl hx
 refine e.changeW h1 (fp':=a::(ls++[p])) (.otl ZE q'.1 q'.2.1 q'.2.2) nd' (λc hc=>?_) λc o z hn=>?_
 ·rcases ZBq.mp hc with z | z
  ·subst z; exact .inl (by rw[h4]; exact ZBf)
  ·rcases ZBI.mp z with z | z
   ·exact .inl (by rw[h4]; exact ZBi _ z)
   ·obtain rfl:c=p:=ZBk.mp z
    exact .inr ⟨hF,eb.ext.hh.free hb,hpn⟩
 ·rw[ZA (λy=>hn (by rw[h4,y]; exact ZBf))]
  exact z
theorem At.otlApp(k:List Key)(e:At K F0 H0 F H r σ)(h:r[i]?=Z (Z (.otl kvs)))(hd:HM.Zj kvs k=Z ds) :
  ∃a vvs l vs,σ[i]?=Z (Z (.ref a))/\H a=Z (.dT vvs)/\ZaZ vvs k=Z (.ref l)/\H l=Z (.lst vs)/\Zt K F ds vs/\∀d v,Rep K F d v->At K F0 H0 F (upd H l (.lst (vs++[v]))) (r.set i (Z (.otl (HM.Zd2 kvs k d)))) σ:=by
 obtain⟨fp,e⟩:=e;obtain⟨a,vvs,ls,h1,h2,h3,h4⟩:=e.otl h;obtain⟨l,vs,g1,g2,g3,g4⟩:=(h3.look k).1 ds hd;have hal:a ∉ ls:=(ZB4.mp (h4▸e.nd i)).1;have nl:ls.Nodup:=(ZB4.mp (h4▸e.nd i)).2;have hne:a≠l:=λz=>hal (by rw[z]; exact g2);refine⟨a,vvs,l,vs,h1,h2,g1,g3,g4,λd v rd=>?_⟩;have q:=h3.app k nl rd g1 g3;refine e.change h1 (fp':=a::ls) (.otl (by rw[ZA hne]; exact h2) q.1 q.2.1 q.2.2) (h4▸e.nd i) (λc hc=>.inl (by rw[h4]; exact hc)) λc o z hn=>?_;rw[ZA (λy=>hn (by rw[h4,y]; exact ZBi _ g2))];exact z
section
variable{X:Cx}{a b c e:Expr}{fa fb fc:HM.EF}{pos p:Pos}{f:HM.BF}
theorem Zt3{k:List Key}(h:HM.Zj kvs k=Z ds):HM.ZcF kvs k=kvs:=by unfold HM.ZcF; rw[h]
theorem Zth{k:List Key}(h:HM.Zj kvs k=Z_):HM.ZcF kvs k=kvs++[(k,[])]:=by unfold HM.ZcF; rw[h]
theorem ZuL(hu:X.A.units+1<cLine)(i:Nat){p0 p4 p5:Pos}(hk:XE X b fb)(ha:XE X a fa)(m:M2 X (.Name x p0) "setdefault" p1 b (.List [] p2) p3)(hN:X.N[i]?=Z x:=by rfl)(hv:Vis X.env.scope x:=by first | exact ZBZ rfl | exact ZBC (ZBZ rfl) | exact ZBC (ZBC rfl))(hd:(x==("__debug__":Str))=ZGI:=by decide)(hcd:(x==("__classdict__":Str))=ZGI:=by decide)
  (hbase:ZDD (.Call (.Attribute (.Name x p0) "setdefault" p1) [b,.List [] p2] [] p3) "append" X.env (eval (.Call (.Attribute (.Name x p0) "setdefault" p1) [b,.List [] p2] [] p3) X.env)=eval (.Call (.Attribute (.Name x p0) "setdefault" p1) [b,.List [] p2] [] p3) X.env:=by rfl)
  (hfew:((backTo p5 (ZBp [a] X.env)).all (λx=>!x.1)&&(ZFT p5 (ZEM [] X.env)).all (λx=>x.1.isSome)&&decide (([a]:List Expr).length+([]:List Keyword).length+(if([]:List Keyword).isEmpty then 0 else 1)<30))=ZGH:=by rfl)
  (hline:(p4.endLine==p5.line)=ZGH:=by rfl) (hs:ZBp [a] X.env=[(ZGI,eval a X.env)]:=by rfl):XS X (.Expr (.Call (.Attribute (.Call (.Attribute (.Name x p0) "setdefault" p1) [b,.List [] p2] [] p3) "append" p4) [a] [] p5) pos) (HM.Zqj i fb fa):=by
 intro r o h;unfold HM.Zqj at h;split at h
 ·rename_i y hy
  split at h
  ·rename_i kvs hb
   split at h
   ·rename_i k hk'
    split at h
    ·rename_i hzz
     split at h
     ·rename_i d hd'
      split at h
      ·rename_i ds hds
       split at h
       ·rename_i hz
        cases h;have hi:i<r.length:=(ZBr.mp hb).1;have hb':(r.set i (Z (.otl (HM.ZcF kvs k))))[i]?=Z (Z (.otl (HM.ZcF kvs k))):=ZB9 hi;refine PS.imp (Zkz (Zsc ZDW ZFV ZFW Zke (Zzj hu (Zb9 hN hv hd hcd) (hk r y hy) (Zdn (X:=X) Zf (by simp) r (.ol []) rfl) m) (ZaL (ha _ d hd') Zca hs) hbase hfew hline hs rfl)) λE σ H ⟨F0,H0,F,at_,kk⟩=>?_;have fin:∀{F3 H3:Hp} {l:Addr},At X.K F0 H0 F3 H3 (r.set i (Z (.otl (HM.ZcF kvs k)))) σ->(∃vs,SqL X.K H3 l vs)->(∀a' vvs',σ[i]?=Z (Z (.ref a'))->H3 a'=Z (.dT vvs')->ZaZ vvs' k=Z (.ref l)) ->
          tyV X.K "list" (.ref l) H3/\Now X.K (r.set i (Z (.otl (HM.ZcF kvs k)))) σ H3 λF0 H0 F=>∀v F' H',Ext F H3 F' H'->Rep X.K F' d v->ZrM (.ref l) [v] H' λ_ H'=>E.nx σ H':=by
         intro F3 H3 l at3 hl hat;refine⟨.inl ⟨rfl,hl⟩,F0,H0,F3,at3,λv F4 H4 x4 r4=>?_⟩;obtain⟨aa',vvs',l',vs',g1,g2,g3,g4,g5,g6⟩:=(at3.grow x4).otlApp k hb' hds;obtain⟨aa2,vvs2,l2,vs2,f1,f2,f3,_⟩:=at3.otlApp k hb' hds;rw[f1]at g1;cases g1;rw[x4.hh _ _ f2]at g2;cases g2;rw[hat _ _ f1 f2]at g3;cases g3;have g7:=g6 d v r4;rw[ZE2]at g7;refine⟨_,vs',v,rfl,rfl,g4,?_,kk _ F4 _ g7⟩;rw[<-g5.1];exact Zib hz
        obtain⟨fq,eb⟩:=at_;obtain⟨aa,vvs,ls,e1,e2,e3,e4⟩:=eb.otl hb;refine⟨.ref aa,e1,aa,rfl,.inr ⟨vvs,.inl e2⟩,F0,H0,F,⟨fq,eb⟩,λw F1 H1 x1 r1=>⟨F0,H0,F1,At.grow ⟨fq,eb⟩ x1,λv F2 H2 x2 ⟨fp,r2,nd,hn⟩=>?_⟩⟩;obtain⟨bb,rfl,hbb⟩:=ZdB hk' r1;have x12:=x1.trans x2;have hz0:vvs.length<sizeLine:=by rw[<-e3.len.2]; exact Zib hzz
        refine⟨vvs,k,bb,x12.hh _ _ e2,rfl,x2.hh _ _ (x1.sub _ _ hbb),hz0,λu hu'=>?_,λhno=>?_⟩
        ·have hls:∃ds0,HM.Zj kvs k=Z ds0:=by
          cases hq:HM.Zj kvs k with
          | some ds0=>exact⟨ds0,rfl⟩
          | none=>rw[(e3.look k).2 hq]at hu'; cases hu'
         obtain⟨ds0,hls⟩:=hls;have ead:=Zt3 hls;obtain⟨l0,vs0,q1,q2,q3,q4⟩:=(e3.look k).1 ds0 hls;rw[q1]at hu';cases hu';refine fin (F3:=F2) ?_ ⟨vs0,SqL.of (x12.hh _ _ q3)⟩ λa' vvs' z1 z2=>?_
         ·rw[ead]
          have:r.set i (Z (.otl kvs))=r:=by obtain⟨h1,h2⟩:=ZBr.mp hb;rw[<-h2];exact ZD6 h1
          rw[this];exact At.grow ⟨fq,eb⟩ x12
         ·rw[e1]at z1
          cases z1;rw[x12.hh _ _ e2]at z2;cases z2;exact q1
        ·have hls:HM.Zj kvs k=Z_:=by
          cases hq:HM.Zj kvs k with
          | none=>rfl
          | some ds0=>obtain⟨l0,vs0,q1,_⟩:=(e3.look k).1 ds0 hq;rw[hno]at q1; cases q1
         have ead:=Zth hls;cases r2 with
         | @ol l _ vs hl1 rs =>
          obtain rfl:vs=[]:=rs.nil_inv;have hHl:H l=Z_:=x1.hh.free (hn l (by simp)).2;obtain⟨aa2,vvs2,g1,g2,g3,g4,g5⟩:=eb.otlNew k x12 hb hl1 (hn l (by simp)).1 hHl;rw[e1]at g1;cases g1;rw[x12.hh _ _ e2]at g2;cases g2;have hne:l≠aa:=λz=>by rw[z,e2]at hHl; cases hHl
          refine fin (F3:=F2) (by rw[ead]; exact g5) ⟨[],SqL.of (by rw[ZA hne]; exact hl1)⟩ λa' vvs' z1 z2=>?_;rw[e1]at z1;cases z1;rw[ZE]at z2;cases z2;unfold ZaZ at hno ⊢;rw[ZGg]at hno;rw[ZFG,hno];simp
       ·cases h
      ·cases h
     ·cases h
    ·cases h
   ·cases h
  ·cases h
 ·cases h
end
end
end HP
namespace HP
open PySem PyProof.Rows
variable{a it:Addr}{es:Array (Int × Value)}{xs:Array Nat}{b:Bool}{h h':Heap}{ns:List Int}{ep i j n slot:Nat}{Q:Value->Shared->Prop}
section
def Ze4(xs:Array Nat):Prop:=xs.toList.Pairwise (· < ·)
theorem Ze4.lt(h:Ze4 xs){k:Nat}(hk:k<xs.size)(hik:i<k):xs.getD i 0<xs.getD k 0:=by have:=ZFM.mp h i k (by simpa using ZDl hik hk) (by simpa using hk) hik;simpa [ZDu,hk,ZDl hik hk]using this
theorem Zln{xs:Array Nat}(h:Ze4 xs)(j:Nat):∀(fuel lo hi:Nat),lo<=hi->hi<=xs.size->hi-lo<=fuel->(∀i,i<lo->xs.getD i 0<j)->(∀i,hi<=i->i<xs.size->j<=xs.getD i 0) ->
  ZEF xs j fuel lo hi<=xs.size/\(∀i,i<ZEF xs j fuel lo hi->xs.getD i 0<j)/\∀i,ZEF xs j fuel lo hi<=i->i<xs.size->j<=xs.getD i 0
 | 0,lo,hi,h1,h2,h3,a,b=>by
  obtain rfl:lo=hi:=by omega
  exact⟨h2,a,b⟩
 | fuel+1,lo,hi,h1,h2,h3,a,b=>by
  unfold ZEF;split
  ·rename_i hlt
   have hm:(lo+hi) / 2<xs.size:=by omega
   have e:xs.getD ((lo+hi) / 2) j=xs.getD ((lo+hi) / 2) 0:=by simp[ZDu,hm]
   dsimp only;rw[e]
   by_cases q:xs.getD ((lo+hi) / 2) 0<j
   ·rw[if_pos q]
    refine Zln h j fuel ((lo+hi) / 2+1) hi (by omega) h2 (by omega) (λi hi'=>?_) b
    by_cases c:i=(lo+hi) / 2
    ·rw[c]; exact q
    ·exact ZDl (h.lt hm (by omega)) q
   ·rw[if_neg q]
    refine Zln h j fuel lo ((lo+hi) / 2) (by omega) (by omega) (by omega) a (λi hi' hs=>?_)
    by_cases c:i=(lo+hi) / 2
    ·rw[c]; omega
    ·have:=h.lt hs (show(lo+hi) / 2<i by omega); omega
  ·obtain rfl:lo=hi:=by omega
   exact⟨h2,a,b⟩
theorem Zgs(h:Ze4 xs)(j:Nat):ZBo xs j<=xs.size/\(∀i,i<ZBo xs j->xs.getD i 0<j)/\∀i,ZBo xs j<=i->i<xs.size->j<=xs.getD i 0 :=
 Zln h j xs.size 0 xs.size (ZCC _) (ZBl _) (by omega) (λi hi=>by omega) λi h1 h2=>by omega
theorem Zst(h:Ze4 xs)(hi:i<xs.size):ZBo xs (xs.getD i 0+1)=i+1:=by
 obtain⟨a,b,c⟩:=Zgs h (xs.getD i 0+1);apply Nat.le_antisymm
 ·apply ZDr
  intro q;have h1:=b (i+1) q;have h2:=h.lt (show i+1<xs.size by omega) (ZDs i);omega
 ·apply ZDr
  intro q;have h1:=c (ZBo xs (xs.getD i 0+1)) (ZBl _) (by omega)
  by_cases e:ZBo xs (xs.getD i 0+1)=i
  ·rw[e]at h1; omega
  ·have:=h.lt hi (show ZBo xs (xs.getD i 0+1)<i by omega); omega
theorem Zsu(h:Ze4 xs):ZBo xs 0=0:=by obtain⟨a,b,c⟩:=Zgs h 0;apply Nat.eq_zero_of_not_pos;intro q;have:=b 0 q;omega
theorem ZkY(h:Ze4 xs)(hn:xs[ZBo xs j]?≠Z j):Ze4 (ZBH xs (ZBo xs j) j):=by
 obtain⟨a,b,c⟩:=Zgs h j;unfold Ze4;rw[ZEs];have gt:∀i,ZBo xs j<=i->i<xs.size->j<xs.getD i 0:=by
  intro i h1 h2
  by_cases e:ZBo xs j=i
  ·subst e
   have h3:=c _ h1 h2;have:xs.getD (ZBo xs j) 0≠j:=λq=>hn (by
    have z:xs[ZBo xs j]?=Z (xs.getD (ZBo xs j) 0):=by simp[ZDu,h2]
    rw[z,q])
   omega
  ·have h3:=h.lt h2 (show ZBo xs j<i by omega)
   have h4:=c _ (ZBl _) (show ZBo xs j<xs.size by omega);omega
 rw[ZEe];refine⟨h.sublist (List.take_sublist ..),ZB5.mpr ⟨λx hx=>?_,h.sublist (List.drop_sublist ..)⟩,λx hx y hy=>?_⟩
 ·obtain⟨i,hi,rfl⟩:=ZFc hx
  rw[ZCB,ZBB]at hi;rw[List.getElem_drop];have:=gt (ZBo xs j+i) (by omega) (by omega);simpa [ZDu,show ZBo xs j+i<xs.size by omega]using this
 ·obtain⟨i,hi,rfl⟩:=ZFc hx
  rw[ZB1,ZBB]at hi;rw[List.getElem_take];have h1:=b i (by omega);have h1':xs.toList[i]'(by simp; omega)<j:=by simpa [ZDu,show i<xs.size by omega]using h1
  rcases ZBq.mp hy with e | e
  ·rw[e]; exact h1'
  ·obtain⟨k,hk,rfl⟩:=ZFc e
   rw[ZCB,ZBB]at hk;rw[List.getElem_drop];have h2:=gt (ZBo xs j+k) (by omega) (by omega);have h2':j<xs.toList[ZBo xs j+k]'(by simp; omega):=by simpa [ZDu,show ZBo xs j+k<xs.size by omega]using h2
   exact ZDl h1' h2'
theorem has_none(j:Nat):SetTable.has #[] j=ZGI:=by simp[SetTable.has]
structure Tab(b:Bool)(t:SetTable):Prop where
 dum:t.dummies=#[]
 rise:Ze4 t.place
 led:t.led=b
 plain:t.plain=ZGH
 low:∀j∈t.place.toList,j<8
 mask:t.mask=if t.place.size<=4 then 7 else 31
theorem Tab.fresh(b:Bool):Tab b (SetTable.fresh 0 0 b):=⟨rfl,.nil,rfl,rfl,λj hj=>by simp[SetTable.fresh]at hj,rfl⟩
theorem Tab.few{t:SetTable}(h:Tab b t):t.place.size<=8:=by
 have key:∀(l:List Nat) (lo:Nat),l.Pairwise (· < ·)->(∀j∈l,lo<=j/\j<8)->l.length<=8-lo:=by
  intro l
  induction l with
  | nil=>intro lo _ _; simp
  | cons x l ih=>intro lo hp hb;have h1:=hb x (ZBf ..);have h2:=ih (x+1) (ZB5.mp hp).2 λy hy=>⟨(ZB5.mp hp).1 y hy,(hb y (ZBi _ hy)).2⟩;rw[ZBy]; omega
 have:=key t.place.toList 0 h.rise λj hj=>⟨ZCC _,h.low j hj⟩;simpa using this
theorem ZiY{t:SetTable}(h:Tab b t)(hj:j ∉ t.place.toList):t.slot j=.empty/\t.place[ZBo t.place j]?≠Z j:=by have q:t.place[ZBo t.place j]?≠Z j:=λe=>hj (by rw[<-ZCe]at e;exact ZBN e);unfold SetTable.slot;dsimp only;rw[if_neg (by simpa using q),h.dum,has_none,if_neg (by simp)];exact⟨rfl,q⟩
theorem Zyx{t:SetTable}(h:Tab b t)(j:Nat):t.put j=({ t with place:=ZBH t.place (ZBo t.place j) j },ZBo t.place j):=by
 unfold SetTable.put;dsimp only;rw[h.dum,has_none];cases t;have:=h.dum
 simp_all
theorem size_insert{α:Type}(xs:Array α)(p:Nat)(x:α):(ZBH xs p x).size=xs.size+1:=by rw[<-ZBB,(ZC6 xs p x).length_eq];simp
theorem ZyW{t:SetTable}(h:Tab b t)(he:es.size=t.place.size)(h8:j<8)(hj:j ∉ t.place.toList)(v:Value) :
  layNew t es (j:Int) v=(ZBH es (ZBo t.place j) ((j:Int),v),{ t with place:=ZBH t.place (ZBo t.place j) j },ZGI,ZGI):=by
 obtain⟨e1,e2⟩:=ZiY h hj;have hfew:=h.few;have hm:t.mask=7\/t.mask=31:=by rw[h.mask]; split<;>simp
 have hbits:ZGu (j:Int) % (t.mask+1)=j:=by
  have hb:ZGu (j:Int)=j:=by unfold ZGu; omega
  rw[hb];rcases hm with e | e<;>rw[e]<;>omega
 have hfree:t.freeSlot (j:Int)=Z (j,ZGI):=by
  unfold SetTable.freeSlot SetTable.probe;have hf:10*ZGm t.mask=(10*ZGm t.mask-1)+1:=by unfold ZGm; omega
  rw[hf];unfold SetTable.probe.go;have hp:(t.probeStart (j:Int)).j=j:=hbits;rw[hp,e1];rfl
 have hle:t.place.size<=7:=by
  apply ZDr;intro q;have h8':t.place.size=8:=by omega
  have:=ZCz (l₁:=j::t.place.toList) (l₂:=ZBm 8) (ZB4.mpr ⟨hj,h.rise.imp λq=>ZBA q⟩) (λx hx=>by
   rcases ZBq.mp hx with e | e
   ·rw[e]; exact ZBD.mpr h8
   ·exact ZBD.mpr (h.low x e))
  simp at this;omega
 have hfit:(ZER { t with place:=ZBH t.place (ZBo t.place j) j } (ZBH es (ZBo t.place j) ((j:Int),v)).size)=ZGH:=by unfold ZER ZES;simp only[size_insert,he,h.dum];simp;rw[h.mask];split<;>omega
 unfold layNew;rw[hfree];dsimp only;rw[Zyx h];dsimp only;unfold SetTable.orStandIn;rw[hfit];rfl
theorem Tab.ins{t:SetTable}(h:Tab b t)(h8:j<8)(hj:j ∉ t.place.toList)(hs:t.place.size≠4):Tab b { t with place:=ZBH t.place (ZBo t.place j) j }:=by
 obtain⟨_,e2⟩:=ZiY h hj;refine⟨h.dum,ZkY h.rise e2,h.led,h.plain,λx hx=>?_,?_⟩
 ·have:=(ZC6 t.place (ZBo t.place j) j).mem_iff.mp hx
  rw[ZDH]at this;rcases ZBI.mp this with q | q
  ·exact h.low x q
  ·rw[ZBk.mp q]; exact h8
 ·dsimp only
  rw[size_insert,h.mask];split<;>split<;>omega
def ZmG:List (List Nat):=(ZBm 8).flatMap λa=>(ZBm 8).flatMap λb=>(ZBm 8).flatMap λc=>(ZBm 8).flatMap λd=>(ZBm 8).filterMap λe=>if a<b/\b<c/\c<d/\d<e then Z [a,b,c,d,e]else Z_
theorem Zq0{l:List Nat}(h:l.Pairwise (· < ·))(h8:∀j∈l,j<8)(h5:l.length=5):l∈ZmG:=by
 match l,h5 with
 | [a,b,c,d,e],_=>simp at h h8;unfold ZmG;simp only[ZDQ,ZBD,ZBU];refine⟨a,by omega,b,by omega,c,by omega,d,by omega,e,by omega,?_⟩;rw[if_pos (by omega)]
theorem ZyH:∀l∈ZmG,(SetTable.layClean 31 (l.map λ(n:Nat)=>(n:Int)).toArray).map (λowner=>(ZBm 32).filterMap λj=>(owner.getD j Z_).map (j,·))=Z (l.zip (ZBm 5)):=by decide +kernel
end
section
def Ze3(e:Int × Value):Int:=match e.2 with
 | .int n _=>n
 | _=>0
section
variable(prog:Program)(w:World)
def Zpx(es:List (Int × Value)):Prop:=∀e∈es,∃n t,e=((intKind prog w).hash n,ZC9 n t)
def Zd3(h:Heap)(a:Addr)(L:List Int):Prop:=∃o es ep t,h.get? a=Z o/\o.ExactSet/\o.data=.set es ep t/\Zpx prog w es.toList/\(es.toList.map Ze3).Perm L/\es.toList.map Ze3=t.place.toList.map (λ(j:Nat)=>(j:Int))/\Tab (!w.params.followText "set-order") t
end
section
variable{prog:Program}{w:World}{A:Around}{E:Value->Shared->Prop}{s:Shared}{a:Addr}{L:List Int}
theorem Zpx.elems{es:List (Int × Value)}(h:Zpx prog w es):ElemsOf (intKind prog w) es:=λe he=>by obtain⟨n,t,rfl⟩:=h e he;exact⟨⟨n,ZFN _ _ _ _,rfl⟩,rfl⟩
theorem Zd3.at'(x:Zd3 prog w h a L)(k:∀o,h.get? a=Z o->h'.get? a=Z o):Zd3 prog w h' a L:=let ⟨o,es,ep,t,e,r⟩:=x; ⟨o,es,ep,t,k o e,r⟩
def stp(L:List Int)(n:Int):List Int:=if L.contains n then L else L++[n]
theorem Zuj{k n:Int}{t:Tok}:(intKind prog w).is k (.int n t)=ZGH↔n=k:=by
 constructor
 ·intro h
  exact(intKind prog w).inj _ _ _ (ZFN _ _ _ _) h
 ·rintro rfl; exact ZFN _ _ _ _
theorem ZiL:∀(j:Nat),j<8->(intKind prog w).hash (j:Int)=(j:Int)
 | 0,_=>rfl
 | 1,_=>rfl
 | 2,_=>rfl
 | 3,_=>rfl
 | 4,_=>rfl
 | 5,_=>rfl
 | 6,_=>rfl
 | 7,_=>rfl
 | n+8,h=>by omega
theorem Tab.fits{b:Bool}{t:SetTable}(h:Tab b t):t.fits t.place.size=ZGH:=by have hf:=h.few;unfold ZER ZES;rw[h.dum,h.mask];simp;split<;>omega
theorem size_of{t:SetTable}(h:es.toList.map Ze3=t.place.toList.map (λ(j:Nat)=>(j:Int))):es.size=t.place.size:=by have:=congrArg ZB7 h;simpa using this
theorem Zl4{o:Obj}{es':Array (Int × Value)}{t t':SetTable}(ho:h.get? a=Z o)(hex:o.ExactSet)(hd:o.data=.set es ep t)(hel:Zpx prog w es'.toList)(hp:(es'.toList.map Ze3).Perm L)
  (hs:es'.toList.map Ze3=t'.place.toList.map (λ(j:Nat)=>(j:Int))) (ht:Tab (!w.params.followText "set-order") t') :
  (h.update a (ZEy es' t')).get? a=Z { o with data:=.set es' (ep+1) t' }/\Zd3 prog w (h.update a (ZEy es' t')) a L:=by
 have hg:(h.update a (ZEy es' t')).get? a=Z { o with data:=.set es' (ep+1) t' }:=by
  have:=ZCk (ZEy es' t') ho (by rw[putSet_of es' t' hd]; rfl)
  rwa [putSet_of es' t' hd]at this
 exact⟨hg,_,es',ep+1,t',hg,hex,rfl,hel,hp,hs,ht⟩
theorem Zvy{t:SetTable}(hr:Ze4 t.place)(h8:∀j∈t.place.toList,j<8)(h5:t.place.size=5)(he:es.map (·.1)=(t.place.toList.map (λ(j:Nat)=>(j:Int))).toArray)(hl:t.led=b)(hp:t.plain=ZGH) :
  ∃t',relayAll t es 20=(es,t',ZGI)/\t'.place=t.place/\Tab b t':=by
 have hc:=ZyH _ (Zq0 hr h8 (by simpa using h5));obtain⟨owner,o1,o2⟩:=ZBc.mp hc;have hsz:es.size=5:=by have:=congrArg Array.size he;simp at this;omega
 have hlen:t.place.toList.length=5:=by simpa using h5
 have z1:(t.place.toList.zip (ZBm 5)).map (·.1)=t.place.toList:=List.map_fst_zip (by rw[hlen]; simp);have z2:(t.place.toList.zip (ZBm 5)).map (·.2)=ZBm 5:=List.map_snd_zip (by rw[hlen]; simp);have hrl:t.relaid (es.map (·.1)) 20=Z ({ mask:=31,place:=t.place,dummies:=#[],finger:=t.finger,led:=t.led,moves:=t.movedTo 31,plain:=t.plain },(ZBm 5).toArray):=by
  unfold SetTable.relaid SetTable.laid;have e31:SetTable.sizeAbove 20-1=31:=by decide
  rw[e31,he,o1];show Z _=Z _;rw[o2,z1,z2]
 refine⟨{ mask:=31,place:=t.place,dummies:=#[],finger:=t.finger,led:=t.led,moves:=t.movedTo 31,plain:=t.plain },?_,rfl,⟨rfl,hr,hl,hp,h8,?_⟩⟩
 ·unfold relayAll
  rw[hrl];dsimp only;have ef:(ZBm 5).toArray.filterMap (λx=>es[x]?)=es:=by apply Array.toList_inj.mp;rw[Array.toList_filterMap];have:=filterMap_getElem?_range es;rw[hsz]at this;simpa using this
  rw[ef];have ec:coversAll (ZBm 5).toArray es.size=ZGH:=by rw[hsz]; decide
  have et:ZER { mask:=31,place:=t.place,dummies:=#[],finger:=t.finger,led:=t.led,moves:=t.movedTo 31,plain:=t.plain } es.size=ZGH:=by unfold ZER ZES;simp[h5,hsz]
  rw[ec,et];rfl
 ·dsimp only
  rw[h5];rfl
theorem Zvw{tk:Tok}{Q:Bool->Shared->Prop}(h8:j<8)(hX:Zd3 prog w s.heap a L)
  (h:∀b h',ZC5 a s.heap h'->Zd3 prog w h' a (stp L j)->Q b { s with heap:=h' }) :
  wpAny (model prog w) A (setAddHashed a (.int j tk) ((intKind prog w).hash j)) Q E s:=by
 obtain⟨o,es,ep,t,ho,hex,hd,hen,hpm,hpl,ht⟩:=hX;have hel:=hen.elems;have hsc:(ZC9 (j:Int) tk).scannable=ZGH:=rfl;have hkey:(intKind prog w).is (j:Int) (.int j tk)=ZGH:=ZFN _ _ _ _;have hsz:=size_of hpl;have hfew:=ht.few;have hf:t.fits es.size=ZGH:=by rw[hsz]; exact ht.fits
 have hsb:scanBound=4096:=rfl;have hb:es.size<scanBound:=by omega
 unfold setAddHashed setAddHashedIn;refine ZCm (ZBa (ZEG ho hd hf ?_));dsimp only;rw[byScan_of hsc hb hel];simp only[↓reduceIte];unfold setAddByScan;refine ZBa (ZBa (ZE6 (ZBa (wpAny_setScan_of hkey ho hd hf hel ?_))));cases hr:List.findIdx? (λe=>(intKind prog w).is (j:Int) e.2) es.toList with
 | some i =>
  dsimp only;obtain⟨hi,hpi,_⟩:=List.findIdx?_eq_some_iff_getElem.mp hr;have hmem:(j:Int)∈L:=by refine hpm.mem_iff.mp (ZBh.mpr ⟨es.toList[i],ZCY hi,?_⟩);obtain⟨m,u,e⟩:=hen _ (ZCY hi);rw[e]at hpi ⊢;exact Zuj.mp hpi
  refine ZBe (ZBe ?_);have e:s={ s with heap:=s.heap }:=by cases s; rfl
  have q:=h ZGI s.heap (ZGG a s.heap) ⟨o,es,ep,t,ho,hex,hd,hen,by unfold stp; rw[if_pos (by simpa using hmem)]; exact hpm,hpl,ht⟩;rw[e];exact q
 | none =>
  dsimp only;have hne:∀e∈es.toList,Ze3 e≠(j:Int):=λe he hv=>by obtain⟨m,u,e1⟩:=hen e he;have no:=List.findIdx?_eq_none_iff.mp hr e he;rw[e1]at no hv;have yes:(intKind prog w).is (j:Int) (.int m u)=ZGH:=Zuj.mpr hv;exact absurd (yes.symm.trans no) (by simp)
  have hnm:(j:Int) ∉ L:=λhm=>by obtain⟨e,he,hv⟩:=ZBh.mp (hpm.mem_iff.mpr hm);exact hne e he hv
  have hj:j ∉ t.place.toList:=λhm=>by
   have:(j:Int)∈es.toList.map Ze3:=by rw[hpl]; exact ZBh.mpr ⟨j,hm,rfl⟩
   obtain⟨e,he,hv⟩:=ZBh.mp this;exact hne e he hv
  obtain⟨mk,pl,dm,fg,ld,mv,pn⟩:=t;obtain rfl:pn=ZGH:=ht.plain;obtain rfl:dm=#[]:=ht.dum;rw[ZiL j h8,ZyW ht hsz h8 hj];dsimp only;obtain⟨_,hnj⟩:=ZiY ht hj;obtain⟨hle,_,_⟩:=Zgs ht.rise j;have hen1:Zpx prog w (ZBH es (ZBo pl j) ((j:Int),ZC9 j tk)).toList:=λe he=>by
   have:=(ZC6 _ _ _).mem_iff.mp he;rw[ZDH]at this;rcases ZBI.mp this with q | q
   ·exact hen e q
   ·exact⟨j,tk,by rw[ZiL j h8]; exact ZBk.mp q⟩
  have hpm1:((ZBH es (ZBo pl j) ((j:Int),ZC9 j tk)).toList.map Ze3).Perm (stp L j):=by unfold stp;rw[if_neg (by simpa using hnm)];refine((ZC6 _ _ _).map Ze3).trans ?_;rw[ZDH,ZBJ];exact hpm.append_right _
  have hpl1:(ZBH es (ZBo pl j) ((j:Int),ZC9 j tk)).toList.map Ze3=(ZBH pl (ZBo pl j) j).toList.map (λ(j:Nat)=>(j:Int)):=by rw[ZEs,ZEs,ZBJ,ZBJ,ZBn,ZBn,ZFu,ZFu,ZFv,ZFv,hpl];rfl
  have hs1:(ZBH es (ZBo pl j) ((j:Int),ZC9 j tk)).size=es.size+1:=size_insert _ _ _;generalize hE:ZBH es (ZBo pl j) ((j:Int),ZC9 j tk)=es1 at hen1 hpm1 hpl1 hs1 ⊢;have hz1:es1.size<=sizeLine:=by rw[ZCN]; omega
  refine ZBa (ZBe ?_);simp only[↓reduceIte];refine ZBa ?_;rw[hashByValue_scannable 8 hsc];refine ZBe ?_;rw[show plainKind (ZC9 (j:Int) tk)=ZGH from rfl];simp only[↓reduceIte];show wpAny (model prog w) A (do
    storeSet a es1 (⟨mk,ZBH pl (ZBo pl j) j,#[],fg,ld,mv,ZGH⟩:SetTable)
    if(!ZGI&&ZEf (⟨mk,ZBH pl (ZBo pl j) j,#[],fg,ld,mv,ZGH⟩:SetTable))=ZGH then _ else _) _ E s
  refine ZBa (wpAny_storeSet_of ho hd ?_ hz1);have hsb1:=ZCi s.heap a (ZEy es1 (⟨mk,ZBH pl (ZBo pl j) j,#[],fg,ld,mv,ZGH⟩:SetTable))
  by_cases h4:pl.size=4
  ·have hm:mk=7:=by have q:=ht.mask; dsimp only at q; rw[h4]at q; exact q
   have htf:ZEf (⟨mk,ZBH pl (ZBo pl j) j,#[],fg,ld,mv,ZGH⟩:SetTable)=ZGH:=by unfold ZEf ZES;simp[size_insert,h4,ht.dum,hm]
   have hg:(s.heap.update a (ZEy es1 (⟨mk,ZBH pl (ZBo pl j) j,#[],fg,ld,mv,ZGH⟩:SetTable))).get? a=Z { o with data:=.set es1 (ep+1) (⟨mk,ZBH pl (ZBo pl j) j,#[],fg,ld,mv,ZGH⟩:SetTable) }:=by
    have:=ZCk (ZEy es1 (⟨mk,ZBH pl (ZBo pl j) j,#[],fg,ld,mv,ZGH⟩:SetTable)) ho (by rw[putSet_of _ _ hd]; rfl)
    rwa [putSet_of _ _ hd]at this
   have hh:es1.map (·.1)=((ZBH pl (ZBo pl j) j).toList.map (λ(j:Nat)=>(j:Int))).toArray:=by
    apply Array.toList_inj.mp;rw[Array.toList_map,<-hpl1];refine ZCF λe he=>?_;obtain⟨m,u,e1⟩:=hen1 e he;have hm:m∈es1.toList.map Ze3:=ZBh.mpr ⟨e,he,by rw[e1]; rfl⟩;rw[hpl1]at hm;obtain⟨k,hk,rfl⟩:=ZBh.mp hm;have hk8:k<8:=by
     have:=(ZC6 _ _ _).mem_iff.mp hk;rw[ZDH]at this;rcases ZBI.mp this with q | q
     ·exact ht.low k q
     ·rw[ZBk.mp q]; exact h8
    rw[e1];exact ZiL (prog:=prog) (w:=w) k hk8
   obtain⟨t',r1,r2,r3⟩:=Zvy (b:=!w.params.followText "set-order") (t:=(⟨mk,ZBH pl (ZBo pl j) j,#[],fg,ld,mv,ZGH⟩:SetTable)) (es:=es1) (ZkY ht.rise hnj)
    (λk hk=>by
     have:=(ZC6 _ _ _).mem_iff.mp hk;rw[ZDH]at this;rcases ZBI.mp this with q | q
     ·exact ht.low k q
     ·rw[ZBk.mp q]; exact h8) (by dsimp only; rw[size_insert,h4]) hh ht.led ht.plain
   have hgr:SetTable.grown es1.size=20:=by rw[hs1,hsz,h4]; rfl
   rw[htf];simp only[Bool.not_false,Bool.and_self,↓reduceIte];rw[hgr,r1];dsimp only;refine ZBa (ZBe (ZBa (wpAny_storeSet_of hg rfl ?_ hz1)));obtain⟨_,hS2⟩:=Zl4 (prog:=prog) (t':=t') hg hex rfl hen1 hpm1 (by rw[r2]; exact hpl1) r3;exact ZBe (ZBe (h ZGH _ (hsb1.trans (ZCi _ a _)) hS2))
  ·have htf:ZEf (⟨mk,ZBH pl (ZBo pl j) j,#[],fg,ld,mv,ZGH⟩:SetTable)=ZGI:=by
    unfold ZEf ZES;have q:=ht.mask;dsimp only at q;simp only[size_insert];rw[q];simp;have:=hfew;dsimp only at this;split<;>omega
   rw[htf];simp only[Bool.and_false,ZDc,↓reduceIte];obtain⟨_,hS1⟩:=Zl4 (prog:=prog) (t':=(⟨mk,ZBH pl (ZBo pl j) j,#[],fg,ld,mv,ZGH⟩:SetTable)) ho hex hd hen1 hpm1 hpl1 (ht.ins h8 hj h4);exact ZBe (ZBe (h ZGH _ hsb1 hS1))
end
section
variable{prog:Program}{w:World}{A:Around}{E:Value->Shared->Prop}{s:Shared}
abbrev Zdc(w:World):Obj:={ cls:=.type "set",dict:=Z_,data:=.set #[] 0 (.fresh 0 0 (!w.params.followText "set-order")) }
theorem Zn5(v:Value){Q₁:Value->Shared->Prop}(h:Q₁ (.ref s.heap.objs.size) { s with heap:=s.heap.push (Zdc w) }) :
  codeAny (model prog w) A (.call (.builtin "set.__new__") ⟨[.type "set",v],[]⟩) (wants Q₁ E) s:=by
 refine codeAny_of_tree ?_;show wpAny _ A.in1 (do checkBuiltinCall "set.__new__" ⟨[.type "set",v],[]⟩; again (.builtin "set.__new__" ⟨[.type "set",v],[]⟩)) _ _ s;refine ZBa (ZFj (PySem.F.newCall_set_1 v) (ZBe ⟨ZDF ZGn _,ZCL PySem.F.entry_set_new ?_⟩));rw[ZCo ZGn _];unfold Builtin.«set.__new__» Builtin.Frozenset.newClass;have hsub:=sub_set_self;obtain⟨hp,g,d,tk,os⟩:=s;dsimp only
 wp_walk
 refine ZEg (ZBe ?_);dsimp only;simp only[newObj];exact ZBa (wpAny_alloc (ZBe (ZBe h)))
theorem Zu3(h:Heap):Zd3 prog w (h.push (Zdc w)) h.objs.size [] :=
 ⟨_,#[],0,_,ZBw _ rfl,⟨rfl,rfl,rfl⟩,rfl,λe he=>by simp at he,.nil,rfl,Tab.fresh _⟩
theorem Zi2:∀(l acc:List Int) (x:Int),HM.dedup acc (l++[x])=stp (HM.dedup acc l) x
 | [],acc,x=>by show HM.dedup acc [x]=stp acc x;unfold HM.dedup stp;split<;>rfl
 | y::l,acc,x=>by
  show HM.dedup acc (y::(l++[x]))=_;unfold HM.dedup;split
  ·exact Zi2 l acc x
  ·exact Zi2 l _ x
variable{R:Result->Shared->Prop}{I:Addr}{fp wr:List Addr}{G:Array GenState->Array GenState->Prop}{P:Nat->Value->Prop}{St:Nat->Shared->Prop}
theorem ZtX(W:WalksS prog w A.in1 I fp wr G ns.length P St)(S:Addr)(hSf:S ∉ fp)(hval:∀i v,P i v->∃t,v=.int (ns.getD i 0) t)(hb:∀n∈ns,0<=n/\n<8) :
  ∀(k i:Nat) (s:Shared),ns.length-i=k->i<=ns.length->St i s->Zd3 prog w s.heap S (HM.dedup [] (ns.take i)) ->
   (∀s',Moved (S::wr) G s s'->Zd3 prog w s'.heap S (HM.dedup [] ns)->R (.ok (.ret .none)) s') ->
   codeAny (model prog w) A (.builtin "set.update.loop" ⟨[.ref S,.ref I],[]⟩) R s:=by
 have hSw:S ∉ wr:=λh=>hSf (W.sub _ h);have hsub:∀b∈wr,b∈S::wr:=λb hb=>ZBi _ hb;intro k
 induction k with
 | zero =>
  intro i s hk hi hst hS hR;obtain rfl:i=ns.length:=by omega
  rw[List.take_length]at hS;refine ZCL F.entry_set_update_loop ?_;rw[ZCo F.plain_set_update_loop _];show wpAny _ A.in1 (pyNext (.ref I) >>= _) _ _ s;refine ZBa (W.done s _ _ hst λs' hm=>?_);show wpAny _ A.in1 (ret ZCf) _ _ s';exact ZBe (hR s' (hm.mono hsub) (hS.at' λo e=>hm.heap S o hSw e))
 | succ k ih =>
  intro i s hk hi hst hS hR;have hlt:i<ns.length:=by omega
  refine ZCL F.entry_set_update_loop ?_;rw[ZCo F.plain_set_update_loop _];show wpAny _ A.in1 (pyNext (.ref I) >>= _) _ _ s;refine ZBa (W.item i s _ _ hlt hst λv s' hP hst' hm=>?_);obtain⟨t,rfl⟩:=hval i v hP;have hS':=hS.at' (h':=s'.heap) λo e=>hm.heap S o hSw e;show wpAny _ A.in1 (holding [ZC9 (ns.getD i 0) t] (setAdd S (.int (ns.getD i 0) t)) >>= _) _ _ s';refine ZBa (ZCm ?_);unfold setAdd;refine ZCm (ZBa ((intKind prog w).pyHash (k:=ns.getD i 0) (ZFN _ _ _ _) ?_));have hbi:=hb (ns.getD i 0) (by rw[ZCS,ZBu hlt]; exact ZCY hlt);obtain⟨j,ej⟩:∃j:Nat,ns.getD i 0=(j:Int):=⟨(ns.getD i 0).toNat,by omega⟩;have e:stp (HM.dedup [] (ns.take i)) (ns.getD i 0)=HM.dedup [] (ns.take (i+1)):=by rw[<-Zi2,List.take_succ,ZCS];simp[hlt]
  rw[ej]at e hbi ⊢;refine Zvw (s:={ s' with toks:=s'.toks+1 }) (by omega) hS' λb h' hsb hS2=>?_;rw[e]at hS2;refine ZBe ⟨ZDF F.plain_set_update_loop _,ih (i+1) _ (by omega) hlt (W.frame _ s' _ _ hst' (ZGh _) λb hb o e=>?_) hS2 λs'' hm'' hS''=>?_⟩
  ·rw[hsb.2 b (λh:b=S=>hSf (by rw[<-h]; exact hb))]; exact e
  ·refine hR s'' (Moved.trans W.gtrans ((hm.mono hsub).then_heap (ZGh _) λb o hb e=>?_) hm'') hS''
   rw[hsb.2 b (λh:b=S=>hb (by rw[h]; exact ZBf))]; exact e
set_option maxHeartbeats 3200000 in
theorem Zum{l:Addr}{items:Array Value}(hh:A.handled=Z_)(hl:s.heap.IsList l items)(hi:IntsAre items.toList ns)(hb:∀n∈ns,0<=n/\n<8)
  (h:∀(h':Heap) (tk:Nat),Zd3 prog w h' s.heap.objs.size (HM.dedup [] ns)->(∀b o,b<s.heap.objs.size->s.heap.get? b=Z o->h'.get? b=Z o)->Q (.ref s.heap.objs.size) { s with heap:=h',toks:=tk }) :
  wpAny (model prog w) A (call (.type "set") [.ref l]) Q E s:=by
 have hsz:items.size=ns.length:=by rw[<-hi.length,ZBB]
 obtain⟨c,tl,hmro⟩:=ZCZ.mro;have hmade:=ZCZ.made;have hsub:=ZCZ.sub;refine ZFJ (codeAny_of_tree ?_);show wpAny _ _ (callAny (.type "set") _) _ _ _;refine ZBe ⟨Code.quiet_builtin _ (by decide +kernel),ZCL PySem.F.entry_type_call ?_⟩;rw[Around.under_plain (weight_type_call_type "set" [.ref l] []) rfl];have h1:=ZCZ.notType;have h2:=ZCZ.canCreate;have hct:=PySem.F.typeCall_set_1 (.ref l)
 repeat (any_goals (first | assumption | wp_step))
 refine ZDi (Zn5 (.ref l) (E:=E) (Q₁:=λobj s₁=>obj=.ref s.heap.objs.size/\s₁={ s with heap:=s.heap.push (Zdc w) }) ⟨rfl,rfl⟩) λr s₁ hr=>?_;cases r with
 | error e=>exact hr
 | ok fl =>
  cases fl with
  | ret obj =>
   obtain⟨rfl,rfl⟩:=hr;have hX:=Zu3 (prog:=prog) (w:=w) s.heap;have hS:(s.heap.push (Zdc w)).get? s.heap.objs.size=Z (Zdc w):=ZBw _ rfl;have hT:Shared.TypeIs { s with heap:=s.heap.push (Zdc w) } (.ref s.heap.objs.size) "set":=⟨_,hS,rfl⟩;have hli:=ZCZ.init.lookup;have hbi:=ZCZ.init.bind (.ref s.heap.objs.size)
   repeat (any_goals (first | assumption | wp_step))
   refine ZDi (codeAny_call_builtin (R:=wants (λr s₂=>r=.none/\∃h' tk,s₂={ s with heap:=h',toks:=tk }/\Zd3 prog w h' s.heap.objs.size (HM.dedup [] ns) /\
     (∀b o,b<s.heap.objs.size->s.heap.get? b=Z o->h'.get? b=Z o)) E) ZCZ.init.plain PySem.F.entry_set_init (check_set_init_1 hT ?_)) λr₂ s₂ hr₂=>?_
   ·obtain⟨⟨ocls,odict,odata,oslots⟩,hol,hcl,nl,hdl⟩:=hl
    simp only at hcl hdl;subst hcl; subst hdl;have hol':(s.heap.push (Zdc w)).get? l=Z { cls:=.type "list",dict:=odict,data:=.seq items nl,slots:=oslots }:=ZBg _ hol;have hsls:=PySem.F.sub_list_set;have hslf:=PySem.F.sub_list_frozenset;have hne:(ZDg "list" == ZDg "dict")=ZGI:=by decide
    have hl1:(s.heap.push (Zdc w)).IsList l items:=⟨_,hol',rfl,nl,rfl⟩;unfold Builtin.«set.__init__» noKeywords Builtin.Frozenset.updateFrom;generalize hPI:pyIter=PI
    wp_walk
    subst hPI;refine ZFF hl1 (ZBa (wpAny_runValue ?_));have hlS:l<s.heap.objs.size:=ZBt hol;have hh3:A.in1.in1.in1.handled=Z_:=by simp[hh]
    have hneI:l≠(s.heap.push (Zdc w)).objs.size:=by rw[ZDd]; exact ZBA (ZDI hlS)
    have hSf:s.heap.objs.size ∉ [(s.heap.push (Zdc w)).objs.size,l]:=by rw[ZDd]; simp only[ZBq,ZBk,List.not_mem_nil,or_false,not_or];exact⟨ZBA (ZDs _),ZEo hlS⟩
    have Wl:=(Walks.list (prog:=prog) (w:=w) hh3 _ l hneI items).toS;rw[hsz]at Wl;refine ZtX Wl s.heap.objs.size hSf (λi v hv=>IntsAre.int_at hi i v (by rw[ZCe]; exact hv)) hb (ns.length-0) 0 _ (by omega) (ZCC _)
     ⟨⟨_,ZBw _ rfl,rfl,rfl⟩,hl1.push _⟩ (hX.at' λo e=>ZBg _ e) λs' hm hS'=>?_
    obtain⟨h',g',d',tk',os'⟩:=s';have eg:g'=s.gens:=hm.gens;have ed:d'=s.drawn:=hm.drawn;have eo:os'=s.os:=hm.os;subst eg; subst ed; subst eo
    show wpAny _ _ _ _ _ _;refine ZBe ?_;show wpAny _ _ (ret ZCf) _ _ _;refine ZBe ⟨rfl,h',tk',rfl,hS',λb o hb e=>?_⟩;refine hm.heap b o ?_ (ZBg _ (ZBg _ e));simp only[ZBq,ZBk,List.not_mem_nil,or_false,not_or];exact⟨ZBA hb,by rw[ZDd]; exact ZBA (ZDI hb)⟩
   ·cases r₂ with
    | error e=>exact hr₂
    | ok fl₂ =>
     cases fl₂ with
     | ret r =>
      obtain⟨rfl,h',tk,rfl,hS',hk'⟩:=hr₂
      repeat (any_goals (first | assumption | wp_step))
      exact h _ _ hS' hk'
     | _=>exact hr₂.elim
  | _=>exact hr.elim
end
end
section
theorem ZcJ:Slot "set_iterator" "__next__" "set_iterator.__next__" :=
 .of (owner:="set_iterator") (n:="__next__") (by rw[typeLookup_type,builtinLookup_eq_fast]; kernel_rfl) (by decide +kernel) (by decide +kernel) (by decide +kernel)
  (by first | exact .inl (by decide +kernel) | exact .inr (by decide +kernel)) (by rw[isSubtype_type]; kernel_rfl)
theorem Zjb:entryFor table "set_iterator.__next__" = Z Builtin.«set_iterator.__next__»:=entryFor_of_tree (by kernel_rfl)
theorem ZjX:Slot "set_iterator" "__iter__" "set_iterator.__iter__" :=
 .of (owner:="set_iterator") (n:="__iter__") (by rw[typeLookup_type,builtinLookup_eq_fast]; kernel_rfl) (by decide +kernel) (by decide +kernel) (by decide +kernel)
  (by first | exact .inl (by decide +kernel) | exact .inr (by decide +kernel)) (by rw[isSubtype_type]; kernel_rfl)
theorem Zn6:entryFor table "set_iterator.__iter__" = Z Builtin.«dict_keyiterator.__iter__» :=
 entryFor_alias (id':="dict_keyiterator.__iter__") (by kernel_rfl) rfl (by decide +kernel) (by kernel_rfl)
theorem Zl1:entryFor table "set.__iter__" = Z Builtin.«frozenset.__iter__» :=
 entryFor_alias (id':="frozenset.__iter__") (by kernel_rfl) rfl (by decide +kernel) (by kernel_rfl)
theorem Zqv:Manifest.owners.lookup (String.ofList ['r','o','t','a','r','e','t','i','_','t','e','s'].reverse)=Z Manifest.sig_set_iterator:=by kernel_rfl
theorem ZjW(a:Value):argsOk "set_iterator.__next__" ⟨[a],[]⟩:=by unfold argsOk; rw[signature?_of (id:="set_iterator.__next__") (n:=['_','_','t','x','e','n','_','_']) (o:=['r','o','t','a','r','e','t','i','_','t','e','s']) (by kernel_rfl) Zqv]; kernel_rfl
theorem Zqa(a:Value):argsOk "set_iterator.__iter__" ⟨[a],[]⟩:=by unfold argsOk; rw[signature?_of (id:="set_iterator.__iter__") (n:=['_','_','r','e','t','i','_','_']) (o:=['r','o','t','a','r','e','t','i','_','t','e','s']) (by kernel_rfl) Zqv]; kernel_rfl
theorem Zmf{α:Type}:∀(l:List α) (i:Nat) (h:i<l.length),(l[i]::l.eraseIdx i).Perm l
 | x::l,0,_=>.refl _
 | x::l,i+1,h=>by
  have h':i<l.length:=by simpa using h
  show(l[i]::x::l.eraseIdx i).Perm (x::l);exact(List.Perm.swap x l[i] _).trans ((Zmf l i h').cons x)
theorem Znn{α:Type}(next:Nat->Nat):∀(n k:Nat) (left:List α) (out:Array α),left.length=n->(ZF7.go next n k left out).toList.Perm (out.toList++left)
 | 0,k,left,out,h=>by rw[ZCD h,ZBW];exact .refl _
 | n+1,k,left,out,h=>by
  have hl:next k % left.length<left.length:=Nat.mod_lt _ (by omega)
  unfold ZF7.go;rw[ZBu hl];dsimp only;refine(Znn next n (k+1) _ _ (by rw[List.length_eraseIdx_of_lt hl]; omega)).trans ?_
  rw[ZDH,ZC3];refine List.Perm.append_left _ ?_;exact Zmf left _ hl
theorem Zm8{α:Type}(next:Nat->Nat)(xs:Array α):(ZF7 next xs).toList.Perm xs.toList:=by
 have:=Znn next xs.size 0 xs.toList #[] (by simp)
 simpa [ZF7]using this
end
section
structure Ze6(w:World)(h:Heap)(a:Addr)(es:Array (Int × Value))(ep:Nat)(t:SetTable):Prop where
 obj:∃o,h.get? a=Z o/\o.ExactSet/\o.data=.set es ep t
 fit:t.fits es.size=ZGH
 siz:es.size=t.place.size
 tab:Tab (!w.params.followText "set-order") t
theorem Ze6.at'{w:World}{t:SetTable}(x:Ze6 w h a es ep t)(k:∀o,h.get? a=Z o->h'.get? a=Z o):Ze6 w h' a es ep t :=
 ⟨let ⟨o,e,r⟩:=x.obj; ⟨o,k o e,r⟩,x.fit,x.siz,x.tab⟩
def Zes(w:World)(a:Addr)(es:Array (Int × Value))(ep:Nat):Array (Int × Value):=if w.params.followText "set-order" then ZF7 (w.params.setOrder a ep) es else es
theorem Zki(w:World)(a:Addr)(es:Array (Int × Value))(ep:Nat):(Zes w a es ep).toList.Perm es.toList:=by
 unfold Zes; split
 ·exact Zm8 _ _
 ·exact .refl _
theorem Zj3(w:World)(a:Addr)(es:Array (Int × Value))(ep:Nat):(Zes w a es ep).size=es.size:=by have:=(Zki w a es ep).length_eq;simpa using this
def Zh0(h:Heap)(it a:Addr)(slot i n ep:Nat):Prop:=∃o,h.get? it=Z o/\o.cls=.type "set_iterator"/\o.data=.fields #[.int slot 0,.int i 0,.ref a,.int n 0,.int ep 0]
theorem Zh0.typeIs{s:Shared}(x:Zh0 s.heap it a slot i n ep):s.TypeIs (.ref it) "set_iterator":=let ⟨o,ho,hc,_⟩:=x; ⟨o,ho,hc⟩
theorem Zh0.at'(x:Zh0 h it a slot i n ep)(k:∀o,h.get? it=Z o->h'.get? it=Z o):Zh0 h' it a slot i n ep:=let ⟨o,e,r⟩:=x; ⟨o,k o e,r⟩
section
variable{prog:Program}{w:World}{A:Around}{E:Value->Shared->Prop}{s:Shared}{it a:Addr}{es:Array (Int × Value)}{ep:Nat}{t:SetTable}
theorem Zu5(x:Ze6 w s.heap a es ep t)
  (hQ:Q (.ref s.heap.objs.size) { s with heap:=s.heap.push { cls:=.type "set_iterator",data:=.fields #[.int 0 0,.int 0 0,.ref a,.int es.size 0,.int ep 0] } }) :
  wpAny (model prog w) A (pyIter (.ref a)) Q E s:=by
 obtain⟨o,ho,hex,hd⟩:=x.obj;have hT:s.TypeIs (.ref a) "set":=⟨o,ho,hex.1⟩;refine ZFH hT ZGp (ZCj ZGp hT Zl1 ?_ (PySem.F.args_set_iter_1 _));unfold Builtin.«frozenset.__iter__» Builtin.Frozenset.slot0 slotArgs Builtin.Frozenset.addrOf Builtin.Frozenset.sizeOf;refine ZBa (ZBa (ZBe (ZBe ?_)));dsimp only;refine ZBa (ZBa (ZFd ho hd x.fit (ZBe ?_)));have hdr:∀{R:Bool->Shared->Prop} {A':Around} {E':Value->Shared->Prop},R ZGI s->wpAny (model prog w) A' (setDrawn a) R E' s:=λ{R A' E'} hR=>by unfold setDrawn setsByText;refine ZBa (ZEG ho hd x.fit (ZBa (ZBa (ZEg (ZBe (ZBe ?_))))));obtain⟨mk,pl,dm,fg,ld,mv,pn⟩:=t;obtain rfl:pn=ZGH:=x.tab.plain;show R (!_&&(!ZGH&&_)) s;simpa using hR
 refine ZBa (hdr ?_);rw[if_neg (by simp)];refine ZBa (ZBe (ZBa (wpAny_setEpoch_of ho hd x.fit ?_)));show wpAny (model prog w) A.in1 (newFields "set_iterator" [rawInt 0,rawInt 0,ZB2 a,rawInt (es.size:Int),rawInt (ep:Int)] >>= _) _ E s;refine ZBa (ZBV (ZBe ⟨_,rfl,"set_iterator",_,⟨_,ZBw _ rfl,rfl⟩,ZcJ.lookup,?_⟩));simpa [rawInt]using hQ
theorem Zk1{R:Option (Value × Nat)->Shared->Prop}(x:Ze6 w s.heap a es ep t)(hs:w.params.followText "set-order" = ZGI->ZBo t.place slot=i)
  (hR:R ((Zes w a es ep)[i]?.map λe=>(e.2,if w.params.followText "set-order" then slot else t.place.getD i 0+1)) s):wpAny (model prog w) A (setNext a slot i ep) R E s:=by
 obtain⟨o,ho,hex,hd⟩:=x.obj;unfold setNext setsByText;refine ZBa (ZEG ho hd x.fit ?_);dsimp only;refine ZBa (ZBa (ZEg (ZBe ?_)));dsimp only;cases hb:w.params.followText "set-order" with
 | true=>have hb':(model prog w).w.params.followText "set-order" = ZGH:=hb;rw[hb',if_pos rfl];unfold Zes at hR;rw[hb,if_pos rfl]at hR;simp only[if_pos]at hR;refine ZDz (λq=>absurd q (by simp)) λ_=>?_;unfold setWalk setsByText;refine ZBa (ZBa (ZEG ho hd x.fit ?_));dsimp only;refine ZBa (ZBa (ZEg (ZBe ?_)));dsimp only;rw[hb',if_pos rfl];exact ZBa (ZEg (ZBe (ZBe hR)))
 | false =>
  have hb':(model prog w).w.params.followText "set-order" = ZGI:=hb;rw[hb',if_neg (by simp)];unfold Zes at hR;rw[hb]at hR;simp only[ZDc,if_false]at hR;have hi:=hs hb;have hled:t.led=ZGH:=by rw[x.tab.led,hb]; rfl
  have hsz:=x.siz;obtain⟨mk,pl,dm,fg,ld,mv,pn⟩:=t;obtain rfl:pn=ZGH:=x.tab.plain;obtain rfl:ld=ZGH:=hled;refine ZDz (λq=>absurd (show(!ZGH&&_)=ZGH from q) (by simp)) λ_=>?_;refine ZBa ?_;refine ZDz (λq=>absurd (show(!ZGH&&_)=ZGH from q) (by simp)) λ_=>?_;refine ZBe ?_;dsimp only at hi hsz ⊢;rw[hi];refine ZBe ?_
  by_cases hlt:i<es.size
  ·have h1:es[i]?=Z es[i]:=ZDK hlt
   have h2:pl[i]?=Z (pl.getD i 0):=by simp[ZDu,show i<pl.size by omega]
   rw[h1]at hR ⊢;rw[h2];exact hR
  ·have h1:es[i]?=Z_:=ZEN (by omega)
   rw[h1]at hR ⊢;exact hR
theorem Zu8{e:Int × Value}{Q:Option Value->Shared->Prop}(hit:Zh0 s.heap it a slot i es.size ep)(x:Ze6 w s.heap a es ep t)(hs:w.params.followText "set-order" = ZGI->ZBo t.place slot=i)(he:(Zes w a es ep)[i]?=Z e)
  (hQ:∀h',Zh0 h' it a (if w.params.followText "set-order" then slot else t.place.getD i 0+1) (i+1) es.size ep->ZC5 it s.heap h'->Q (Z e.2) { s with heap:=h' }) :
  wpAny (model prog w) A (pyNext (.ref it)) Q E s:=by
 obtain⟨o,ho,hc,hd⟩:=id hit;obtain⟨os,hos,hex,hds⟩:=x.obj;unfold pyNext;refine ZBa (ZFw (wpAny_callSpecial?_slot (name:=ZBY "__next__") hit.typeIs ZcJ
  (ZCj ZcJ hit.typeIs Zjb ?_ (ZjW _))))
 unfold Builtin.«set_iterator.__next__» slotArgs;refine ZBa (ZBe ?_);dsimp only;refine ZBa (ZFh ho hd ?_);dsimp only;refine ZBa (ZFd hos hds x.fit ?_);refine ZDz (λq=>absurd q (by simp)) λ_=>?_;simp only[ZCd];refine ZBa (Zk1 x hs ?_);rw[he];dsimp only[Option.map_some];refine ZBa (ZDN ho hd (by simp) ?_);have g1:(s.heap.update it (ZGv (·.setIfInBounds 0 (rawInt ((if w.params.followText "set-order" = ZGH then slot else t.place.getD i 0+1:Nat):Int))))).get? it=Z _:=ZCk _ ho (ZD7 (ZCA hd _));refine ZBa (ZDN g1 (ZCA hd _) (by simp) ?_);refine ZBe ⟨_,rfl,ZBe (hQ _ ⟨_,ZCk _ g1 (ZD7 (ZCA (ZCA hd _) _)),?_,?_⟩ ((ZCi ..).trans (ZCi ..)))⟩
 ·rw[ZEH,ZEH]; exact hc
 ·rw[ZCA (ZCA hd _)]; simp[rawInt]
theorem Zv0{Q:Option Value->Shared->Prop}(hh:A.handled=Z_)(hit:Zh0 s.heap it a slot i es.size ep)(x:Ze6 w s.heap a es ep t)(hs:w.params.followText "set-order" = ZGI->ZBo t.place slot=i)(he:es.size<=i)
  (hQ:∀h',Heap.ExtBut it s.heap h'->Q Z_ { s with heap:=h' }):wpAny (model prog w) A (pyNext (.ref it)) Q E s:=by
 obtain⟨o,ho,hc,hd⟩:=id hit;obtain⟨os,hos,hex,hds⟩:=x.obj;have hn:(Zes w a es ep)[i]?=Z_:=ZEN (by rw[Zj3]; exact he);unfold pyNext;refine ZBa (ZFw (wpAny_callSpecial?_slot (name:=ZBY "__next__") hit.typeIs ZcJ
  (ZCj ZcJ hit.typeIs Zjb ?_ (ZjW _))))
 unfold Builtin.«set_iterator.__next__» slotArgs;refine ZBa (ZBe ?_);dsimp only;refine ZBa (ZFh ho hd ?_);dsimp only;refine ZBa (ZFd hos hds x.fit ?_);refine ZDz (λq=>absurd q (by simp)) λ_=>?_;simp only[ZCd];refine ZBa (Zk1 x hs ?_);rw[hn];dsimp only[Option.map_none];refine ZBa (ZDN ho hd (by simp) ?_);refine ZBa ?_;simp only[newExc,newTuple];refine ZBa (ZBV ?_ (by size_fits));refine ZBa (m:=ZD8 _ _) (ZFj (a:=ZCf) (by first | rfl | (simp only[ZD8]; rfl)) ?_)
 refine ZBV ?_ (by size_fits);simp only[raiseNew];refine ZBa (wpAny_handled ?_);rw[show A.in1.handled=Z_ from hh];refine ZBa (ZBe (wpAny_throw ?_));refine ZBa (ZFX (T:="StopIteration") (b:=ZGH) ⟨_,ZBw _ rfl,rfl⟩ isSubtype_stop ?_);exact ZBe (hQ _ (((ZCi ..).extBut.push _).push _))
theorem ZvJ(hit:Zh0 s.heap it a slot i n ep)(h:Q (.ref it) s):wpAny (model prog w) A (pyIter (.ref it)) Q E s:=by refine ZFH hit.typeIs ZjX (ZCj ZjX hit.typeIs Zn6 ?_ (Zqa _));show wpAny _ _ (ret (.ref it)) _ _ s;exact ZBe ⟨_,rfl,"set_iterator",_,hit.typeIs,ZcJ.lookup,h⟩
theorem Zus(hh:A.handled=Z_)(I a:Addr)(hne:a≠I)(es:Array (Int × Value))(ep:Nat)(t:SetTable) :
  Walks prog w A I [I,a] [I] es.size (λi v=>∃e,(Zes w a es ep)[i]?=Z e/\v=e.2) (λi h=>∃slot,Zh0 h I a slot i es.size ep/\Ze6 w h a es ep t/\(w.params.followText "set-order" = ZGI->ZBo t.place slot=i)) where
 sub:=λb hb=>by simp at hb; simp[hb]
 frame:=λ_ _ _ ⟨slot,h1,h2,h3⟩ hk=>⟨slot,h1.at' λo e=>hk I (by simp) o e,h2.at' λo e=>hk a (by simp) o e,h3⟩
 item:=λi s Q E hi ⟨slot,h1,h2,h3⟩ hQ=>by
  have hlt:i<(Zes w a es ep).size:=by rw[Zj3]; exact hi
  have hx:(Zes w a es ep)[i]?=Z (Zes w a es ep)[i]:=ZDK hlt;refine Zu8 h1 h2 h3 hx λh' hit' hs'=>?_;refine hQ _ h' s.toks ⟨_,hx,rfl⟩ ⟨_,hit',h2.at' λo e=>hs'.extBut a o hne e,λhb=>?_⟩ λb o hb e=>hs'.extBut b o (λh=>hb (by simp[h])) e;rw[hb];exact Zst h2.tab.rise (by rw[<-h2.siz]; exact hi)
 done:=λs Q E ⟨slot,h1,h2,h3⟩ hQ=>Zv0 hh h1 h2 h3 (ZBl _) λh' he'=>hQ h' s.toks λb o hb e=>he' b o (λh=>hb (by simp[h])) e
 self:=λ_ _ _ _ ⟨slot,h1,_⟩ hQ=>ZvJ h1 hQ
end
end
end HP
namespace HP
open PySem PySem.W PyProof.Rows
variable{p:Array Nat}{h h':Heap}{ep i j m n:Nat}{Q:Nat × Array Nat->Prop}
section
variable{α β:Type}
def ZcG(o:Nat->Nat->Bool)(n:Nat):KasT α->(α->Prop)->Prop
 | .ret a,Q=>Q a
 | .ask i j k,Q=>i<n/\j<n/\ZcG o n (k (o i j)) Q
theorem ZcG.bnd{o:Nat->Nat->Bool}{n:Nat}{f:α->KasT β}{Q:β->Prop}:∀(t:KasT α),ZcG o n t (λa=>ZcG o n (f a) Q)->ZcG o n (t.bind f) Q
 | .ret a,h=>h
 | .ask i j k,h=>⟨h.1,h.2.1,ZcG.bnd (k (o i j)) h.2.2⟩
end
structure Pm(n:Nat)(p:Array Nat):Prop where
 pos:0<n
 perm:p.Perm (List.toArray (ZBm n))
theorem Pm.size{n:Nat}{p:Array Nat}(h:Pm n p):p.size=n:=by have:=h.perm.size_eq;simpa using this
theorem Pm.lt(h:Pm n p)(i:Nat):p.getD i 0<n:=by
 by_cases hi:i<p.size
 ·have e:p.getD i 0=p[i]:=by simp[ZDu,hi]
  rw[e];have:=(ZFx.mp h.perm).mem_iff (a:=p[i]);have h2:=this.mp (by simp);simpa using h2
 ·have e:p.getD i 0=0:=by simp[ZDu,hi]
  rw[e]; exact h.pos
theorem Pm.rev(h:Pm n p)(i j:Nat):Pm n (kas_rev p i j):=⟨h.pos,(mirror_perm _ _ _ _).trans h.perm⟩
theorem Pm.bub(h:Pm n p)(i j:Nat):Pm n (bubble p i j):=⟨h.pos,(bubble_perm _ _ _).trans h.perm⟩
theorem getD_eq?(p:Array Nat)(i:Nat):p.getD i 0=(p[i]?).getD 0:=by simp[Array.getD_eq_getD_getElem?]
section
variable(O:KeyOrd)(key:Nat->O.α)
def Ka(p:Array Nat)(i:Nat):O.α:=key (p.getD i 0)
def Up(p:Array Nat)(k:Nat):Prop:=∀i j,i<=j->j<k->O.kle (Ka O key p i) (Ka O key p j)
def Dn(p:Array Nat)(k:Nat):Prop:=∀i j,i<=j->j<k->O.kle (Ka O key p j) (Ka O key p i)
def Ev(p:Array Nat)(m q:Nat):Prop:=∀i,m-(q+1)<=i->i<m->Ka O key p i=Ka O key p (m-1)
abbrev orc:Nat->Nat->Bool:=λi j=>O.blt (key i) (key j)
variable{O key}{p:Array Nat}{n:Nat}
theorem Zqo(hj:j<=p.size)(k:Nat):Ka O key (kas_rev p i j) k=if i<=k/\k<j then Ka O key p (i+j-1-k)else Ka O key p k:=by unfold Ka kas_rev;rw[getD_eq?,getElem?_mirror_all hj];split<;>rw[<-getD_eq?]
theorem Zkf(hj:j<=p.size)(h:∀k,i<=k->k<j->Ka O key p k=Ka O key p (j-1))(k:Nat):Ka O key (kas_rev p i j) k=Ka O key p k:=by
 rw[Zqo hj];split
 ·rename_i hk
  rw[h _ (by omega) (by omega),h k hk.1 hk.2]
 ·rfl
theorem ZuI{s d:Nat}(hs:s<p.size)(hd:d<=s)(k:Nat):Ka O key (bubble p s d) k=if k=s-d then Ka O key p s else if s-d<k/\k<=s then Ka O key p (k-1)else Ka O key p k:=by
 unfold Ka;rw[getD_eq?,getElem?_bubble hs d hd]
 by_cases h1:k=s-d
 ·rw[if_pos h1,if_pos h1,<-getD_eq?]
 ·rw[if_neg h1,if_neg h1]
  by_cases h2:s-d<k/\k<=s
  ·rw[if_pos h2,if_pos h2,<-getD_eq?]
  ·rw[if_neg h2,if_neg h2,<-getD_eq?]
theorem Up.one:Up O key p 1:=λi j h1 h2=>by
 obtain rfl:i=j:=by omega
 exact ZD0 _
theorem Up.more{k:Nat}(h:Up O key p k)(hl:O.kle (Ka O key p (k-1)) (Ka O key p k)):Up O key p (k+1):=λi j h1 h2=>by
 by_cases hj:j<k
 ·exact h i j h1 hj
 obtain rfl:j=k:=by omega
 by_cases hi:i=j
 ·subst hi; exact ZD0 _
 ·exact ZEU (h i (j-1) (by omega) (by omega)) hl
theorem Dn.more{k:Nat}(h:Dn O key p k)(hl:O.kle (Ka O key p k) (Ka O key p (k-1))):Dn O key p (k+1):=λi j h1 h2=>by
 by_cases hj:j<k
 ·exact h i j h1 hj
 obtain rfl:j=k:=by omega
 by_cases hi:i=j
 ·subst hi; exact ZD0 _
 ·exact ZEU hl (h i (j-1) (by omega) (by omega))
theorem Dn.same{p':Array Nat}{k:Nat}(h:Dn O key p k)(e:∀i,Ka O key p' i=Ka O key p i):Dn O key p' k:=λi j h1 h2=>by rw[e,e]; exact h i j h1 h2
theorem Zlt(hp:Pm n p){Q:Nat->Prop}:∀(f m:Nat),Up O key p m->(∀m',m<=m'->m'<=m+f->Up O key p m'->(m'=m+f\/O.klt (Ka O key p m') (Ka O key p (m'-1)))->Q m')->ZcG (orc O key) n (kas_asc p f m) Q
 | 0,m,hu,hq=>hq m (ZBl _) (by omega) hu (.inl rfl)
 | f+1,m,hu,hq=>by
  refine⟨hp.lt _,hp.lt _,?_⟩;dsimp only;split
  ·rename_i h
   exact hq m (ZBl _) (by omega) hu (.inr h)
  ·rename_i h
   refine Zlt hp f (m+1) (hu.more (ZDA h)) λm' h1 h2 h3 h4=>hq m' (by omega) (by omega) h3 (h4.imp (λe=>by omega) id)
theorem Zhm{Q:Array Nat × Nat × Nat->Prop}:∀(f:Nat) (p:Array Nat) (m q:Nat),Pm n p->Dn O key p m->q+1<=m->Ev O key p m q->m+f<=n ->
  (∀p' m' q',Pm n p'->m<=m'->m'<=m+f->Dn O key p' m'->q'+1<=m'->Ev O key p' m' q'->Q (p',m',q'))->ZcG (orc O key) n (kas_desc f p m q) Q
 | 0,p,m,q,hp,hd,h1,he,hn,hq=>hq p m q hp (ZBl _) (by omega) hd h1 he
 | f+1,p,m,q,hp,hd,h1,he,hn,hq=>by
  have hz:m<=p.size:=by rw[hp.size]; omega
  have e0:∀p',Ev O key p' (m+1) 0:=λp' i h1 h2=>by congr 1; omega
  refine⟨hp.lt _,hp.lt _,?_⟩;dsimp only;split
  ·rename_i h
   have hd':=hd.more (ZEI h);split
   ·exact Zhm f _ (m+1) 0 (hp.rev _ _) (hd'.same (Zkf hz he)) (by omega) (e0 _) (by omega) λp' m' q' a b c d e g=>hq p' m' q' a (by omega) (by omega) d e g
   ·exact Zhm f _ (m+1) 0 hp hd' (by omega) (e0 _) (by omega) λp' m' q' a b c d e g=>hq p' m' q' a (by omega) (by omega) d e g
  ·rename_i h
   refine⟨hp.lt _,hp.lt _,?_⟩;dsimp only;split
   ·exact hq p m q hp (ZBl _) (by omega) hd h1 he
   ·rename_i h'
    have l1:=ZDA h;have l2:=ZDA h';have ee:Ka O key p m=Ka O key p (m-1):=ZGx l2 l1;refine Zhm f p (m+1) (q+1) hp (hd.more l2) (by omega) (λi a b=>?_) (by omega) λp' m' q' a b c d e g=>hq p' m' q' a (by omega) (by omega) d e g;rw[show m+1-1=m by omega]
    by_cases hi:i=m
    ·rw[hi]
    ·rw[ee]; exact he i (by omega) (by omega)
theorem Znv(hp:Pm n p)(hd:Dn O key p m)(h1:1<=m)(hm:m<=n)(hq:∀m' p',1<=m'->m'<=n->Pm n p'->Up O key p' m'->Q (m',p')):ZcG (orc O key) n (kas_tail3 m n p) Q:=by
 have hz:m<=p.size:=by rw[hp.size]; omega
 refine ZcG.bnd _ (Zlt (hp.rev 0 m) (n-m) m (λi j a b=>?_) λm' a b c _=>hq m' _ (by omega) (by omega) (hp.rev 0 m) c);rw[Zqo hz,Zqo hz,if_pos (by omega),if_pos (by omega)];exact hd _ _ (by omega) (by omega)
theorem Zni(hp:Pm n p)(hd:Dn O key p (m+1))(hm:m+1<=n)(hq:∀m' p',1<=m'->m'<=n->Pm n p'->Up O key p' m'->Q (m',p')):ZcG (orc O key) n (kas_descPart m n p) Q:=by
 refine ZcG.bnd _ (Zhm (n-(m+1)) p (m+1) 0 hp hd (by omega) (λi a b=>by congr 1; omega) (by omega) λp' m' q' h1 h2 h3 h4 h5 h6=>?_);have hz:m'<=p'.size:=by rw[h1.size]; omega
 dsimp only;split
 ·exact Znv (h1.rev _ _) (h4.same (Zkf hz h6)) (by omega) (by omega) hq
 ·exact Znv h1 h4 (by omega) (by omega) hq
theorem Zsl(hp:Pm n p)(hq:∀m' p',1<=m'->m'<=n->Pm n p'->Up O key p' m'->Q (m',p')):ZcG (orc O key) n (kas_count n p) Q:=by
 have h0:=hp.pos;refine ZcG.bnd _ (Zlt hp (n-1) 1 Up.one λm h1 h2 h3 h4=>?_);have hz:m<=p.size:=by rw[hp.size]; omega
 split
 ·exact hq m p (by omega) (by omega) hp h3
 ·rename_i hne
  have hne':m≠n:=by simpa using hne
  have hlt:O.klt (Ka O key p m) (Ka O key p (m-1)):=h4.resolve_left (by omega);split
  ·rename_i hm
   refine⟨hp.lt _,hp.lt _,?_⟩;dsimp only;split
   ·exact hq m p (by omega) (by omega) hp h3
   ·rename_i hr
    have hr':O.kle (Ka O key p (m-1)) (Ka O key p 0):=ZDA hr;have all:∀k,0<=k->k<m->Ka O key p k=Ka O key p (m-1):=λk _ hk=>ZGx (h3 k (m-1) (by omega) (by omega)) (ZEU hr' (h3 0 k (by omega) hk));refine Zni (hp.rev _ _) (Dn.same ?_ (Zkf hz all)) (by omega) hq;refine Dn.more (λi j a b=>?_) (ZEI hlt);rw[all i (by omega) (by omega),all j (by omega) b]; exact ZD0 _
  ·obtain rfl:m=1:=by omega
   refine Zni hp (Dn.more (λi j a b=>?_) (ZEI hlt)) (by omega) hq;obtain rfl:i=j:=by omega
   exact ZD0 _
theorem ZiD{Q:Nat->Prop}{k:Nat}(hp:Pm n p)(hu:Up O key p k):∀(f l r:Nat),l<=r->r<=k->r-l<=f->(∀i,i<l->O.kle (Ka O key p i) (Ka O key p k))->(∀i,r<=i->i<k->O.klt (Ka O key p k) (Ka O key p i)) ->
  (∀l,l<=k->(∀i,i<l->O.kle (Ka O key p i) (Ka O key p k))->(∀i,l<=i->i<k->O.klt (Ka O key p k) (Ka O key p i))->Q l)->ZcG (orc O key) n (kas_place p k f l r) Q
 | 0,l,r,h1,h2,h3,lo,hi,hq=>by
  obtain rfl:l=r:=by omega
  exact hq l h2 lo hi
 | f+1,l,r,h1,h2,h3,lo,hi,hq=>by
  unfold kas_place;split
  ·obtain rfl:l=r:=by omega
   exact hq l h2 lo hi
  ·refine⟨hp.lt _,hp.lt _,?_⟩
   dsimp only;split
   ·rename_i h
    exact ZiD hp hu f l ((l+r) / 2) (by omega) (by omega) (by omega) lo (λi a b=>KeyOrd.klt_of_klt_of_kle h (hu _ _ a b)) hq
   ·rename_i h
    refine ZiD hp hu f ((l+r) / 2+1) r (by omega) (by omega) (by omega) (λi a=>ZEU (hu i ((l+r) / 2) (by omega) (by omega)) (ZDA h)) hi hq
theorem Zp6{Q:Array Nat->Prop}:∀(f:Nat) (p:Array Nat) (k:Nat),Pm n p->Up O key p k->k+f=n->(∀p',Pm n p'->Up O key p' n->Q p')->ZcG (orc O key) n (kas_bin f p k) Q
 | 0,p,k,hp,hu,hn,hq=>by
  obtain rfl:k=n:=by omega
  exact hq p hp hu
 | f+1,p,k,hp,hu,hn,hq=>by
  refine ZcG.bnd _ (ZiD hp hu k 0 k (by omega) (ZBl _) (by omega) (λi a=>by omega) (λi a b=>by omega) λl hl lo hi=>?_);refine Zp6 f _ (k+1) (hp.bub _ _) (λi j a b=>?_) (by omega) hq;have hk:k<p.size:=by rw[hp.size]; omega
  rw[ZuI hk (by omega),ZuI hk (by omega),show k-(k-l)=l by omega]
  repeat' split
  all_goals first
   | (exfalso; omega)
   | exact ZD0 _
   | exact lo _ (by omega)
   | exact ZEI (hi _ (by omega) (by omega))
   | exact hu _ _ (by omega) (by omega)
theorem ZtU(hn:0<n){Q:Array Nat->Prop}(hq:∀p,Pm n p->Up O key p n->Q p):ZcG (orc O key) n (kas_sort n) Q:=by
 refine ZcG.bnd _ (Zsl ⟨hn,.refl _⟩ λm p h1 h2 h3 h4=>?_);dsimp only;rw[show max m 1=m by omega];split
 ·exact Zp6 _ p m h3 h4 (by omega) hq
 ·exact hq p h3 (by rwa [show n=m by omega])
end
theorem lex_irrefl:∀a:List Int,HM.lexLt a a=ZGI
 | []=>rfl
 | x::a=>by show(if x=x then HM.lexLt a a else decide (x<x))=ZGI;rw[if_pos rfl]; exact lex_irrefl a
theorem Zg8(x y:Int)(a b:List Int):HM.lexLt (x::a) (y::b)=if x=y then HM.lexLt a b else decide (x<y):=rfl
theorem lex_trans:∀a b c:List Int,HM.lexLt a b=ZGH->HM.lexLt b c=ZGH->HM.lexLt a c=ZGH
 | [],[],_,h,_=>by cases h
 | [],_::_,[],_,h=>by cases h
 | [],_::_,_::_,_,_=>rfl
 | _::_,[],_,h,_=>by cases h
 | _::_,_::_,[],_,h=>by cases h
 | x::a,y::b,z::c,h1,h2=>by
  rw[Zg8]at *;split at h1
  ·rename_i e
   subst e;split at h2
   ·rename_i e; subst e; rw[if_pos rfl]; exact lex_trans a b c h1 h2
   ·rename_i e; rw[if_neg e]; exact h2
  ·split at h2
   ·rename_i e1 e2; subst e2; rw[if_neg e1]; exact h1
   ·rename_i e1 e2
    have h1:=of_decide_eq_true h1;have h2:=of_decide_eq_true h2;rw[if_neg (by omega)]; exact decide_eq_true (by omega)
theorem ZmK:∀a b c:List Int,HM.lexLt a c=ZGH->HM.lexLt a b=ZGH\/HM.lexLt b c=ZGH
 | [],[],_,h=>.inr h
 | [],_::_,_,_=>.inl rfl
 | _::_,_,[],h=>by cases h
 | _::_,[],_::_,_=>.inr rfl
 | x::a,y::b,z::c,h=>by
  rw[Zg8]at *;rw[Zg8];split at h
  ·rename_i e
   subst e
   by_cases e:x=y
   ·subst e; rw[if_pos rfl,if_pos rfl]; exact ZmK a b c h
   ·rw[if_neg e,if_neg (ZCn e)]
    by_cases q:x<y
    ·exact .inl (decide_eq_true q)
    ·exact .inr (decide_eq_true (by omega))
  ·rename_i e
   have h:=of_decide_eq_true h
   by_cases e1:x=y
   ·subst e1; rw[if_neg e]; exact .inr (decide_eq_true h)
   ·rw[if_neg e1]
    by_cases q:x<y
    ·exact .inl (decide_eq_true q)
    ·rw[if_neg (by omega)]; exact .inr (decide_eq_true (by omega))
theorem Zkc:∀a b:List Int,HM.lexLt a b=ZGI->HM.lexLt b a=ZGI->a=b
 | [],[],_,_=>rfl
 | [],_::_,h,_=>by cases h
 | _::_,[],_,h=>by cases h
 | x::a,y::b,h1,h2=>by
  rw[Zg8]at h1 h2
  by_cases e:x=y
  ·subst e
   rw[if_pos rfl]at h1 h2;rw[Zkc a b h1 h2]
  ·rw[if_neg e]at h1
   rw[if_neg (ZCn e)]at h2;have h1:=of_decide_eq_false h1;have h2:=of_decide_eq_false h2;omega
@[reducible] def Zpn:KeyOrd where
 α:=List Int
 blt:=HM.lexLt
 irrefl:=lex_irrefl
 trans:=lex_trans
 negTrans:=ZmK
 total:=Zkc
theorem ZiI{α:Type}{R:α->α->Prop}(anti:∀a b,R a b->R b a->a=b):∀{l m:List α},l.Perm m->l.Pairwise R->m.Pairwise R->l=m
 | [],m,hp,_,_=>(List.nil_perm.mp hp).symm
 | x::l,[],hp,_,_=>absurd hp.symm (by intro q; exact List.cons_ne_nil _ _ (List.nil_perm.mp q))
 | x::l,y::m,hp,hl,hm=>by
  obtain⟨l1,l2⟩:=ZB5.mp hl;obtain⟨m1,m2⟩:=ZB5.mp hm;have e:x=y:=by
   rcases ZBq.mp (hp.mem_iff.mp (ZBf ..))with e | e
   ·exact e
   ·rcases ZBq.mp (hp.mem_iff.mpr (ZBf ..))with e' | e'
    ·exact e'.symm
    ·exact anti x y (l1 y e') (m1 x e)
  subst e;rw[ZiI anti ((List.perm_cons x).mp hp) l2 m2]
def TI(h:Heap)(b:Addr)(t:List Int):Prop:=∃o its n,h.get? b=Z o/\o.cls=.type "tuple"/\o.data=.seq its n/\IntsAre its.toList t
theorem TI.keep{b:Addr}{t:List Int}(x:TI h b t)(k:∀o,h.get? b=Z o->h'.get? b=Z o):TI h' b t:=let ⟨o,its,n,e,r⟩:=x; ⟨o,its,n,k o e,r⟩
section
variable{prog:Program}{w:World}{A:Around}{E:Value->Shared->Prop}{s:Shared}
theorem ZtW{fin:Bool}{Q:Bool->Shared->Prop}:∀{vs ws:List Value} {a b:List Int} (i:Nat),IntsAre vs a->IntsAre ws b->fin=decide (vs.length<ws.length)->Q (HM.lexLt a b) s->KatLex prog w A ZGH fin Q (vs.zip ws) i s
 | _,_,_,_,i,.nil,.nil,e,q=>by subst e; exact kat_nil q
 | _,_,_,_,i,.nil,.cons _ _ _,e,q=>by subst e; exact kat_nil q
 | _,_,_,_,i,.cons _ _ _,.nil,e,q=>by subst e; exact kat_nil q
 | _,_,_,_,i,.cons x t hv,.cons y u hw,e,q=>by
  rw[List.zip_cons_cons];refine kat_cons (wpAny_eqBool_int ?_);rw[Zg8]at q
  by_cases h:x=y
  ·rw[if_pos h]at q
   rw[show(x==y)=ZGH by simpa using h];refine kat_yes (ZtW (i+1) hv hw ?_ q);rw[e,ZBy,ZBy];exact decide_eq_decide.mpr (by omega)
  ·rw[if_neg h]at q
   rw[show(x==y)=ZGI by simpa using h];refine kat_no ?_
   by_cases hi:i=0
   ·rw[show(ZGH&&i==0)=ZGH by simpa using hi]
    exact oneLt_int q
   ·rw[show(ZGH&&i==0)=ZGI by simpa using hi]
    exact kat_one _ _ (PyProof.Rows.lt_int q)
theorem Zyd{x y:Addr}{a b:List Int}{Q:Bool->Shared->Prop}(hx:TI s.heap x a)(hy:TI s.heap y b)(h:Q (HM.lexLt a b) s):wpAny (model prog w) A (keyLt' (tuples' ZGH) (.ref x) (.ref y)) Q E s:=by obtain⟨ox,ix,n,e1,_,d1,r1⟩:=hx;obtain⟨oy,iy,k,e2,_,d2,r2⟩:=hy;refine kat_lt e1 d1 e2 d2 (ZtW 0 r1 r2 ?_ h);rw[ZBB,ZBB]
theorem Zrk{α:Type}{cmp:Nat->Nat->(Bool->Shared->Prop)->Shared->Prop}{o:Nat->Nat->Bool}{n:Nat}(hc:∀i j C,i<n->j<n->C (o i j) s->cmp i j C s){G:α->Shared->Prop}:∀(t:KasT α),ZcG o n t (λa=>G a s)->t.kasWp cmp G s
 | .ret a,h=>h
 | .ask i j k,h=>hc i j _ h.1 h.2.1 (Zrk hc (k (o i j)) h.2.2)
theorem Zu2{a:Addr}{vs:List Value}{ts:List (List Int)}{P:PySem.Fin->Shared->Prop}(ho:s.heap.get? a=Z (seqObj "list" vs.toArray n))(hl:ts.length=vs.length)
  (hT:∀(i:Nat) t,ts[i]?=Z t->∃b,vs[i]?=Z (.ref b)/\TI s.heap b t) (hne:vs.length<2\/∀t∈ts,t≠[]) (h64:vs.length<64)
  (h:∀p:List Nat,p.Perm (ZBm vs.length)->(p.map λi=>ts.getD i []).Pairwise (λx y=>HM.lexLt y x=ZGI)->P (.done (.ret .none)) { s with heap:=sortedHeap s.heap a vs (p.map λi=>vs.getD i ZCf).toArray }) :
  wpAny (model prog w) A (Builtin.«list.sort» ⟨[.ref a],[]⟩) P E s:=by
 rw[list_sort_plain];have ha:a<s.heap.objs.size:=ZBt ho;refine ZBa (listItems_at ho rfl (ZBa (listUpdate_at ho rfl ?_ (by rw[ZBs,ZCN]; omega) (ZCC _))));obtain⟨e1,ho1⟩:∃e1,(s.heap.update a (ZEv λ_=>#[])).get? a=Z (seqObj "list" #[] e1):=⟨_,get?_update_seq ho (λ_=>#[])⟩;refine ZBa (seqEpoch_at ho1 rfl ?_);refine ZBa (wpAny_newTuple ?_ (by show vs.length<=_; rw[ZCN]; omega));refine ZBa (wpAny_newList ?_ (ZCC _));refine ZCm ?_;generalize hG:((s.heap.update a (ZEv λ_=>#[])).push (seqObj "tuple" vs.toArray 0)).push (seqObj "list" #[] 0)=g;have ho6:g.get? a=Z (seqObj "list" #[] e1):=by rw[<-hG,ZD4 _ _ _ (by rw[size_push',ZEV]; exact ZBA (ZDI ha)),ZD4 _ _ _ (by rw[ZEV]; exact ZBA ha)];exact ho1
 have hold:∀b o,b≠a->s.heap.get? b=Z o->g.get? b=Z o:=λb o hb e=>by have hlt:=ZBt e;rw[<-hG,ZD4 _ _ _ (by rw[size_push',ZEV]; exact ZBA (ZDI hlt)),ZD4 _ _ _ (by rw[ZEV]; exact ZBA hlt),Heap.get?_update_ne _ _ _ _ hb];exact e
 have hT6:∀(i:Nat) t,ts[i]?=Z t->∃b,vs[i]?=Z (.ref b)/\TI g b t:=λi t e=>by
  obtain⟨b,e1,x⟩:=hT i t e;refine⟨b,e1,x.keep λo q=>hold b o ?_ q⟩
  rintro rfl
  obtain⟨o',_,_,q1,q2,_⟩:=x;rw[ho]at q1;cases q1;injection q2 with q2
  exact absurd q2 (by decide)
 show wpAny (model prog w) A _ P E { s with heap:=g };dsimp only;have fin:∀(st':SortSt) (p:List Nat),p.Perm (ZBm vs.length)->(p.map λi=>ts.getD i []).Pairwise (λx y=>HM.lexLt y x=ZGI)->(arrOf st').map (·.2)=(p.map λi=>vs.getD i ZCf).toArray->failedOf st'=Z_ ->
   wpAny (model prog w) A (do
    let touched:=(<-seqEpoch a) != e1
    Builtin.List.listUpdate (.ref a) λ_=>(arrOf st').map (·.2)
    if let Z e:=failedOf st' then rule "list.sort.comparison-raised"; throw e
    if touched then rule "list.sort.modified"; raiseError "ValueError" "list modified during sort"
    ret .none) P E { s with heap:=g }:=by
  intro st' p hp hs har hf;refine ZBa (seqEpoch_at ho6 rfl ?_);rw[har];refine ZBa (listUpdate_at ho6 rfl ?_ (ZCC _) (by show(p.map λi=>vs.getD i ZCf).toArray.size<=_; rw[ZBs,ZBb,hp.length_eq,ZCv,ZCN]; omega));rw[hf];simp only[bne_self_eq_false,ZDc,if_false];refine ZBe ?_;have:=h p hp hs;unfold sortedHeap at this;rw[hG]at this;exact this
 by_cases h2:vs.toArray.size<2
 ·rw[if_pos h2,if_pos h2]
  refine ZBa (ZBe ?_);rw[StateT.run_pure];refine ZBa (ZBe ?_);refine fin (SortSt.mk' general' (vs.toArray.zip vs.toArray) #[] 7 Z_) (ZBm vs.length) (.refl _) ?_ ?_ rfl
  ·rw[ZBs]at h2
   have:vs.length=0\/vs.length=1:=by omega
   rcases this with e | e<;>rw[e]<;>simp
  ·rw[ZBs]at h2
   show Array.map (·.2) (vs.toArray.zip vs.toArray)=_
   match vs,h2 with
   | [],_=>simp
   | [v],_=>simp
 ·rw[if_neg h2,if_neg h2]
  rw[ZBs]at h2;have hne':∀t∈ts,t≠[]:=hne.resolve_left h2;have tups:∀(vs:List Value) (ts:List (List Int)),ts.length=vs.length->(∀(i:Nat) t,ts[i]?=Z t->∃b,vs[i]?=Z (.ref b)/\TI g b t)->(∀t∈ts,t≠[])->∃fs,KatTups g vs fs/\fs.length=vs.length/\∀v∈fs,∃x t,v=ZC9 x t:=by
   intro vs
   induction vs with
   | nil=>intro ts hl _ _; exact⟨[],KatTups.nil,rfl,by simp⟩
   | cons v vs ih =>
    intro ts hl hT hn;cases ts with
    | nil=>simp at hl
    | cons t ts =>
     obtain⟨fs,f1,f2,f3⟩:=ih ts (by simpa using hl) (λi t e=>hT (i+1) t (by simpa using e)) λx hx=>hn x (ZBi _ hx);obtain⟨b,eb,o,its,m,g1,g2,g3,g4⟩:=hT 0 t rfl;simp at eb;subst eb;cases t with
     | nil=>exact absurd rfl (hn [] (ZBf ..))
     | cons x t =>
      cases hi:its.toList with
      | nil=>rw[hi]at g4; cases g4
      | cons y ys =>
       rw[hi]at g4;cases g4 with
       | cons _ u _ =>
        refine⟨.int x u::fs,KatTups.cons g1 g2 g3 ?_ f1,by simp[f2],λv hv=>?_⟩
        ·rw[<-ZCe,hi]; rfl
        ·rcases ZBq.mp hv with e | e
         ·exact⟨x,u,e⟩
         ·exact f3 v e
  obtain⟨fs,f1,f2,f3⟩:=tups vs ts hl hT6 hne';refine ZBa (kat_kind (s:={ s with heap:=g }) (T:=.type "int") f1 (by omega) (λv hv=>?_) (by rfl) ?_)
  ·obtain⟨x,t,rfl⟩:=f3 v hv
   exact Looks.of_pure rfl
  rw[show(ZDg "int" != ZDg "tuple")=ZGH by decide];refine ZBa (ZCH (kat_run (ks:=vs) (Q:=λst' s'=>s'={ s with heap:=g }/\∃p:Array Nat,Pm vs.length p/\Up Zpn (λi=>ts.getD i []) p vs.length/\arrOf st'=p.map (kas_item (vs.toArray.zip vs.toArray))/\failedOf st'=Z_)
   (G:=λp s'=>s'={ s with heap:=g }/\Pm vs.length p/\Up Zpn (λi=>ts.getD i []) p vs.length) rfl (by omega) h64 (λp' st' s' a1 a2 a3 a4=>⟨a4.1,p',a4.2.1,a4.2.2,a2,a3⟩) ?_) ?_ λ_ _ e=>e)
  ·refine Zrk (o:=orc Zpn λi=>ts.getD i []) (n:=vs.length) (λi j C hi hj hC=>?_) _ (ZtU (by omega) λp h1 h2=>⟨rfl,h1,h2⟩)
   have gi:ts[i]?=Z (ts.getD i []):=by simp[show i<ts.length by omega]
   have gj:ts[j]?=Z (ts.getD j []):=by simp[show j<ts.length by omega]
   obtain⟨b1,v1,x1⟩:=hT6 i _ gi;obtain⟨b2,v2,x2⟩:=hT6 j _ gj;show wpAny (model prog w) A (keyLt' _ (vs.getD i ZCf) (vs.getD j ZCf)) C _ _;rw[show vs.getD i ZCf=.ref b1 by simp[ZCS,v1],show vs.getD j ZCf=.ref b2 by simp[ZCS,v2]];exact Zyd x1 x2 hC
  ·rintro ⟨⟨⟩,st'⟩ s' ⟨rfl,p,hp,hu,har,hf⟩
   refine fin st' p.toList ?_ ?_ (kat_snds rfl har) hf
   ·have:=ZFx.mp hp.perm
    simpa using this
   ·rw[ZEJ,ZFM]
    intro i j hi hj hij;have hsz:=hp.size;have q:=hu i j (ZDh hij) (by rw[ZBB]at hj; omega);unfold Ka at q;rw[show p.getD i 0=p.toList[i] by simp[ZDu,show i<p.size by simpa using hi],show p.getD j 0=p.toList[j] by simp[ZDu,show j<p.size by simpa using hj]]at q;exact q
end
def Zfi(h:Heap)(d:Addr)(es:Array DictEntry)(ep:Nat):Prop:=∃o,h.get? d=Z o/\o.ExactDict/\o.data=.dict es ep
theorem Zfi.at'{d:Addr}{es:Array DictEntry}(x:Zfi h d es ep)(e:∀o,h.get? d=Z o->h'.get? d=Z o):Zfi h' d es ep:=let ⟨o,ho,r⟩:=x; ⟨o,e _ ho,r⟩
theorem Zfi.typeIs{s:Shared}{d:Addr}{es:Array DictEntry}(x:Zfi s.heap d es ep):s.TypeIs (.ref d) "dict":=let ⟨o,ho,hc,_⟩:=x; ⟨o,ho,hc.1⟩
theorem Zfi.lt{d:Addr}{es:Array DictEntry}(x:Zfi h d es ep):d<h.objs.size:=let ⟨o,ho,_⟩:=x; ZBt ho
section
variable{prog:Program}{w:World}{A:Around}{E:Value->Shared->Prop}{s:Shared}{it d:Addr}{es:Array DictEntry}{ep i:Nat}
theorem ZpF{Q:Value->Shared->Prop}(hd:(d==ZCV)=ZGI)(hm:Zfi s.heap d es ep)
  (hQ:Q (.ref s.heap.objs.size) { s with heap:=s.heap.push { cls:=.type "dict_keyiterator",data:=.fields #[.ref d,.int 0 0,.int es.size 0,.int ep 0] } }) :
  wpAny (model prog w) A (pyIter (.ref d)) Q E s:=by
 obtain⟨o,ho,hc,hdat⟩:=id hm;have hT:=hm.typeIs;refine ZFH hT F.slot_dict_iter (ZCj F.slot_dict_iter hT F.entry_dict_iter ?_ (F.args_dict_iter_1 _));unfold Builtin.«dict.__iter__»;refine ZBa ?_;unfold Builtin.Dict.dictSlotNone;refine ZBa (wpAny_notOrdered_dict hT ?_);show wpAny _ _ (pure (ZB2 d)) _ _ s;refine ZBe ?_;show wpAny _ _ (ZGq d >>= _) _ _ s;unfold ZGq;rw[if_neg (by rw[hd]; exact ZB3)];refine ZBa (ZBe (ZBa (ZEE ho hdat (ZBa (ZF8 ho hdat ?_)))));refine ZBa (ZBV (ZBe ⟨_,rfl,"dict_keyiterator",_,⟨_,ZBw _ rfl,rfl⟩,F.slot_dict_keyiterator_next.lookup,?_⟩));simpa [rawInt]using hQ
theorem Zp5{e:DictEntry}{Q:Option Value->Shared->Prop}(hit:s.heap.IsKeyIter it d i es.size ep)(hm:Zfi s.heap d es ep)(hx:es[i]?=Z e)
  (hQ:∀h',h'.IsKeyIter it d (i+1) es.size ep->ZC5 it s.heap h'->Q (Z e.key) { s with heap:=h' }) :
  wpAny (model prog w) A (pyNext (.ref it)) Q E s:=by
 obtain⟨o,ho,hc,hd⟩:=id hit;obtain⟨od,hod,hcd,hdd⟩:=id hm;unfold pyNext;refine ZBa (ZFw (wpAny_callSpecial?_slot (name:=ZBY "__next__") hit.typeIs F.slot_dict_keyiterator_next
  (ZCj F.slot_dict_keyiterator_next hit.typeIs F.entry_dict_keyiterator_next ?_ (F.args_dict_keyiterator_next_1 _))))
 refine ZBa (ZBe (ZBa (ZBa ?_)))
 first | refine ZBa (ZDp hit.typeIs (ZBe ?_)) | refine ZBa (ZDR hit.typeIs (ZBe ?_))
 refine ZBa (ZFh ho hd ?_);have hown:ZFi "dict_keyiterator" = ZGI:=by decide
 simp only[hown,ZDc,if_false];show wpAny _ _ (if(ZB2 d==ZCf)=ZGH then _ else _) _ _ s;rw[if_neg (show ¬((ZB2 d==ZCf)=ZGH) from ZB3)];refine ZBa (ZBe (ZBa (ZEE hod hdd ?_)));rw[if_neg (by simp)];refine ZBa (ZBe (ZBa (ZF8 hod hdd ?_)));rw[if_neg (by simp)];refine ZBe ?_;obtain⟨hlt,he⟩:=Array.getElem?_eq_some_iff.mp hx;simp only[show ¬((i:Int)<0) from by omega,if_false,ZCd,ZDK hlt];refine ZBa ?_
 first | refine ZBa (ZDp hit.typeIs (ZBe ?_)) | refine ZBa (ZDR hit.typeIs (ZBe ?_))
 refine ZBa (wpAny_isOneOf_keyiter hit.typeIs ?_);show wpAny _ _ (setField (.ref it) 1 (rawInt ((i:Int)+1)) >>= _) _ _ s;refine ZBa (ZDN ho hd (by simp) ?_);have hit':(s.heap.update it (ZGv (·.setIfInBounds 1 (rawInt ((i:Int)+1))))).IsKeyIter it d (i+1) es.size ep :=
  ⟨_,ZCk _ ho (ZD7 (ZCA hd _)),(ZEH ..).trans hc,by rw[ZCA hd]; simp[rawInt]⟩
 refine ZBa (ZCm ?_);refine ZBa (wpAny_isOneOf_keyiter (s:={ s with heap:=s.heap.update it (ZGv (·.setIfInBounds 1 (rawInt ((i:Int)+1)))) }) hit'.typeIs ?_);show wpAny _ _ (pure es[i].key) _ _ _;refine ZBe (ZBe ⟨_,rfl,ZBe ?_⟩);rw[he];exact hQ _ hit' (ZCi ..)
theorem Zry{Q:Option Value->Shared->Prop}(hh:A.handled=Z_)(hit:s.heap.IsKeyIter it d i es.size ep)(hm:Zfi s.heap d es ep)(hx:es.size<=i)
  (hQ:∀h',Heap.ExtBut it s.heap h'->Q Z_ { s with heap:=h' }):wpAny (model prog w) A (pyNext (.ref it)) Q E s:=by
 obtain⟨o,ho,hc,hd⟩:=id hit;obtain⟨od,hod,hcd,hdd⟩:=id hm;unfold pyNext;refine ZBa (ZFw (wpAny_callSpecial?_slot (name:=ZBY "__next__") hit.typeIs F.slot_dict_keyiterator_next
  (ZCj F.slot_dict_keyiterator_next hit.typeIs F.entry_dict_keyiterator_next ?_ (F.args_dict_keyiterator_next_1 _))))
 refine ZBa (ZBe (ZBa (ZBa ?_)))
 first | refine ZBa (ZDp hit.typeIs (ZBe ?_)) | refine ZBa (ZDR hit.typeIs (ZBe ?_))
 refine ZBa (ZFh ho hd ?_);have hown:ZFi "dict_keyiterator" = ZGI:=by decide
 simp only[hown,ZDc,if_false];show wpAny _ _ (if(ZB2 d==ZCf)=ZGH then _ else _) _ _ s;rw[if_neg (show ¬((ZB2 d==ZCf)=ZGH) from ZB3)];refine ZBa (ZBe (ZBa (ZEE hod hdd ?_)));rw[if_neg (by simp)];refine ZBa (ZBe (ZBa (ZF8 hod hdd ?_)));rw[if_neg (by simp)];refine ZBe ?_;simp only[show ¬((i:Int)<0) from by omega,if_false,ZCd,ZEN hx];refine ZBa ?_
 first | refine ZBa (ZDp hit.typeIs (ZBe ?_)) | refine ZBa (ZDR hit.typeIs (ZBe ?_))
 show wpAny _ _ (setField (.ref it) 0 .none >>= _) _ _ s;refine ZBa (ZDN ho hd (by simp) ?_);show wpAny _ _ (newExc (.type "StopIteration") [] >>= _) _ _ _;refine ZBa ?_;simp only[newExc,newTuple];refine ZBa (ZBV ?_ (by size_fits));refine ZBa (m:=ZD8 _ _) (ZFj (a:=ZCf) (by first | rfl | (simp only[ZD8]; rfl)) ?_)
 refine ZBV ?_ (by size_fits);simp only[raiseNew];refine ZBa (wpAny_handled ?_);rw[show A.in1.handled=Z_ from hh];refine ZBa (ZBe (wpAny_throw ?_));refine ZBa (ZFX (T:="StopIteration") (b:=ZGH) ⟨_,ZBw _ rfl,rfl⟩ isSubtype_stop ?_);exact ZBe (hQ _ (((ZCi ..).extBut.push _).push _))
theorem Zuw(hh:A.handled=Z_)(I d:Addr)(hne:d≠I)(es:Array DictEntry)(ep:Nat) :
  Walks prog w A I [I,d] [I] es.size (λi v=>∃e,es[i]?=Z e/\v=e.key) (λi h=>h.IsKeyIter I d i es.size ep/\Zfi h d es ep) where
 sub:=λb hb=>by simp at hb; simp[hb]
 frame:=λ_ _ _ st hk=>⟨st.1.at λo e=>hk I (by simp) o e,st.2.at' λo e=>hk d (by simp) o e⟩
 item:=λi s Q E hi st hQ=>by have hx:es[i]?=Z es[i]:=ZDK hi;refine Zp5 st.1 st.2 hx λh' hit' hs'=>?_;exact hQ _ h' s.toks ⟨_,hx,rfl⟩ ⟨hit',st.2.at' λo e=>hs'.extBut d o hne e⟩ λb o hb e=>hs'.extBut b o (λh=>hb (by simp[h])) e
 done:=λs Q E st hQ=>Zry hh st.1 st.2 (ZBl _) λh' he'=>hQ h' s.toks λb o hb e=>he' b o (λh=>hb (by simp[h])) e
 self:=λ_ _ _ _ st hQ=>wpAny_pyIter_keyiter st.1 hQ
end
end HP
namespace HP
open PySem PySem.Spec PySem.W PySem.Calls PyProof.Rows L2
variable{a r:Addr}{es:Array (Int × Value)}{h:Heap}{F:Hp}{R:List Value->Shared->Prop}{ep n:Nat}{p' pos':Pos}{K:ZBd}
section
variable[FX]
section
variable{prog:Program}{w:World}{A:Around}{E:Value->Shared->Prop}{s:Shared}
theorem ZuZ{Q:Bool->Shared->Prop}(hT:s.TypeIs (.ref r) "set")(h:Q ZGI s):wpAny (model prog w) A (ZFn (.ref r)) Q E s:=by
 unfold ZFn;refine ZBa (wpAny_specialOf hT PySem.F.slot_set_len.lookup ?_);generalize hid:("set.__len__":String)=id0
 wp_delta
 rw[show splitId id0=Z ("set","__len__") from by subst hid; decide +kernel];subst hid;refine ZBa (ZFX (T:="set") (b:=ZGH) hT (by rw[isSubtype_type]; kernel_rfl) ?_);refine ZDz (λq=>absurd q (by decide)) λ_=>?_;refine ZDz (λ_=>?_) (λq=>absurd (by decide +kernel) q);exact ZBa (ZE0 hT (ZBe h))
theorem Zxg{d:Addr}{es:Array DictEntry}(lo:(d==ZCV)=ZGI):KdlSrc prog w "dict" d d es.size (λi v=>∃e,es[i]?=Z e/\v=e.key) (λh=>Zfi h d es ep) where
 type:=λ_ hm=>hm.typeIs
 there:=λ_ hm=>⟨hm.lt,hm.lt⟩
 keep:=λ_ _ hm hk=>hm.at' λo e=>hk d (.inl rfl) o e
 notList:=by decide
 notTuple:=by decide
 hint:=λ_ _ _ _ hm hq=>kdl_hint_dict hm.typeIs hq
 iter:=λ_ _ hh hm=>⟨_,_,(λ_ _ hq=>ZpF lo hm hq),Zuw hh _ d (ZBA hm.lt) es ep,⟨⟨_,ZBw _ rfl,rfl,rfl⟩,hm.at' λo e=>ZBg _ e⟩⟩
theorem Ze6.typeIs{t:SetTable}(x:Ze6 w s.heap a es ep t):s.TypeIs (.ref a) "set":=let ⟨o,ho,hc,_⟩:=x.obj; ⟨o,ho,hc.1⟩
theorem Ze6.lt{t:SetTable}(x:Ze6 w h a es ep t):a<h.objs.size:=let ⟨o,ho,_⟩:=x.obj; ZBt ho
theorem Zxz{t:SetTable}:KdlSrc prog w "set" a a es.size (λi v=>∃e,(Zes w a es ep)[i]?=Z e/\v=e.2) (λh=>Ze6 w h a es ep t) where
 type:=λ_ hm=>hm.typeIs
 there:=λ_ hm=>⟨hm.lt,hm.lt⟩
 keep:=λ_ _ hm hk=>hm.at' λo e=>hk a (.inl rfl) o e
 notList:=by decide
 notTuple:=by decide
 hint:=λ_ _ _ _ hm hq=>ZuZ hm.typeIs hq
 iter:=λ_ _ hh hm=>⟨_,_,(λ_ _ hq=>Zu5 hm hq),Zus hh _ a (ZBA hm.lt) es ep t,⟨0,⟨_,ZBw _ rfl,rfl,rfl⟩,hm.at' λo e=>ZBg _ e,λ_=>Zsu hm.tab.rise⟩⟩
theorem ZhS{T:String}{d:Addr}{P:Nat->Value->Prop}{OK:Heap->Prop}(K:KdlSrc prog w T r d n P OK)(hh:A.handled=Z_)(hok:OK s.heap)(hn:n<=sizeLine)
  (h:∀(h':Heap) (tk:Nat) (acc:Array Value),(∀b o,s.heap.get? b=Z o->h'.get? b=Z o)->s.heap.objs.size<h'.objs.size->ItemsOf P acc n->R acc.toList { s with heap:=h',toks:=tk }) :
  wpAny (model prog w) A (collect (.ref r)) R E s:=by
 have hlt:=K.there _ hok;unfold collect;refine ZBa (wpAny_runValue (ZCL entry_proto_collect' ?_));rw[ZCo ZFo _];show wpAny _ A.in1 (newList [] >>= λl=>again (.builtin "list.__iadd__" ⟨[l,.ref r],[]⟩)) _ _ s;refine ZBa (ZBV (ZBe ⟨ZDF ZDX _,ZCL entry_list_iadd' ?_⟩));rw[ZCo ZDX _];have hS₁:(s.heap.push { cls:=.type "list",data:=.seq ([]:List Value).toArray }).get? s.heap.objs.size=Z { cls:=.type "list",data:=.seq #[] }:=ZBw _ rfl;show wpAny _ A.in1 (ZFp (.ref s.heap.objs.size) (.ref r) (.ref s.heap.objs.size)) _ _ _;refine ZCH (kdl_extend (A:=A) (s:={ s with heap:=s.heap.push { cls:=.type "list",data:=.seq ([]:List Value).toArray } })
  (R:=λ(q:Result) (s':Shared)=>∃(h':Heap) (tk:Nat) (acc':Array Value) (c':Nat),q=.ok (.ret (.ref s.heap.objs.size))/\s'={ s with heap:=h',toks:=tk } /\
   (∀b o,s.heap.get? b=Z o->h'.get? b=Z o)/\h'.get? s.heap.objs.size=Z { cls:=.type "list",dict:=Z_,data:=.seq acc' c',slots:=#[] }/\ItemsOf P acc' n)
  K hh (K.keep _ _ hok λb _ o e=>ZBg _ e) s.heap.objs.size (ZEo hlt.1) (ZEo hlt.2) (.ref s.heap.objs.size) 0 hS₁
  (λh' tk acc' c' hk hS' hacc=>⟨h',tk,acc',c',rfl,rfl,λb o e=>hk b o (ZBA (ZBt e)) (ZBg _ e),hS',hacc⟩) hn) (λfin s' x=>?_) λe s' x=>?_
 ·have go:∀(h':Heap) (tk:Nat) (acc':Array Value) (c':Nat),(∀b o,s.heap.get? b=Z o->h'.get? b=Z o)->h'.get? s.heap.objs.size=Z { cls:=.type "list",dict:=Z_,data:=.seq acc' c',slots:=#[] }->ItemsOf P acc' n ->
    wpAny (model prog w) A (load s.heap.objs.size >>= λo=>match o.data with | .seq xs _=>pure xs.toList | _=>unsupported "internal:collect") R E { s with heap:=h',toks:=tk }:=λh' tk acc' c' hk hS' hacc =>
   ZBa (wpAny_load hS' (ZBe (h h' tk acc' hk (ZBt hS') hacc)))
  cases fin with
  | done f=>obtain⟨h',tk,acc',c',e,rfl,hk,hS',hacc⟩:=x;cases e;exact go h' tk acc' c' hk hS' hacc
  | again c₁=>refine⟨x.1,ZDi x.2 λq s₂ y=>?_⟩;obtain⟨h',tk,acc',c',rfl,rfl,hk,hS',hacc⟩:=y;exact go h' tk acc' c' hk hS' hacc
 ·obtain⟨_,_,_,_,e',_⟩:=x
  cases e'
end
inductive ZjR(K:ZBd)(F H:Hp)(p:Addr):List PyData->Prop where
 | lst {ds:List PyData} {vs:List V} (h:SqL K H p vs) (r:Zt K F ds vs):ZjR K F H p ds
 | tup {ds:List PyData} {vs:List V} (h:SqT K H p vs) (r:Zt K F ds vs):ZjR K F H p ds
 | dk {kvs:List (Key × V)} (h:H p=Z (.dK kvs)):ZjR K F H p (kvs.map λq=>HM.ZaQ q.1)
 | dt {kvs:List (List Key × V)} (h:H p=Z (.dT kvs)):ZjR K F H p (kvs.map λq=>.tuple (q.1.map HM.ZaQ))
theorem ZwI(k:Key):Rep K F (HM.ZaQ k) (kV k):=by
 cases k with
 | inl i=>exact .int i
 | inr x=>exact .str x
theorem Zhs{K:ZBd}{F:Hp}:∀(ks:List Key),Zt K F (ks.map HM.ZaQ) (ks.map kV)
 | []=>.nil
 | k::ks=>.cons (ZwI k) (Zhs ks)
theorem Zwz{P:Program}{w:World}{k:Key}{u:Value}(h:(Zay P w).is k u=ZGH):RelV (kV k) u:=by
 rw[Zs4]at h;rcases Zbq h with⟨i,t,rfl,rfl⟩ | ⟨x,t,rfl,rfl⟩
 ·exact⟨t,rfl⟩
 ·exact⟨t,rfl⟩
section
variable{X:Cx}{pins:List (Addr × Obj)}{σ:L2.St}{H F:Hp}{s:Shared}{p:Addr}{ds:List PyData}
theorem Zh9:∀{vs:List V} {us:List Value},vs.length=us.length->(∀(i:Nat) v u,vs[i]?=Z v->us[i]?=Z u->RelV v u)->Vals vs us
 | [],[],_,_=>.nil
 | [],_::_,h,_=>by simp at h
 | _::_,[],h,_=>by simp at h
 | v::vs,u::us,h,k=>.cons (k 0 v u rfl rfl) (Zh9 (by simpa using h) λi a b e1 e2=>k (i+1) a b (by simpa using e1) (by simpa using e2))
theorem ZjR.gath(I:Inv X pins σ H s)(sub:Zq F H)(h:ZjR X.K F H p ds):∃vs,Zt X.K (ZbX F H) ds vs/\∀(A:Around) (E:Value->Shared->Prop) (R:List Value->Shared->Prop),A.handled=Z_ ->
  (∀us h' tk,Vals vs us->(∀b o,s.heap.get? b=Z o->h'.get? b=Z o)->R us { s with heap:=h',toks:=tk })->wpAny (model X.prog X.w) A (collect (.ref p)) R E s:=by
 cases h with
 | @lst _ vs h r=>obtain⟨its,rv,pl,hz⟩:=I.list h;obtain⟨o,ho,hcl,n,hd⟩:=pl.isList;refine⟨vs,r.mono (Zdb sub),λA E R _ k=>wpAny_collect_seq p (.inl rfl) ho hcl hd (λh' kp=>?_) (by rw[ZBs,<-rv.length]; exact hz)⟩;exact k its h' s.toks rv kp
 | @tup _ vs h r=>obtain⟨its,rv,pl,hz⟩:=I.tuple h;obtain⟨o,ho,hcl,n,hd⟩:=pl;refine⟨vs,r.mono (Zdb sub),λA E R _ k=>wpAny_collect_seq p (.inr rfl) ho hcl hd (λh' kp=>?_) (by rw[ZBs,<-rv.length]; exact hz)⟩;exact k its h' s.toks rv kp
 | @dk kvs h =>
  obtain⟨z,lo,vs,rel,dd⟩:=Zsv I.hok h;obtain⟨ep,hat⟩:=dd.dictAt;have hl:kvs.length=vs.length:=ZDY rel;refine⟨kvs.map λq=>kV q.1,?_,λA E R hh k=>ZhS (kdl_dict (knd:=Zay X.prog X.w) (kvs:=vs) (ep:=ep) lo) hh hat (by omega) λh' tk acc kp hsz hacc=>k _ h' tk ?_ kp⟩
  ·have:=Zhs (K:=X.K) (F:=ZbX F H) (kvs.map (·.1))
   rw[ZBz,ZBz]at this;exact this
  ·refine Zh9 (by have q:acc.toList.length=acc.size:=ZBB; rw[ZBb,q,hacc.1,hl]) λi v u e1 e2=>?_
   obtain⟨kk,x,q1,q2⟩:=hacc.2 i u (by rw[<-ZCe]; exact e2);rw[ZBG]at e1;obtain⟨q,e3,e4⟩:=ZBc.mp e1;subst e4;have key:∀{l:List (Key × V)} {m:List (Key × Value)},KV l m->∀(i:Nat) a b,l[i]?=Z a->m[i]?=Z b->a.1=b.1:=by
    intro l m r
    induction r with
    | nil=>intro i a b e; simp at e
    | cons hq _ ih =>
     intro i a b e1 e2;cases i with
     | zero=>simp at e1 e2; subst e1; subst e2; exact hq.1
     | succ i=>exact ih i a b (by simpa using e1) (by simpa using e2)
   have ek:=key rel i q (kk,x) e3 q1;rw[ek];exact Zwz q2
 | @dt kvs h =>
  obtain⟨z,lo,xs,rel,o,es,ep,h1,h2,h3,h4,h5⟩:=(show Zab X.prog X.w H s.heap p (.dT kvs) from I.hok p _ h);have hl:kvs.length=xs.length:=ZDY rel;have hes:es.size=xs.length:=by rw[<-ZBB,h4,ZBb]
  have hm:Zfi s.heap p es ep:=⟨o,h1,h2,h3⟩;refine⟨xs.map λq=>V.ref q.2.1,?_,λA E R hh k=>ZhS (Zxg (es:=es) (ep:=ep) lo) hh hm (by omega) λh' tk acc kp hsz hacc=>k _ h' tk ?_ kp⟩
  ·clear h4 hes hl z h h5
   induction rel with
   | nil=>exact .nil
   | @cons p0 _ _ _ hq _ ih=>obtain⟨q1,q2,_⟩:=hq;rw[ZBn,ZBn];refine .cons ?_ ih;have rk:=Zhs (K:=X.K) (F:=ZbX F H) p0.1;exact .tup (Zlk q2) rk.1 rk.2
  ·refine Zh9 (by have q:acc.toList.length=acc.size:=ZBB; rw[ZBb,q,hacc.1,hes]) λi v u e1 e2=>?_
   obtain⟨e,q1,q2⟩:=hacc.2 i u (by rw[<-ZCe]; exact e2);subst q2;rw[ZBG]at e1;obtain⟨q,e3,e4⟩:=ZBc.mp e1;subst e4;rw[<-ZCe,h4,ZBG,e3]at q1;cases q1;rfl
theorem Zco{K:ZBd}{F:Hp}:∀{ds:List PyData} {vs:List V} {ns:List Int},HM.Zap ds=Z ns->Zt K F ds vs->vs=ns.map V.int
 | [],vs,ns,h,r=>by cases h;exact r.nil_inv
 | d::ds,vs,ns,h,r=>by
  obtain⟨v,us,rfl,r1,r2⟩:=r.cons_inv;cases d with
  | int b=>obtain⟨bs',h1,h2⟩:=ZBc.mp h;subst h2;rw[r1.int_inv,Zco h1 r2];rfl
  | none=>cases h
  | bool _=>cases h
  | str _=>cases h
  | list _=>cases h
  | tuple _=>cases h
  | dict _=>cases h
theorem Zrl:∀(t:List Int),HM.Zap (HM.ofInts t)=Z t
 | []=>rfl
 | x::t=>by show(HM.Zap (HM.ofInts t)).map (x::·)=_;rw[Zrl t];rfl
theorem Zpt:∀{ds:List PyData} {ns:List Int},HM.Zap ds=Z ns->ds=HM.ofInts ns
 | [],ns,h=>by cases h; rfl
 | d::ds,ns,h=>by
  cases d with
  | int b=>obtain⟨bs',h1,h2⟩:=ZBc.mp h;subst h2;rw[Zpt h1];rfl
  | none=>cases h
  | bool _=>cases h
  | str _=>cases h
  | list _=>cases h
  | tuple _=>cases h
  | dict _=>cases h
theorem ZfQ{K:ZBd}{F:Hp}:∀(ns:List Int),Zt K F (HM.ofInts ns) (ns.map V.int)
 | []=>.nil
 | n::ns=>.cons (.int n) (ZfQ ns)
theorem ZcL:∀{ns:List Int} {us:List Value},Vals (ns.map V.int) us->IntsAre us ns
 | [],_,r=>by rw[ZDw]at r; cases r; exact .nil
 | n::ns,_,r=>by
  rw[ZBn]at r;cases r with
  | cons h t=>obtain⟨u,rfl⟩:=h; exact .cons n u (ZcL t)
theorem ZiU:∀{us:List Value} {ns:List Int},IntsAre us ns->Vals (ns.map V.int) us
 | _,_,.nil=>.nil
 | _,_,.cons n t h=>.cons ⟨t,rfl⟩ (ZiU h)
theorem Zpd:∀{ds:List PyData} {ts:List (List Int)},HM.Zkq ds=Z ts->ds=HM.ZfN ts
 | [],ts,h=>by cases h; rfl
 | d::ds,ts,h=>by
  cases d with
  | tuple es =>
   unfold HM.Zkq at h;split at h
   ·rename_i ns hn
    obtain⟨r',h1,h2⟩:=ZBc.mp h;subst h2;rw[Zpt hn,Zpd h1];rfl
   ·cases h
  | none=>cases h
  | bool _=>cases h
  | int _=>cases h
  | str _=>cases h
  | list _=>cases h
  | dict _=>cases h
theorem ZpP{ns ms:List Int}(h:ms.Perm ns)(hs:ms.Pairwise (·<=·)):ms=HM.sortI ns:=by refine ZiI (R:=(·<=·)) (λa b h1 h2=>by omega) (h.trans (ZEl ns _).symm) hs ?_;have:=ZED (le:=λa b:Int=>decide (a<=b)) (λa b c h1 h2=>by simp at *; omega) (λa b=>by simp; omega) ns;exact this.imp λh=>by simpa using h
theorem ZuY{ts us:List (List Int)}(h:us.Perm ts)(hs:us.Pairwise (λx y=>HM.lexLt y x=ZGI)):us=HM.Ze7 ts:=by
 refine ZiI (R:=λx y=>HM.lexLt y x=ZGI) (λa b h1 h2=>Zkc a b h2 h1) (h.trans (ZEl ts _).symm) hs ?_;have:=ZED (le:=λa b:List Int=>!HM.lexLt b a) (λa b c h1 h2=>by
  simp only[Bool.not_eq_true']at *;cases q:HM.lexLt c a with
  | false=>rfl
  | true =>
   rcases ZmK c b a q with z | z
   ·rw[h2]at z; cases z
   ·rw[h1]at z; cases z) (λa b=>by
  cases q:HM.lexLt b a with
  | false=>simp
  | true =>
   cases q2:HM.lexLt a b with
   | false=>simp
   | true=>have:=lex_trans _ _ _ q q2; rw[lex_irrefl]at this; cases this) ts
 exact this.imp λh=>by simpa using h
theorem Zk4{vs:List Value}{out:Array Value}{b:Addr}{o:Obj}(hb:b≠a)(e:h.get? b=Z o):(sortedHeap h a vs out).get? b=Z o:=by rw[sortedHeap_old hb (ZBt e)]; exact e
theorem Zpr(hc:X.calm=ZGH):ZaO X (.builtin "sorted") (λxs H Q=>∃p F ds ds',xs=[.ref p]/\Zq F H/\ZjR X.K F H p ds/\HM.ZfD ds=Z ds'/\∀l ws,H l=Z_->Zt X.K (ZbX F H) ds' ws->Q (.ref l) (upd H l (.lst ws))):=by
 intro pins s σ H xs us Q I r h;obtain⟨p,F,ds,ds',rfl,sub,hsrc,hsort,q⟩:=h;obtain⟨u,rfl,rx⟩:=vals1 r;cases rx;obtain⟨vs,rv,go⟩:=hsrc.gath I sub;unfold HM.ZfD at hsort;split at hsort
 ·rename_i h64
  have hvl:=rv.1;refine ZFO kind_sorted plain_sorted entry_sorted (args_sorted1 _) ?_;unfold Builtin.«sorted»;refine ZBa (m:=checkCount "sorted" 1 1 _) (ZBe ?_);refine ZBa (go _ _ _ (I.ok.hd hc) λus h' tk ru kp=>?_);have hul:=ru.length;refine ZBa (wpAny_newList ?_ (by rw[ZCN]; omega));have hoL:(h'.push (seqObj "list" us.toArray 0)).get? h'.objs.size=Z (seqObj "list" us.toArray 0):=ZBw _ rfl;have fin:∀(out:Array Value) (ws:List V),Vals ws out.toList->Zt X.K (ZbX F H) ds' ws->ws.length<64->EP X pins σ Q (.ref h'.objs.size) { s with heap:=sortedHeap (h'.push (seqObj "list" us.toArray 0)) h'.objs.size us out,toks:=tk }:=λout ws rw' rd hw=>by obtain⟨e,he⟩:=sortedHeap_at (out:=out) hoL;have I1:Inv X pins σ H { s with heap:=h',toks:=tk }:=I.kept kp;refine⟨.ref h'.objs.size,_,I1.laid (a:=h'.objs.size) (o:=.lst ws) (t':=tk) (λb o e1=>?_) (ZBl _) ⟨by rw[ZCN]; omega,out.toList,e,rw',by simpa using he⟩,rfl,q _ ws (I1.hok.fresh (ZBl _)) rd⟩;exact Zk4 (ZBA (ZBt e1)) (ZBg _ e1)
  show wpAny _ _ _ _ _ { s with heap:=h'.push (seqObj "list" us.toArray 0),toks:=tk };split at hsort
  ·rename_i ns hns
   cases hsort;have evs:=Zco hns rv;rw[evs]at ru;have hI:=ZcL ru;refine ZBa (ZCm (ZCj slot_list_sort ⟨_,hoL,rfl⟩ ZF9 (list_sort_tree hoL hI (by omega) λout ns' a1 a2 a3=>⟨_,rfl,?_⟩) (args_list_sort _)));refine ZBe ⟨_,rfl,?_⟩;have e:=ZpP a2 a3;have hl:ns'.length<64:=by rw[a2.length_eq,<-hI.length,<-hul]; omega
   refine fin out (ns'.map V.int) (ZiU a1) ?_ (by rw[ZBb]; exact hl);rw[<-e];exact ZfQ ns'
  ·split at hsort
   ·rename_i ts hts
    split at hsort
    ·rename_i hne
     cases hsort;have eds:=Zpd hts;have hT:∀(i:Nat) t,ts[i]?=Z t->∃b,us[i]?=Z (.ref b)/\TI (h'.push (seqObj "list" us.toArray 0)) b t:=λi t e=>by
      have ed:ds[i]?=Z (.tuple (HM.ofInts t)):=by rw[eds]; unfold HM.ZfN; rw[ZBG,e]; rfl
      obtain⟨v,hv,rp⟩:=rv.get ed;generalize hq:HM.ofInts t=q at rp;cases rp with
      | @tupk b x h1 =>
       exfalso;cases t with
       | nil=>cases hq
       | cons a t =>
        injection hq with e1 _
        cases e1
      | @tup b _ xs hb hl hr=>subst hq;obtain⟨u,hu,ru'⟩:=ru.get hv;cases ru';have ev:=Zco (F:=ZbX F H) (Zrl t) ⟨hl,hr⟩;subst ev;have hH:H b=Z (.tup (t.map V.int)):=(Ext.refl sub).tups.sub _ _ hb;obtain⟨z,its,rt,o,h1,h2,n,h3⟩:=(show Zab X.prog X.w H s.heap b (.tup (t.map V.int)) from I.hok b _ hH);exact⟨b,hu,o,its.toArray,n,ZBg _ (kp b o h1),h2,h3,by simpa using ZcL rt⟩
     have hlt:ts.length=us.length:=by have:=congrArg ZB7 eds;unfold HM.ZfN at this;rw[ZBb]at this;omega
     refine ZBa (ZCm (ZCj slot_list_sort ⟨_,hoL,rfl⟩ ZF9 (Zu2 hoL hlt hT ?_ (by omega) λpm hp hs=>⟨_,rfl,?_⟩) (args_list_sort _)))
     ·rw[ZCq]at hne
      rcases hne with z | z
      ·left
       have:=of_decide_eq_true z;omega
      ·right
       intro t ht e;have:=ZBj.mp z t ht;rw[e]at this;cases this
     ·refine ZBe ⟨_,rfl,?_⟩
      have hpl:pm.length=us.length:=by rw[hp.length_eq,ZCv]
      have hmem:∀i∈pm,i<us.length:=λi hi=>ZBD.mp (hp.mem_iff.mp hi);have e:(pm.map λi=>ts.getD i [])=HM.Ze7 ts:=by
       refine ZuY ?_ hs;refine(hp.map _).trans ?_;have:(ZBm us.length).map (λi=>ts.getD i [])=ts:=by refine List.ext_getElem (by simp[hlt]) λi h1 h2=>?_;simp at h1;simp[ZCS,show i<ts.length by omega]
       rw[this]
      refine fin _ (pm.map λi=>vs.getD i V.non) ?_ ?_ (by rw[ZBb]; omega)
      ·refine Zh9 (by simp) λk v u e1 e2=>?_
       rw[ZBG]at e1;rw[List.toList_toArray,ZBG]at e2;obtain⟨i,hi,rfl⟩:=ZBc.mp e1;rw[hi]at e2;cases e2;have hlt':=hmem i (ZBN hi);have hv:vs[i]?=Z (vs.getD i V.non):=by simp[ZCS,show i<vs.length by omega]
       obtain⟨u,hu,ru'⟩:=ru.get hv;have:us.getD i ZCf=u:=by simp[ZCS,hu]
       show RelV _ (us.getD i ZCf);rw[this];exact ru'
      ·rw[<-e]
       refine⟨by unfold HM.ZfN; simp,λk d v e1 e2=>?_⟩;unfold HM.ZfN at e1;rw[ZBG,ZBG]at e1;rw[ZBG]at e2;obtain⟨i,hi,rfl⟩:=ZBc.mp e2;rw[hi]at e1;have hlt':=hmem i (ZBN hi);have hd:ds[i]?=Z d:=by
        rw[eds]; unfold HM.ZfN;rw[ZBG];have:ts[i]?=Z (ts.getD i []):=by simp[ZCS,show i<ts.length by omega]
        rw[this];exact e1
       have hv:vs[i]?=Z (vs.getD i V.non):=by simp[ZCS,show i<vs.length by omega]
       exact rv.2 i d _ hd hv
    ·cases hsort
   ·cases hsort
 ·cases hsort
end
end
section
variable[FX]
section
variable{prog:Program}{w:World}{A:Around}{E:Value->Shared->Prop}{s:Shared}
theorem Zn9{a b c:Int}{t u v:Tok}(hh:A.handled=Z_)(hr:IsRange s.heap r a b c t u v)(hsmall:ZGy a b c=ZGH)(hn:ZDT a b c=n)(hlen:n<=2 ^ 24)
  (h:∀(h':Heap) (tk:Nat) (acc:Array Value),(∀b o,s.heap.get? b=Z o->h'.get? b=Z o)->ItemsOf (λi v=>∃t,v=.int (a+i*c) t) acc n->R acc.toList { s with heap:=h',toks:=tk }) :
  wpAny (model prog w) A (collect (.ref r)) R E s:=by
 unfold collect;refine ZBa (wpAny_runValue (ZCL entry_proto_collect' ?_));rw[ZCo ZFo _];show wpAny _ A.in1 (newList [] >>= λl=>again (.builtin "list.__iadd__" ⟨[l,.ref r],[]⟩)) _ _ s;refine ZBa (ZBV (ZBe ⟨ZDF ZDX _,ZCL entry_list_iadd' ?_⟩));rw[ZCo ZDX _];have hS₁:(s.heap.push { cls:=.type "list",data:=.seq ([]:List Value).toArray }).get? s.heap.objs.size=Z { cls:=.type "list",data:=.seq #[] }:=ZBw _ rfl;show wpAny _ A.in1 (ZFp (.ref s.heap.objs.size) (.ref r) (.ref s.heap.objs.size)) _ _ _;have hr1:IsRange (s.heap.push { cls:=.type "list",data:=.seq ([]:List Value).toArray }) r a b c t u v:=ZBg _ hr;refine ZCH (wpAny_extend_range (A:=A) (s:={ s with heap:=s.heap.push { cls:=.type "list",data:=.seq ([]:List Value).toArray } })
  (R:=λ(q:Result) (s':Shared)=>∃(h':Heap) (tk:Nat) (acc':Array Value) (c':Nat),q=.ok (.ret (.ref s.heap.objs.size))/\s'={ s with heap:=h',toks:=tk } /\
   (∀b o,s.heap.get? b=Z o->h'.get? b=Z o)/\h'.get? s.heap.objs.size=Z { cls:=.type "list",dict:=Z_,data:=.seq acc' c',slots:=#[] }/\ItemsOf (λi v=>∃t,v=.int (a+i*c) t) acc' n)
  hh hr1 hsmall hn hlen s.heap.objs.size (.ref s.heap.objs.size) 0 hS₁
  (λh' tk acc' c' hk hS' hacc=>⟨h',tk,acc',c',rfl,rfl,λb o e=>hk b o (ZBA (ZBt e)) (ZBg _ e),hS',hacc⟩)) (λfin s' x=>?_) λe s' x=>?_
 ·have go:∀(h':Heap) (tk:Nat) (acc':Array Value) (c':Nat),(∀b o,s.heap.get? b=Z o->h'.get? b=Z o)->h'.get? s.heap.objs.size=Z { cls:=.type "list",dict:=Z_,data:=.seq acc' c',slots:=#[] }->ItemsOf (λi v=>∃t,v=.int (a+i*c) t) acc' n ->
    wpAny (model prog w) A (load s.heap.objs.size >>= λo=>match o.data with | .seq xs _=>pure xs.toList | _=>unsupported "internal:collect") R E { s with heap:=h',toks:=tk }:=λh' tk acc' c' hk hS' hacc =>
   ZBa (wpAny_load hS' (ZBe (h h' tk acc' hk hacc)))
  cases fin with
  | done f=>obtain⟨h',tk,acc',c',e,rfl,hk,hS',hacc⟩:=x;cases e;exact go h' tk acc' c' hk hS' hacc
  | again c₁=>refine⟨x.1,ZDi x.2 λq s₂ y=>?_⟩;obtain⟨h',tk,acc',c',rfl,rfl,hk,hS',hacc⟩:=y;exact go h' tk acc' c' hk hS' hacc
 ·obtain⟨_,_,_,_,e',_⟩:=x
  cases e'
end
theorem ZkJ(r:Addr)(a b c:Int)(t u v:Tok)(n:Nat)(hsmall:ZGy a b c=ZGH)(hn:ZDT a b c=n)(hlen:n<=2 ^ 24) :
  Meets (Builtin.«tuple.__new__» ⟨[.type "tuple",.ref r],[]⟩)
   (λA R s=>A.handled=Z_/\IsRange s.heap r a b c t u v/\∀(h':Heap) (tk:Nat) (acc:Array Value),(∀b o',s.heap.get? b=Z o'->h'.get? b=Z o')->ItemsOf (λi v=>∃t,v=.int (a+i*c) t) acc n ->
    R (.ok (.ret (.ref h'.objs.size))) { s with heap:=h'.push { cls:=.type "tuple",data:=.seq acc },toks:=tk }) :=
 .of_wp λprog w A R s h=>by
  obtain⟨hp,g,d,tk,os⟩:=s; obtain⟨hh,ht,h⟩:=h;have hsub:=PySem.sub_tuple_self;have hinit:=PySem.init_tuple_lookup;have hmh:=PySem.madeHere_tuple;have hT:Shared.TypeIs ⟨hp,g,d,tk,os⟩ (.ref r) "range":=⟨_,ht,rfl⟩;have hh1:A.in1.handled=Z_:=hh
  wp_walk using ZE0 hT,Zn9 hh1 ht hsmall hn hlen
  intro h' tk' acc hk hacc;show wpAny _ _ (ZCX acc.toList.toArray >>= λv=>ret v) _ _ _;unfold ZCX;have e:acc.toList.toArray=acc:=by simp
  rw[e];refine ZBa (ZBV ?_ (by show acc.size<=sizeLine; rw[hacc.1,ZCN]; omega));exact ZBe ⟨_,rfl,h h' tk' acc hk hacc⟩
section
variable{X:Cx}{a b c e:Expr}{fa fb fc:HM.EF}{pos p:Pos}{f:HM.BF}
theorem Zpw:ZaO X (.type "range") (λxs H Q=>∃j,xs=[.int j]/\∀l,H l=Z_->Q (.ref l) (upd H l (.rng 0 j))):=by intro pins s σ H xs us Q I r h;obtain⟨j,rfl,q⟩:=h;obtain⟨u,rfl,rx⟩:=vals1 r;obtain⟨t,rfl⟩:=rx;refine call_range_1 ⟨.ref s.heap.objs.size,_,I.laid (a:=s.heap.objs.size) (o:=.rng 0 j) (λb o e=>ZBg _ e) (ZBl _) ?_,rfl,q _ (I.hok.fresh (ZBl _))⟩;exact⟨_,_,_,ZBw _ rfl⟩
theorem Zq4(hc:X.calm=ZGH):ZaO X (.type "tuple") (λxs H Q=>∃p lo hi,xs=[.ref p]/\H p=Z (.rng lo hi)/\-1000000<lo/\lo<1000000/\-1000000<hi/\hi<1000000 /\
  ∀l,H l=Z_->Q (.ref l) (upd H l (.tup ((ZBm (hi-lo).toNat).map λ(k:Nat)=>V.int (lo+k))))):=by
 intro pins s σ H xs us Q I r h;obtain⟨p,lo,hi,rfl,hp,h1,h2,h3,h4,q⟩:=h;obtain⟨u,rfl,rx⟩:=vals1 r;cases rx;obtain⟨t,u,v,ho⟩:=(show Zab X.prog X.w H s.heap p (.rng lo hi) from I.hok p _ hp);have hn:ZDT lo hi 1=((hi-lo).toNat:Nat):=by rw[rangeSize_one]; split<;>omega
 refine callType_new PySem.F.called_tuple (by decide) (PySem.F.typeCall_tuple_1 _) (PySem.F.newCall_tuple_1 _) (λobj=>PySem.F.args_object_init_2 obj _) PySem.F.entry_tuple_new
  (ZkJ p lo hi 1 t u v (hi-lo).toNat (small_one (by omega) (by omega) (by omega) (by omega)) hn (by omega)) ⟨I.ok.hd hc,ho,λh' tk' acc kp hacc=>⟨⟨_,ZBw _ rfl,rfl⟩,?_⟩⟩
 have I1:Inv X pins σ H { s with heap:=h',toks:=tk' }:=I.kept kp;have rv:Vals ((ZBm (hi-lo).toNat).map λ(k:Nat)=>V.int (lo+k)) acc.toList:=by
  refine Zh9 (by have z:acc.toList.length=acc.size:=ZBB; rw[ZBb,ZCv,z,hacc.1]) λi v u e1 e2=>?_;rw[ZBG]at e1;obtain⟨k,hk,rfl⟩:=ZBc.mp e1;obtain⟨t,rfl⟩:=hacc.2 i u (by rw[<-ZCe]; exact e2);have:k=i:=by have:=ZBr.mp hk;obtain⟨_,e⟩:=this;simpa using e.symm
  subst this;exact⟨t,by simp⟩
 have I2:=I1.laid (a:=h'.objs.size) (o:=.tup ((ZBm (hi-lo).toNat).map λ(k:Nat)=>V.int (lo+k))) (h':=h'.push { cls:=.type "tuple",data:=.seq acc }) (t':=tk') (λb o e=>ZBg _ e) (ZBl _)
  ⟨by rw[ZBb,ZCv,ZCN]; omega,acc.toList,rv,by simpa using ZF6 _ _⟩
 exact⟨.ref h'.objs.size,_,I2,rfl,q _ (I1.hok.fresh (ZBl _))⟩
theorem Zrd(lo:Int)(n:Nat):Zt K F (HM.Zc4 lo n) ((ZBm n).map λ(k:Nat)=>V.int (lo+k)):=by unfold HM.Zc4;refine⟨by simp,λi d v e1 e2=>?_⟩;rw[ZBG]at e1 e2;obtain⟨k,hk,rfl⟩:=ZBc.mp e1;rw[hk]at e2;cases e2;exact .int _
theorem ZkO(hmt:X.mg "tuple" = Z_)(hm:X.mg "range" = Z_)(hc:X.calm=ZGH)(ha:XE X a fa)(hgt:Gl X "tuple":=by rfl)(hg:Gl X "range":=by rfl)(hs:ZBp [a] X.env=[(ZGI,eval a X.env)]:=by rfl)
  (hs2:ZBp [ZGD (.Name "range" p') [a] [] pos'] X.env=[(ZGI,eval (ZGD (.Name "range" p') [a] [] pos') X.env)]:=by rfl) :
  XE X (.Call (.Name "tuple" p) [.Call (.Name "range" p') [a] [] pos'] [] pos) (HM.Zi4 (HM.ZbI fa)):=by
 intro r d hd;unfold HM.Zi4 at hd;split at hd
 ·rename_i ds hds
  split at hd
  ·cases hd
   unfold HM.ZbI at hds;split at hds
   ·rename_i j hj
    split at hds
    ·rename_i hok
     cases hds;obtain⟨k1,k2⟩:=ZrB hok;refine PE.imp (ZdD (Zq4 hc) hgt hmt Zlz (ZaL (ZdD Zpw hg hm boot_range (ZaL (ha r _ hj) Zca hs) (he:=hs)) Zca hs2) (he:=hs2)) λσ H Q ⟨F0,H0,F,at_,k⟩=>?_;refine⟨F0,H0,F,at_,λv F1 H1 x1 r1=>⟨j,by rw[r1.int_inv],λl hl=>?_⟩⟩;refine⟨l,0,j,rfl,ZE,by omega,by omega,by omega,by omega,λl2 hl2=>?_⟩;have x2:=x1.lay' (o:=.rng 0 j) hl;have x3:=x2.lay (o:=.tup ((ZBm (j-0).toNat).map λ(k:Nat)=>V.int (0+k))) hl2;have rp:=Zrd (K:=X.K) (F:=upd F1 l2 (.tup ((ZBm (j-0).toNat).map λ(k:Nat)=>V.int (0+k)))) 0 j.toNat;have ej:(j-0).toNat=j.toNat:=by omega
     refine k _ _ _ x3 (.tup ZE ?_ ?_)
     ·rw[ej]; exact rp.1
     ·rw[ej]at rp ⊢; exact rp.2
    ·cases hds
   ·cases hds
  ·cases hd
 ·cases hd
theorem Zua{H:Hp}{q:HM.B}{v:V}{fp:List Addr}{ds:List PyData}(sub:Zq F H)(r:Zam K F H q v fp)(h:HM.Zwi q=Z ds):∃a,v=.ref a/\ZjR K F H a ds:=by
 cases r with
 | pl r =>
  cases r with
  | tup h1 h2 h3=>cases h; exact⟨_,rfl,.tup (.of (sub _ _ h1)) ⟨h2,h3⟩⟩
  | @tupk a x h1=>cases h; exact⟨_,rfl,.tup (.inr h1) (.one (.str x))⟩
  | lst h1 h2 h3=>cases h; exact⟨_,rfl,.lst (sub.seq h1) ⟨h2,h3⟩⟩
  | dct _ _ _ _=>cases h
  | fn _=>cases h
  | non=>cases h
  | bl _=>cases h
  | int _=>cases h
  | str _=>cases h
 | ol h1 r=>cases h; exact⟨_,rfl,.lst (.of h1) r⟩
 | hd _ _ _ _=>cases h
 | hf _=>cases h
 | @ok a kvs vvs h1 h2 h3 =>
  cases h;refine⟨_,rfl,?_⟩;have e:(kvs.map λp=>HM.ZaQ p.1)=vvs.map λp=>HM.ZaQ p.1:=by
   have:=congrArg (ZFf HM.ZaQ) h2
   rwa [ZBz,ZBz]at this
  rw[e];exact .dk h1
 | @ot a kvs vvs h1 h2 h3 =>
  cases h;refine⟨_,rfl,?_⟩;have e:(kvs.map λp=>ZBL (p.1.map HM.ZaQ))=vvs.map λp=>ZBL (p.1.map HM.ZaQ):=by
   have:=congrArg (ZFf λk:List Key=>ZBL (k.map HM.ZaQ)) h2
   rwa [ZBz,ZBz]at this
  rw[e];exact .dt h1
 | @otl a kvs vvs ls h1 h2 h3 h4 =>
  cases h;refine⟨_,rfl,?_⟩;have e:(kvs.map λp=>ZBL (p.1.map HM.ZaQ))=vvs.map λp=>ZBL (p.1.map HM.ZaQ):=by
   have:=congrArg (ZFf λk:List Key=>ZBL (k.map HM.ZaQ)) h2
   rwa [ZBz,ZBz]at this
  rw[e];exact .dt h1
theorem Zjk(hm:X.mg "sorted" = Z_)(hc:X.calm=ZGH)(ha:XB X a f)(hg:Gl X "sorted":=by rfl)(hs:ZBp [a] X.env=[(ZGI,eval a X.env)]:=by rfl):XF X (.Call (.Name "sorted" p) [a] [] pos) (HM.Zii f):=by
 intro r d h;unfold HM.Zii at h;split at h
 ·rename_i x hx
  split at h
  ·rename_i ds hds
   obtain⟨ds',h1,h2⟩:=ZBc.mp h;subst h2;refine PE.imp (ZbT (Zpr hc) hg hm Znt (Zc5 ha hx hs) (he:=hs)) λσ H Q ⟨F0,H0,F,at_,k⟩=>?_;refine⟨F0,H0,F,at_,λv fp F1 H1 x1 r1=>?_⟩;obtain⟨l,e1,src⟩:=Zua x1.sub r1 hds;subst e1;exact⟨l,F1,ds,ds',rfl,x1.sub,src,h1,λl' ws hl' rs=>Zet (P:=λv _ H'=>Q v H') x1.tups rs hl' k⟩
  ·cases h
 ·cases h
theorem Zut(hc:X.calm=ZGH):ZaO X (.type "set") (λxs H Q=>∃p ns,xs=[.ref p]/\SqL X.K H p (ns.map V.int)/\(∀n∈ns,0<=n/\n<8)/\∀l,H l=Z_->Q (.ref l) (upd H l (.ext λh=>Zd3 X.prog X.w h l (HM.dedup [] ns)))):=by intro pins s σ H xs us Q I r h;obtain⟨p,ns,rfl,hq,hb,q⟩:=h;obtain⟨u,rfl,rx⟩:=vals1 r;cases rx;obtain⟨its,rv,pl,hz⟩:=I.list hq;refine Zum (I.ok.hd hc) pl.isList (by simpa using ZcL rv) hb λh' tk hS kp=>?_;have hS':=hS;obtain⟨o,es,ep,t,ho,_⟩:=hS';refine⟨.ref s.heap.objs.size,_,I.laid (a:=s.heap.objs.size) (o:=.ext λh=>Zd3 X.prog X.w h s.heap.objs.size (HM.dedup [] ns)) (λb o e=>kp b o (ZBt e) e) (ZBl _) ?_,rfl,q _ (I.hok.fresh (ZBl _))⟩;exact⟨hS,⟨o,ho⟩,λh1 h2 x kk=>x.at' kk⟩
theorem Zpq(hc:X.calm=ZGH):ZaO X (.builtin "sorted") (λxs H Q=>∃p L,xs=[.ref p]/\H p=Z (.ext λh=>Zd3 X.prog X.w h p L)/\∀l,H l=Z_->Q (.ref l) (upd H l (.lst ((HM.sortI L).map V.int)))):=by
 intro pins s σ H xs us Q I r h;obtain⟨p,L,rfl,hp,q⟩:=h;obtain⟨u,rfl,rx⟩:=vals1 r;cases rx;obtain⟨hX,_,_⟩:=(show Zab X.prog X.w H s.heap p (.ext λh=>Zd3 X.prog X.w h p L) from I.hok p _ hp);obtain⟨o,es,ep,t,ho,hex,hd,hen,hpm,hpl,ht⟩:=hX;have hsz:=size_of hpl;have hfew:=ht.few;have raw:Ze6 X.w s.heap p es ep t:=⟨⟨o,ho,hex,hd⟩,by rw[hsz]; exact ht.fits,hsz,ht⟩;refine ZFO kind_sorted plain_sorted entry_sorted (args_sorted1 _) ?_;unfold Builtin.«sorted»;refine ZBa (m:=checkCount "sorted" 1 1 _) (ZBe ?_);refine ZBa (ZhS (Zxz (es:=es) (ep:=ep) (t:=t)) (I.ok.hd hc) raw (by rw[ZCN]; omega) λh' tk acc kp _ hacc=>?_);have hal:acc.toList.length=es.size:=by rw[ZBB]; exact hacc.1
 have hI:IntsAre acc.toList ((Zes X.w p es ep).toList.map Ze3):=by
  have key:∀(us:List Value) (xs:List (Int × Value)),us.length=xs.length->(∀(i:Nat) u,us[i]?=Z u->∃e,xs[i]?=Z e/\u=e.2)->(∀e∈xs,∃n t,e=((intKind X.prog X.w).hash n,ZC9 n t))->IntsAre us (xs.map Ze3):=by
   intro us
   induction us with
   | nil=>intro xs hl _ _; cases xs with | nil=>exact .nil | cons _ _=>simp at hl
   | cons u us ih =>
    intro xs hl hk he;cases xs with
    | nil=>simp at hl
    | cons x xs=>obtain⟨e,e1,e2⟩:=hk 0 u rfl;simp at e1;subst e1;obtain⟨n,t,e3⟩:=he x (ZBf ..);rw[e2,e3];exact .cons n t (ih xs (by simpa using hl) (λi u e=>hk (i+1) u (by simpa using e)) λe h=>he e (ZBi _ h))
  refine key acc.toList (Zes X.w p es ep).toList (by rw[hal,ZBB,Zj3]) (λi u e=>?_) λe h=>hen e ((Zki X.w p es ep).mem_iff.mp h);obtain⟨e',e1,e2⟩:=hacc.2 i u (by rw[<-ZCe]; exact e);exact⟨e',by rw[ZCe]; exact e1,e2⟩
 refine ZBa (wpAny_newList ?_ (by rw[hal,ZCN]; omega));have hoL:(h'.push (seqObj "list" acc.toList.toArray 0)).get? h'.objs.size=Z (seqObj "list" acc.toList.toArray 0):=ZBw _ rfl;show wpAny _ _ _ _ _ { s with heap:=h'.push (seqObj "list" acc.toList.toArray 0),toks:=tk };refine ZBa (ZCm (ZCj slot_list_sort ⟨_,hoL,rfl⟩ ZF9 (list_sort_tree hoL hI (by omega) λout ns' a1 a2 a3=>⟨_,rfl,?_⟩) (args_list_sort _)));refine ZBe ⟨_,rfl,?_⟩;have e:ns'=HM.sortI L:=ZpP (a2.trans (((Zki X.w p es ep).map Ze3).trans hpm)) a3;have hl:ns'.length<64:=by rw[a2.length_eq,<-hI.length,hal]; omega
 obtain⟨ee,he⟩:=sortedHeap_at (out:=out) hoL;have I1:Inv X pins σ H { s with heap:=h',toks:=tk }:=I.kept kp;refine⟨.ref h'.objs.size,_,I1.laid (a:=h'.objs.size) (o:=.lst (ns'.map V.int)) (t':=tk) (λb o e1=>?_) (ZBl _) ⟨by rw[ZBb,ZCN]; omega,out.toList,ee,ZiU a1,by simpa using he⟩,rfl,?_⟩
 ·exact Zk4 (ZBA (ZBt e1)) (ZBg _ e1)
 ·rw[e]; exact q _ (I1.hok.fresh (ZBl _))
theorem Zos(hm:X.mg "sorted" = Z_)(hm2:X.mg "set" = Z_)(hc:X.calm=ZGH)(ha:XB X a f)(hg:Gl X "sorted":=by rfl)(hg2:Gl X "set":=by rfl)(hs:ZBp [a] X.env=[(ZGI,eval a X.env)]:=by rfl)
  (hs2:ZBp [ZGD (.Name "set" p') [a] [] pos'] X.env=[(ZGI,eval (ZGD (.Name "set" p') [a] [] pos') X.env)]:=by rfl) :
  XF X (.Call (.Name "sorted" p) [.Call (.Name "set" p') [a] [] pos'] [] pos) (HM.ZiR f):=by
 intro r d h;unfold HM.ZiR at h;split at h
 ·rename_i x hx
  split at h
  ·rename_i ds hds
   split at h
   ·rename_i ns hns
    split at h
    ·rename_i hlow
     cases h;refine PE.imp (ZbT (Zpq hc) hg hm Znt (ZaL (ZdD (Zut hc) hg2 hm2 ZyB (Zc5 ha hx hs) (he:=hs)) Zca hs2) (he:=hs2)) λσ H Q ⟨F0,H0,F,at_,k⟩=>?_;refine⟨F0,H0,F,at_,λv fp F1 H1 x1 r1=>?_⟩;obtain⟨l,vs,e1,hq,rs⟩:=ZdC x1.sub r1 hds;subst e1;rw[Zco hns rs]at hq;refine⟨l,ns,rfl,hq,λn hn=>?_,λl2 hl2=>⟨l2,_,rfl,ZE,λl3 hl3=>?_⟩⟩
     ·have:=ZBj.mp hlow n hn
      rw[ZBx,decide_eq_true_eq,decide_eq_true_eq]at this;exact this
     ·have x2:=x1.lay' (o:=.ext λh=>Zd3 X.prog X.w h l2 (HM.dedup [] ns)) hl2
      exact Zet (P:=λv _ H'=>Q v H') x2 (ZfQ _) hl3 k
    ·cases h
   ·cases h
  ·cases h
 ·cases h
end
end
end HP
namespace HP
open PySem PySem.Spec PyProof.Rows L2
variable{tg:Expr}{g:HM.AF}{b' q:HM.B}{r:HM.Env}{F F' H:Hp}{kvs:List (List Key × PyData)}{fp:List Addr}{ds:List PyData}{p1 p2 p3 pos:Pos}{P:Program}{K:ZBd}{st:Stmt}{x y:Str}{w:World}
section
variable[FX]
section
variable{X:Cx}{a b:Expr}{fa:HM.EF}{f:HM.BF}{pos:Pos}
theorem Zqu(i:Int):∀ns:List Int,inV (.int i) (ns.map V.int)=ns.contains i
 | []=>rfl
 | n::ns=>by have ih:=Zqu i ns;unfold inV at ih ⊢;rw[ZBn,ZDZ,ih,List.contains_cons];show(n==i||_)=(i==n||_);rw[show(n==i)=(i==n) from Bool.eq_iff_iff.mpr ⟨λh=>beq_iff_eq.mpr (beq_iff_eq.mp h).symm,λh=>beq_iff_eq.mpr (beq_iff_eq.mp h).symm⟩]
theorem ZnG:∀ns:List Int,(ns.map V.int).all ZbR=ZGH
 | []=>rfl
 | n::ns=>by rw[ZBn,ZCp,ZnG ns]; rfl
theorem ZvU{d:PyData}(h:HM.Zpb fa f r=Z d):∃i q ds ns,fa r=Z (.int i)/\f r=Z q/\HM.Zgb q=Z ds/\HM.Zap ds=Z ns/\d=.bool (ns.contains i):=by
 unfold HM.Zpb at h;split at h
 ·split at h
  ·split at h
   ·obtain⟨c,h1,h2⟩:=ZBc.mp h
    obtain⟨ns,h3,h4⟩:=ZBc.mp h1;exact⟨_,_,_,ns,by assumption,by assumption,by assumption,h3,by rw[<-h2,<-h4]⟩
   ·cases h
  ·cases h
 ·cases h
theorem Zv1{neg:Bool}{i:Int}{ns:List Int}(ha:XE X a fa)(hb:XB X b f)(h1:fa r=Z (.int i))(h2:f r=Z q)(h3:HM.Zgb q=Z ds)(h4:HM.Zap ds=Z ns){op:CmpOp}(ho:OpR X (ZCx op) (rIn X.K neg))(hm:ZDo op b=ZGI) :
  PE X (.Compare a [op] [b] pos) (tAt X.K r λ_ F' _ v=>v=.bl (if neg then !ns.contains i else ns.contains i)):=by
 refine PE.imp (ZrO ho (ha r _ h1) (hb r q h2) hm) λσ H Q ⟨F0,H0,F,at_,k⟩=>?_;refine⟨F0,H0,F,at_,λv F1 H1 x1 r1=>⟨F0,H0,F1,at_.grow x1,λw F2 H2 x2 ⟨fp,r2⟩=>?_⟩⟩;obtain⟨p,vs,e1,hq,rs⟩:=ZlG x2.sub r2 h3;cases r1;rw[Zco h4 rs]at hq;refine⟨p,_,e1,hq,rfl,ZnG ns,k _ F2 H2 (x1.trans x2) ?_⟩;rw[Zqu]
theorem ZxU(ha:XE X a fa)(hb:XB X b f)(hm:ZDo .In b=ZGI:=by rfl):XE X (.Compare a [.In] [b] pos) (HM.Zpb fa f):=by intro r d h;obtain⟨i,q,ds,ns,h1,h2,h3,h4,rfl⟩:=ZvU h;refine PE.imp (Zv1 ha hb h1 h2 h3 h4 Zt7 hm) λσ H Q ⟨F0,H0,F,at_,k⟩=>⟨F0,H0,F,at_,λv F' H' x e=>k v F' H' x ?_⟩;subst e;exact .bl _
end
end
section
variable[FX]
section
variable{X:Cx}{c e:Expr}{fa:HM.EF}{t:HM.TF}{g:HM.SF}{pos:Pos}{body:List Stmt}
theorem Zk6(n:Nat)(hxe:X.xe=λ_ _=>False)(hc:XT X c t)(hb:XSs X body g):XS X (.While c body [] pos) (HM.Zl8 n t g):=by
 intro r o ho;have ho:HM.ZaR t g n r=Z o:=ho;have pb:PSs X body (λE σ H=>∃r o,g r=Z o/\tSt X.K r o E σ H):=λpins s σ H E I ⟨r,o,h1,h2⟩=>hb r o h1 pins s σ H E I h2;have pc:PT X c (λσ H Q=>∃r b,t r=Z b/\Now X.K r σ H λF0 H0 F=>∀F' H',Ext F H F' H'->Q b H'):=λpins s σ H Q I ⟨r,b,h1,h2⟩=>hc r b h1 pins s σ H Q I h2;refine PS.imp (Zvz (Znj hxe) pc pb) λE σ H ⟨F0,H0,F,at_,k⟩=>?_;refine⟨λm σ H=>∃F r,At X.K F0 H0 F H r σ/\HM.ZaR t g m r=Z o,⟨n,F,r,at_,ho⟩,?_⟩
 rintro m σ H ⟨F2,r2,at2,go⟩
 cases m with
 | zero=>cases go
 | succ m =>
  unfold HM.ZaR at go;split at go
  ·rename_i ht
   refine⟨r2,ZGH,ht,F0,H0,F2,at2,λF' H' x=>?_⟩;dsimp only;rw[if_pos rfl];have at3:=at2.grow x;have a4:=at3.rebase;refine⟨λσ' H'=>∃F r,At X.K F0 H0 F H' r σ'/\HM.ZaR t g m r=Z o,λσ' H' q=>⟨m,ZDs m,q⟩,?_⟩;split at go
   ·rename_i r' hr
    exact⟨_,_,hr,F',H0,F',a4,λσ' F' H' a'=>⟨F',r',a'.unbase at3.ext at3.nt0,go⟩⟩
   ·rename_i r' hr
    exact⟨_,_,hr,F',H0,F',a4,λσ' F' H' a'=>⟨F',r',a'.unbase at3.ext at3.nt0,go⟩⟩
   ·rename_i r' hr
    cases go;exact⟨_,_,hr,F',H0,F',a4,λσ' F' H' a'=>k σ' F' H' (a'.unbase at3.ext at3.nt0)⟩
   ·rename_i d hr
    cases go;exact⟨_,_,hr,F',H0,F',a4,λv F' H' x q=>k v F' H' (at3.ext.unbase x) q⟩
   ·cases go
  ·rename_i ht
   cases go;refine⟨r2,ZGI,ht,F0,H0,F2,at2,λF' H' x=>?_⟩;dsimp only;rw[if_neg (by simp)];exact k σ F' H' (at2.grow x)
  ·cases go
end
end
section
variable[FX]
section
variable{X:Cx}{a b:Expr}{fa:HM.EF}{f:HM.BF}{pos:Pos}
open Classical in
end
end
section
variable[FX]
section
variable{X:Cx}{a b c e:Expr}{fa fb fc:HM.EF}{f:HM.BF}{pos p:Pos}{es:List Expr}
theorem rdT{a:Addr}{vvs:List (List Key × V)}(r:Rd F a (.dT vvs))(s:ZaI F F'):Rd F' a (.dT vvs):=r.imp (λh=>s _ _ h) λ⟨o,h⟩=>⟨o,s _ _ h⟩
theorem Zof{a b:Addr}{kvs:List (List Key × V)}{k:List Key}(e:Rd H a (.dT kvs))(eb:H b=Z (.tup (k.map kV))):ZdK H a (.ref b) (ZaZ kvs k):=.inr ⟨kvs,k,b,e,rfl,eb,rfl⟩
theorem ZiH{v:V}(sub:Zq F H)(r:Zam K F H q v fp)(h:HM.Zlp q=Z kvs):∃l vvs,v=.ref l/\Rd H l (.dT vvs)/\Za6 K F kvs vvs:=by
 cases r with
 | pl r =>
  cases r with
  | @dct l es kvs' vvs h1 h2 h3 h4=>subst h2;have h:HM.Zfj (HM.Zg kvs')=Z kvs:=h;rw[HM.dec_enc]at h;cases h;refine⟨l,vvs,rfl,Zkn h1 sub,h3,?_,h4⟩;have:=congrArg ZB7 h3;rw[ZBb,ZBb]at this;rw[ZBb,ZBb,this]
  | fn _=>cases h
  | tupk _=>cases h
  | tup _ _ _=>cases h
  | lst _ _ _=>cases h
  | non=>cases h
  | bl _=>cases h
  | int _=>cases h
  | str _=>cases h
 | ol _ _=>cases h
 | ok _ _ _=>cases h
 | @ot l kvs vvs h1 h2 h3=>cases h; exact⟨l,vvs,rfl,.inl h1,h2,h3⟩
 | @hd l o es kvs' vvs h1 h2 h3 h4=>subst h2;have h:HM.Zfj (HM.Zg kvs')=Z kvs:=h;rw[HM.dec_enc]at h;cases h;exact⟨l,vvs,rfl,.inr ⟨o,sub _ _ h1⟩,h3,h4⟩
 | hf _=>cases h
 | otl _ _ _ _=>cases h
theorem ZvB{d:PyData}(h:HM.ZpX fa f r=Z d):∃x q kvs y,fa r=Z x/\f r=Z q/\HM.Zlp q=Z kvs/\HM.ZbG x=Z y/\d=.bool (HM.Zj kvs y).isSome:=by
 unfold HM.ZpX at h;split at h
 ·split at h
  ·split at h
   ·obtain⟨y,h1,h2⟩:=ZBc.mp h
    exact⟨_,_,_,y,by assumption,by assumption,by assumption,h1,h2.symm⟩
   ·cases h
  ·cases h
 ·cases h
theorem Zq5{d:PyData}(h:HM.ZeG fa f r=Z d):∃x q kvs y,fa r=Z x/\f r=Z q/\HM.Zlp q=Z kvs/\HM.ZbG x=Z y/\d=.bool (!(HM.Zj kvs y).isSome):=by
 unfold HM.ZeG at h;split at h
 ·split at h
  ·split at h
   ·obtain⟨y,h1,h2⟩:=ZBc.mp h
    exact⟨_,_,_,y,by assumption,by assumption,by assumption,h1,h2.symm⟩
   ·cases h
  ·cases h
 ·cases h
theorem ZxV(hu:X.A.units+1<cLine)(ha:XE X a fa)(hb:XB X b f)(hm:ZDo .In b=ZGI:=by rfl):XT X (.Compare a [.In] [b] pos) (HM.tV (HM.ZpX fa f)):=by intro r d h;obtain⟨x,q,kvs,y,h1,h2,h3,h4,e⟩:=ZvB (ZjO h);cases e;refine PT.imp (ZtS (Zy8 hu (ha r x h1) (hb r q h2)) hm) λσ H Q ⟨F0,H0,F,at_,k⟩=>?_;refine⟨F0,H0,F,at_,λv F1 H1 x1 r1=>⟨F0,H0,F1,at_.grow x1,λw F2 H2 x2 ⟨fp,r2⟩=>?_⟩⟩;obtain⟨l,vvs,e1,e2,T⟩:=ZiH x2.sub r2 h3;obtain⟨bb,rfl,hbb⟩:=ZdB h4 (r1.mono x2.ff);exact⟨l,_,e1,Zof e2 (x2.sub _ _ hbb),_,rfl,by rw[T.some_iff]; exact k F2 H2 (x1.trans x2)⟩
theorem Znd(hu:X.A.units+1<cLine)(ha:XE X a fa)(hb:XB X b f)(hm:ZDo .NotIn b=ZGI:=by rfl):XT X (.Compare a [.NotIn] [b] pos) (HM.tV (HM.ZeG fa f)):=by intro r d h;obtain⟨x,q,kvs,y,h1,h2,h3,h4,e⟩:=Zq5 (ZjO h);cases e;refine PT.imp (ZtS (ZtH hu (ha r x h1) (hb r q h2)) hm) λσ H Q ⟨F0,H0,F,at_,k⟩=>?_;refine⟨F0,H0,F,at_,λv F1 H1 x1 r1=>⟨F0,H0,F1,at_.grow x1,λw F2 H2 x2 ⟨fp,r2⟩=>?_⟩⟩;obtain⟨l,vvs,e1,e2,T⟩:=ZiH x2.sub r2 h3;obtain⟨bb,rfl,hbb⟩:=ZdB h4 (r1.mono x2.ff);exact⟨l,_,e1,Zof e2 (x2.sub _ _ hbb),_,rfl,by rw[T.some_iff]; exact k F2 H2 (x1.trans x2)⟩
theorem Zez(hu:X.A.units+1<cLine)(ha:XB X a f)(hk:XE X b fb)(hs:Zs0 b:=by intro _ _; rfl):XE X (.Subscript a b pos) (HM.Zak f fb):=by
 intro r d h;unfold HM.Zak at h;split at h
 ·rename_i q hq
  split at h
  ·rename_i kvs hd
   split at h
   ·rename_i x hx
    split at h
    ·rename_i y hy
     refine PE.imp (ZrF hu (ha r q hq) (hk r x hx) hs) λσ H Q ⟨F0,H0,F,at_,kk⟩=>?_;refine⟨F0,H0,F,at_,λv F1 H1 x1 ⟨fp,r1⟩=>⟨F0,H0,F1,at_.grow x1,λw F2 H2 x2 r2=>?_⟩⟩;obtain⟨l,vvs,e1,e2,T⟩:=ZiH x1.sub r1 hd;have e2':=rdT e2 x2.hh;have T':Za6 X.K F2 kvs vvs:=⟨T.1,T.2.mono x2.ff⟩;obtain⟨bb,rfl,hbb⟩:=ZdB hy r2;obtain⟨u,q1,q2⟩:=T'.look.1 d h;exact⟨l,u,e1,by rw[<-q1]; exact Zof e2' (x2.sub _ _ hbb),kk u F2 H2 (x1.trans x2) q2⟩
    ·cases h
   ·cases h
  ·cases h
 ·cases h
structure XAL(X:Cx)(es:List Expr)(f:HM.AF):Prop where
 len:∀r ds,f r=Z ds->ds.length=es.length
 pa:∀r ds,f r=Z ds->PA X es λσ H Q=>Now X.K r σ H λF0 H0 F=>∀vs F' H',Ext F H F' H'->Zt X.K H' ds vs->Q vs H'
theorem Zam.lent{v:V}{d:PyData}(sub:Zq F H)(r:Zam K F H q v fp)(h:HM.frz q=Z d):Rep K H d v:=by
 cases r with
 | pl r=>cases h; exact r.mono sub
 | ol h1 r=>cases h; exact .lst (.of h1) r.1 (r.mono sub).2
 | ok _ _ _=>cases h
 | hd h1 he hk r=>cases h; exact(Rep.dct (.inr ⟨_,h1⟩) he hk r.2).mono sub
 | hf h1=>cases h; exact(Rep.fn h1).mono sub
 | ot h1 hk r=>cases h; exact .dct (.inl h1) rfl hk (r.mono sub).2
 | otl _ _ _ _=>cases h
end
end
section
variable[FX]
section
variable{X:Cx}{a b c e:Expr}{fa fb fc:HM.EF}{f:HM.BF}{pos p:Pos}{es:List Expr}
theorem Zs7(h:XA X es g):XAL X es g :=
 ⟨h.len,λr ds hd=>PA.imp (h.pa r ds hd) λσ H Q ⟨F0,H0,F,at_,k⟩=>⟨F0,H0,F,at_,λvs F' H' x q=>k vs F' H' x (q.mono x.sub)⟩⟩
theorem Zk7(ha:XE X e fa)(hr:XAL X es g)(hs:ZBp (e::es) X.env=(ZGI,eval e X.env)::ZBp es X.env:=by rfl):XAL X (e::es) (HM.Za fa g):=by
 refine⟨λr ds h=>?_,λr ds h=>?_⟩
 ·unfold HM.Za at h
  split at h
  ·obtain⟨xs,h1,h2⟩:=ZBc.mp h
   subst h2;rw[ZBy,ZBy,hr.len r xs h1]
  ·cases h
 unfold HM.Za at h;split at h
 ·rename_i x hx
  obtain⟨xs,h1,h2⟩:=ZBc.mp h;subst h2;refine PA.imp (ZaL (ha r x hx) (hr.pa r xs h1) hs) λσ H Q ⟨F0,H0,F,at_,k⟩=>?_;exact⟨F0,H0,F,at_,λv F1 H1 x1 r1=>⟨F0,H0,F1,at_.grow x1,λvs F2 H2 x2 r2=>k (v::vs) F2 H2 (x1.trans x2) (.cons ((r1.mono x2.ff).mono x2.sub) r2)⟩⟩
 ·cases h
theorem Zot(ha:XB X e f)(hr:XAL X es g)(hs:ZBp (e::es) X.env=(ZGI,eval e X.env)::ZBp es X.env:=by rfl):XAL X (e::es) (HM.Za (HM.Ziy f) g):=by
 refine⟨λr ds h=>?_,λr ds h=>?_⟩
 ·unfold HM.Za at h
  split at h
  ·obtain⟨xs,h1,h2⟩:=ZBc.mp h
   subst h2;rw[ZBy,ZBy,hr.len r xs h1]
  ·cases h
 unfold HM.Za at h;split at h
 ·rename_i x hx
  obtain⟨xs,h1,h2⟩:=ZBc.mp h;subst h2;obtain⟨q,hq,hf⟩:=ZEC.mp hx;refine PA.imp (ZaL (ha r q hq) (hr.pa r xs h1) hs) λσ H Q ⟨F0,H0,F,at_,k⟩=>?_;exact⟨F0,H0,F,at_,λv F1 H1 x1 ⟨fp,r1⟩=>⟨F0,H0,F1,at_.grow x1,λvs F2 H2 x2 r2=>k (v::vs) F2 H2 (x1.trans x2) (.cons ((r1.lent x1.sub hf).monoT x2.hh) r2)⟩⟩
 ·cases h
theorem Rep.flat{d:PyData}{v:V}(r:Rep K F d v)(h:HM.Zmg d=ZGH):Rep K F' d v:=by
 cases r with
 | non=>exact .non
 | bl b=>exact .bl b
 | int i=>exact .int i
 | str x=>exact .str x
 | tupk _=>cases h
 | tup _ _ _=>cases h
 | lst _ _ _=>cases h
 | dct _ _ _ _=>cases h
 | fn _=>cases h
theorem Ext.forget{F'' H'':Hp}(s:Zq F H)(n:NoT F)(x:Ext (Zck H) H F'' H''):Ext F H F H'' :=
 ⟨Zq.refl F,x.hh,(n.sub s).trans (x.ff.trans x.sub),λ_ _ z=>.inl z,x.tab,id⟩
theorem Zty(hc:X.calm=ZGH):ZaO X (.builtin "max") (λxs H Q=>∃(p:Addr) (ns:List Int),xs=[.ref p]/\SqL X.K H p (ns.map V.int)/\0<ns.length/\∀M,M∈ns->(∀a,a∈ns->a<=M)->Q (.int M) H):=by
 intro pins s σ H xs us Q I r h;obtain⟨p,ns,rfl,hq,hne,q⟩:=h;obtain⟨u,rfl,rx⟩:=vals1 r;cases rx;obtain⟨its,rv,pl,hz⟩:=I.list hq;have hi:=ZcL rv;obtain⟨xs,e⟩:=hi.allInts.items;have hns:ns=xs.toList.map (·.1):=by rw[<-hi.numsOf,<-ZFy,<-e]
 have hsz:0<xs.size:=by have h3:=hne; rw[hns,ZBb,ZBB]at h3; exact h3
 have hl:=pl.isList;rw[e]at hl;refine max_intList (I.ok.hd hc) hl hsz λv h' tk hv hk=>?_;obtain⟨t,rfl⟩:=ZD2 hv;obtain⟨h1,h2⟩:=argBest_gt (numAt xs) (xs.size-1);refine⟨.int _,H,I.kept (t':=tk) hk,⟨t,rfl⟩,q _ ?_ λa ha=>?_⟩
 ·rw[hns,ZEW]; exact getD_mem (by rw[ZBb,ZBB]; omega)
 ·rw[hns]at ha
  obtain⟨j,hj,rfl⟩:=mem_getD ha;rw[ZBb,ZBB]at hj;rw[<-ZEW]; exact h2 j (by omega)
theorem Zwq(hm:X.mg "max" = Z_)(hc:X.calm=ZGH)(ha:XB X a f)(hg:Gl X "max":=by rfl)(hs:ZBp [a] X.env=[(ZGI,eval a X.env)]:=by rfl):XE X (.Call (.Name "max" p) [a] [] pos) (HM.Zl7 f):=by
 intro r d h;unfold HM.Zl7 at h;split at h
 ·rename_i x hx
  split at h
  ·rename_i ds hds
   split at h
   ·rename_i ns hns
    obtain⟨m,h1,h2⟩:=ZBc.mp h;subst h2;refine PE.imp (ZbT (Zty hc) hg hm ZpS (Zc5 ha hx hs) (he:=hs)) λσ H Q ⟨F0,H0,F,at_,k⟩=>?_;refine⟨F0,H0,F,at_,λv fp F1 H1 x1 r1=>?_⟩;obtain⟨l,vs,e1,hq,rs⟩:=ZdC x1.sub r1 hds;rw[Zco hns rs]at hq;obtain⟨m1,m2⟩:=ZDB.mp h1;refine⟨l,ns,by rw[e1],hq,ZEO m1,λM k1 k2=>?_⟩;have:M=m:=ZGa (m2 M k1) (k2 m m1);subst this;exact k _ F1 H1 x1 (.int _)
   ·cases h
  ·cases h
 ·cases h
end
end
section
variable[FX]
section
variable{X:Cx}{a b c e:Expr}{fa fb fc:HM.EF}{f:HM.BF}{pos p:Pos}
theorem ZuM{op op':CmpOp}{g g':PyData->PyData->Option PyData}(o:Zfc X op g)(o':Zfc X op' g')(ha:XE X a fa)(hb:XE X b fb)(hc:XE X c fc)
  (hm:lastMarks [op,op'] [b,c]=ZGI:=by with_unfolding_all rfl):XT X (.Compare a [op,op'] [b,c] pos) (HM.tV (HM.Zec g g' fa fb fc)):=by
 intro r t ht;have hd:=ZjO ht;unfold HM.Zec at hd;obtain⟨R,o1,o2⟩:=o.ex;obtain⟨R',o1',o2'⟩:=o'.ex;split at hd
 ·rename_i x hx
  split at hd
  ·rename_i y hy
   split at hd
   ·rename_i hg
    split at hd
    ·rename_i z hz
     refine PT.imp (Zpa o1 o1' (ha r x hx) (hb r y hy) (hc r z hz) hm) λσ H Q ⟨F0,H0,F,at_,k⟩=>?_;refine⟨F0,H0,F,at_,λv F1 H1 x1 r1=>⟨F0,H0,F1,at_.grow x1,λw F2 H2 x2 r2=>?_⟩⟩;refine o2 F2 H2 x y _ v w _ x2.sub hg (r1.mono x2.ff) r2 λu ru=>?_;refine⟨ZGH,ru.bool_inv,ZjJ ⟨F0,H0,F2,(at_.grow x1).grow x2,λw' F3 H3 x3 r3=>?_⟩⟩;exact o2' F3 H3 y z _ w w' _ x3.sub hd (r2.mono x3.ff) r3 λu' ru'=>⟨t,ru'.bool_inv,k F3 H3 ((x1.trans x2).trans x3)⟩
    ·cases hd
   ·rename_i hg
    cases hd;refine PT.imp (Zpa o1 o1' (ha r x hx) (hb r y hy) Zfs hm) λσ H Q ⟨F0,H0,F,at_,k⟩=>?_;refine⟨F0,H0,F,at_,λv F1 H1 x1 r1=>⟨F0,H0,F1,at_.grow x1,λw F2 H2 x2 r2=>?_⟩⟩;refine o2 F2 H2 x y _ v w _ x2.sub hg (r1.mono x2.ff) r2 λu ru=>?_;exact⟨ZGI,ru.bool_inv,Zj2 ⟨ZGI,rfl,k F2 H2 (x1.trans x2)⟩⟩
   ·cases hd
  ·cases hd
 ·cases hd
theorem Zuo:ZCg "sum" = Z (.builtin "sum"):=by decide +kernel
theorem ZuD(hc:X.calm=ZGH):ZaO X (.builtin "sum") (λxs H Q=>∃(p:Addr) (ns:List Int),xs=[.ref p]/\SqL X.K H p (ns.map V.int)/\Q (.int ns.sum) H):=by
 intro pins s σ H xs us Q I r h;obtain⟨p,ns,rfl,hq,q⟩:=h;obtain⟨u,rfl,rx⟩:=vals1 r;cases rx;obtain⟨its,rv,pl,hz⟩:=I.list hq;have hi:=ZcL rv;obtain⟨xs,e⟩:=hi.allInts.items;have hns:ns=xs.toList.map (·.1):=by rw[<-hi.numsOf,<-ZFy,<-e]
 have hl:=pl.isList;rw[e]at hl;refine sum_intListG (I.ok.hd hc) hl λh' tk t' hk=>?_;rw[hns]at q;refine⟨.int _,H,I.kept hk,⟨_,rfl⟩,?_⟩;rw[preSum_eq,ZDv (by simp)];exact q
theorem Zwr(hm:X.mg "sum" = Z_)(hc:X.calm=ZGH)(ha:XB X a f)(hg:Gl X "sum":=by rfl)(hs:ZBp [a] X.env=[(ZGI,eval a X.env)]:=by rfl):XE X (.Call (.Name "sum" p) [a] [] pos) (HM.Zoe f):=by
 intro r d h;unfold HM.Zoe at h;split at h
 ·rename_i x hx
  split at h
  ·rename_i ds hds
   split at h
   ·rename_i ns hns
    cases h;refine PE.imp (ZbT (ZuD hc) hg hm Zuo (Zc5 ha hx hs) (he:=hs)) λσ H Q ⟨F0,H0,F,at_,k⟩=>?_;refine⟨F0,H0,F,at_,λv fp F1 H1 x1 r1=>?_⟩;obtain⟨l,vs,e1,hq,rs⟩:=ZdC x1.sub r1 hds;rw[Zco hns rs]at hq;exact⟨l,ns,by rw[e1],hq,k _ F1 H1 x1 (.int _)⟩
   ·cases h
  ·cases h
 ·cases h
end
end
section
variable[FX]
section
variable{X:Cx}{a b c e:Expr}{fa fb fc:HM.EF}{f:HM.BF}{pos p:Pos}{es:List Expr}
theorem Zs8(i:Nat)(ha:XB X a f)(hN:X.N[i]?=Z x:=by rfl)(hv:Vis X.env.scope x:=by first | exact ZBZ rfl | exact ZBC (ZBZ rfl) | exact ZBC (ZBC rfl))(hd:(x==("__debug__":Str))=ZGI:=by decide)(hcd:(x==("__classdict__":Str))=ZGI:=by decide)
  (hbase:ZDD (.Name x p1) "extend" X.env (eval (.Name x p1) X.env)=eval (.Name x p1) X.env:=by rfl)
  (hfew:((backTo p3 (ZBp [a] X.env)).all (λx=>!x.1)&&(ZFT p3 (ZEM [] X.env)).all (λx=>x.1.isSome)&&decide (([a]:List Expr).length+([]:List Keyword).length+(if([]:List Keyword).isEmpty then 0 else 1)<30))=ZGH:=by rfl)
  (hline:(p2.endLine==p3.line)=ZGH:=by rfl) (hs:ZBp [a] X.env=[(ZGI,eval a X.env)]:=by rfl):XS X (.Expr (.Call (.Attribute (.Name x p1) "extend" p2) [a] [] p3) pos) (HM.Zky i f):=by
 intro r o h;unfold HM.Zky at h;split at h
 ·rename_i ds hds
  split at h
  ·rename_i es hes
   split at h
   ·rename_i hz
    cases h;refine PS.imp (Zkz (Zsc ZDW PySem.F.slot_list_extend PySem.F.type_list_extend Zt0 (Zb9 hN hv hd hcd) (ZaL (ha r _ hes) Zca hs) hbase hfew hline hs rfl)) λE σ H ⟨F0,H0,F,at_,k⟩=>?_;obtain⟨l,vs,e1,e2,e3,_⟩:=at_.chgList (es:=ds) hds;refine⟨.ref l,e1,.inl ⟨rfl,_,SqL.of e2⟩,F0,H0,F,at_,λv F1 H1 x1 ⟨fp,r1⟩=>?_⟩;have at1:=at_.grow x1;obtain⟨l',vs',f1,f2,f3,f4⟩:=at1.chgList (es:=ds++es) hds;rw[e1]at f1;cases f1;cases r1 with
    | @ol b _ us hb rs =>
     refine⟨_,b,vs',us,rfl,rfl,f2,hb,?_,k _ F1 _ (f4 _ (f3.append rs))⟩;have e4:=f3.1;have e6:=rs.1;have e5:(1000000:Nat)<=sizeLine:=by decide
     unfold HM.big at hz;omega
   ·cases h
  ·cases h
 ·cases h
theorem ZxW(i j:Nat){p4:Pos}(hN:X.N.Nodup)(hNi:X.N[i]?=Z x:=by rfl)(hNj:X.N[j]?=Z y:=by rfl)(hx:Loc X.env.scope x:=by first | exact ZBZ rfl | exact ZBC rfl)(hv:Vis X.env.scope y:=by first | exact ZBZ rfl | exact ZBC (ZBZ rfl) | exact ZBC (ZBC rfl))(hd:(y==("__debug__":Str))=ZGI:=by decide)(hcd:(y==("__classdict__":Str))=ZGI:=by decide)
  (hbase:ZDD (.Name y p1) "pop" X.env (eval (.Name y p1) X.env)=eval (.Name y p1) X.env:=by rfl) (hline:(p2.endLine==p3.line)=ZGH:=by rfl)
  (hs:ZDM (.Call (.Attribute (.Name y p1) "pop" p2) [] [] p3) (Z (.Name x p4)) pos.line X.env=pure ZGI:=by rfl) (hf:X.fn x=ZGH\/X.env.scope.names.lookup x=Z .local:=by first | exact .inl rfl | exact .inr rfl) :
  XS X (.Assign [.Name x p4] (.Call (.Attribute (.Name y p1) "pop" p2) [] [] p3) pos) (HM.Zu6 i j):=by
 intro r o h;unfold HM.Zu6 at h;split at h
 ·rename_i ds hds
  split at h
  ·rename_i d hd'
   cases h;refine PS.imp (ZpD hN hNi hx (Zzq ZDW PySem.F.slot_list_pop PySem.F.type_list_pop Zzd (Zb9 hNj hv hd hcd) hbase hline) hs hf) λE σ H ⟨F0,H0,F,at_,k⟩=>?_;obtain⟨l,vs,e1,e2,e3,e4⟩:=at_.chgList (es:=ds.dropLast) hds;obtain⟨v,q1,q2⟩:=e3.get hd';refine⟨.ref l,e1,.inl ⟨rfl,_,SqL.of e2⟩,l,vs,v,rfl,rfl,e2,by rw[<-e3.1]; exact q1,k _ F _ ((e4 _ ?_).set q2)⟩;rw[ZGr,ZGr,<-e3.1];exact e3.take _
  ·cases h
 ·cases h
def spF(K:ZBd)(n:Nat)(M:List PyData->Option PyData):Sp:=λvs H Q _=>∃F ds ys,vs.length=n/\Zq F H/\Tb H/\NoT F/\Zt K F ds vs/\M ds=Z (.list ys)/\∀l us F' H',Ext F H F' H'->H' l=Z (.lst us)->Zt K F' ys us->F' l=Z_->H l=Z_->Q (.ref l) H'
structure ZeB(P:Program)(w:World)(K:ZBd)(mg:Str->Option Value)(base:Heap)(k:Nat)(x:Str)(M:List PyData->Option PyData):Prop where
 ex:∃f fd ps,(∀ds d,M ds=Z d->ds.length=ps.length)/\ZdH P w K mg base CX0 k f fd ps (spF K ps.length M)/\mg x=Z (.ref f)/\ZCO K (.ref f)=ZGH/\Binds K fd ps []
theorem ZeB.mono{P:Program}{w:World}{K:ZBd}{mg:Str->Option Value}{base:Heap}{j k:Nat}{x:Str}{M:List PyData->Option PyData}(C:ZeB P w K mg base j x M)(h:j<=k):ZeB P w K mg base k x M:=by obtain⟨f,fd,ps,l,F,r⟩:=C.ex;exact⟨f,fd,ps,l,F.mono h,r⟩
theorem ZuN{k:Nat}{M:List PyData->Option PyData}(C:ZeB X.prog X.w X.K X.mg X.base k x M)(hr:Zav k X.A)(ha:XA X (e::es) g)(hg:Gl X x:=by rfl)(hdb:(x==("__debug__":Str))=ZGI:=by decide)
  (he:ZBp (e::es) X.env=(ZGI,eval e X.env)::ZBp es X.env:=by rfl) (hpl:(backTo pos (ZBp es X.env)).any (·.1)=ZGI:=by rfl):XF X (.Call (.Name x p) (e::es) [] pos) (HM.Zj0 M g):=by
 intro r d hd;unfold HM.Zj0 at hd;split at hd
 ·rename_i ds hds
  split at hd
  ·rename_i ys hM
   cases hd;obtain⟨fa,fd,ps,hl,F,hm,hk,hb⟩:=C.ex;refine PE.imp (ZmI (E:=E0) F hr hg hm hk hb .nil ZsE (ha.pa r ds hds) hdb he hpl) λσ H Q ⟨F0,H0,F1,at_,k⟩=>?_;refine⟨F0,H0,F1,at_,λvs F' H' x q=>?_⟩;show spF X.K ps.length M (vs++[]) H' Q E0;rw[ZBW];refine⟨F',ds,ys,by rw[<-q.1]; exact hl ds _ hM,x.sub,at_.tbx x,at_.ntx x,q,hM,λl us F2 H2 x2 h1 h2 h3 h4=>k _ F2 H2 (x.trans x2) ⟨[l],.ol h1 h2,by simp,λa ha=>?_⟩⟩;obtain rfl:a=l:=by simpa using ha
   exact⟨h3,x.hh.free h4⟩
  ·cases hd
 ·cases hd
theorem Zsh{mg:Str->Option Value}{base:Heap}{k:Nat}{qual:Str}{f:Addr}{fd:FuncData}{N ps:List Str}{e:Expr}{g:HM.BF}(Fn:Fun K x qual st f fd)(S:Zr N ps (Ze st))(hm:mg x=Z (.ref f))(hb:Binds K fd ps [])
  (hst:ZaS st=[.Return (Z e) p1]) (hol:∀r b,g r=Z b->∃ys,b=.ol ys)
  (body:∀(cdv:Value) (A:Around) (outer:List Env) (s:Shared) (H:Hp) (E:XK),Zav k (A.deeper (envOfC qual (Ze st) s.heap.objs.size f cdv))->XF (Zf8 CX0 P w K mg base N qual (Ze st) f cdv A outer s H E).nox e g) :
  ZeB P w K mg base (k+1) x (HM.fnOf ps.length N.length (HM.ZC (HM.eOf g))):=by
 have hpl:ps.length<=N.length:=by have:=congrArg ZB7 S.pre; rw[ZB1]at this; omega
 refine⟨f,fd,ps,λds d h=>?_,Fn.ok S (λvs H Q E h=>?_) (λcdv A outer s H vs Q E hr h=>?_),hm,Fn.kp,hb⟩
 ·unfold HM.fnOf at h
  split at h
  ·assumption
  ·cases h
 ·obtain⟨_,_,_,h,_⟩:=h
  exact h
 ·obtain⟨F,ds,ys,hl,sub,tb,nt,q,hM,kk⟩:=h
  unfold HM.fnOf at hM;split at hM
  ·rename_i hds
   have a0:=ZgZ (N:=N) sub tb nt q (by omega);have hg:g (HM.Ze9 N.length ds)=Z (.ol ys):=by
    split at hM
    ·rename_i r hr'
     cases hq:HM.eOf g (HM.Ze9 N.length ds)with
     | none=>unfold HM.ZC at hr'; rw[hq]at hr'; cases hr'
     | some d=>unfold HM.ZC at hr'; rw[hq]at hr'; cases hr'
    ·rename_i d' hr'
     cases hM;obtain⟨d,h1,h2⟩:=ZBc.mp hr';cases h2;obtain⟨b,h3,h4⟩:=ZEC.mp h1;obtain⟨zs,rfl⟩:=hol _ _ h3;cases h4;exact h3
    ·cases hM
   rw[hst];refine⟨_,ZrL (Zqh (body cdv A outer s H E hr _ _ hg)),F,H,F,a0,λv F' H' x ⟨fp,r1,nd,hn⟩=>?_⟩;cases r1 with
   | @ol l _ us h1 h2=>exact kk l us F' H' x h1 h2 (hn l (by simp)).1 (hn l (by simp)).2
  ·cases hM
theorem ZvW(i:HM.IF)(c:HM.TF)(e:HM.EF)(r:HM.Env)(b:HM.B)(h:HM.ZP i c e r=Z b):∃ys,b=.ol ys:=by
 unfold HM.ZP at h;split at h
 ·split at h
  ·obtain⟨ys,_,h2⟩:=ZBc.mp h
   exact⟨ys,h2.symm⟩
  ·cases h
 ·cases h
end
end
section
variable[FX]
section
variable{K:ZBd}{F H F0 H0 G:Hp}{a b:Addr}{ob u:HO}{vvs:List (List Key × V)}{d:PyData}{v:V}{ds:List PyData}{vs:List V}{r:HM.Env}{σ:L2.St}{i:Nat}{es:List (PyData × PyData)}
theorem Zbn(h:b≠a):sw a ob G b=G b:=by unfold sw; rw[if_neg h]
theorem Zgr:sw a ob G a=(G a).map λ_=>ob:=by unfold sw; rw[if_pos rfl]
theorem Zrs(s:Zq F H):Zq (sw a ob F) (sw a ob H):=λb o z=>by
 by_cases hb:b=a
 ·subst hb
  rw[Zgr]at z ⊢;obtain⟨x,h1,h2⟩:=ZBc.mp z;rw[s _ _ h1,<-h2]; rfl
 ·rw[Zbn hb]at z ⊢; exact s b o z
theorem Zwe(hG:∀u,G a=Z u->u=.dT vvs):sw a (.dT vvs) (sw a ob G)=G:=by
 funext b
 by_cases hb:b=a
 ·subst hb
  rw[Zgr,Zgr];cases h:G b with
  | none=>rfl
  | some u=>rw[hG u h]; rfl
 ·rw[Zbn hb,Zbn hb]
theorem Dk.nt(h:Dk vvs u):(∀xs,u≠.tup xs)/\(∀xs,u≠.lst xs)/\(∀o xs,u≠.frz o (.lst xs))/\(∀ps,u≠.tbl ps)/\(∀x,u≠.own x):=by rcases h with h | ⟨o,h⟩<;>subst h<;>exact⟨λ_ z=>(by cases z),λ_ z=>(by cases z),λ_ _ z=>(by cases z),λ_ z=>(by cases z),λ_ z=>(by cases z)⟩
theorem Rep.sw(hF:∀u,F a=Z u->Dk vvs u)(hob:Dk vvs ob)(r:Rep K F d v):Rep K (HP.sw a ob F) d v:=by
 induction r with
 | non=>exact .non
 | bl b=>exact .bl b
 | int i=>exact .int i
 | str x=>exact .str x
 | fn h=>exact .fn (FX.sw hF hob h)
 | tupk h=>exact .tupk h
 | @tup b ds vs h hl _ ih=>exact .tup (by rw[Zbn (λz=>(hF _ (z▸h)).nt.1 _ rfl)]; exact h) hl ih
 | @lst b ds vs h hl _ ih =>
  refine .lst ?_ hl ih;rcases h with h | h
  ·refine .inl ?_
   have hb:b≠a:=λz=>by
    rcases h with h | ⟨o,h⟩
    ·exact(hF _ (z▸h)).nt.2.1 _ rfl
    ·exact(hF _ (z▸h)).nt.2.2.1 _ _ rfl
   unfold Rd;rw[Zbn hb];exact h
  ·exact .inr h
 | @dct b es kvs vvs' h he hk _ ih =>
  refine .dct ?_ he hk ih
  by_cases hb:b=a
  ·subst hb
   have:vvs'=vvs/\∃u,F b=Z u:=by
    rcases h with h | ⟨o,h⟩
    ·rcases hF _ h with z | ⟨o',z⟩
     ·cases z; exact⟨rfl,_,h⟩
     ·cases z
    ·rcases hF _ h with z | ⟨o',z⟩
     ·cases z
     ·cases z; exact⟨rfl,_,h⟩
   obtain⟨rfl,u,hu⟩:=this;unfold Rd;rw[Zgr,hu];rcases hob with z | ⟨o,z⟩
   ·subst z; exact .inl rfl
   ·subst z; exact .inr ⟨o,rfl⟩
  ·unfold Rd
   rw[Zbn hb];exact h
theorem Zt.sw(hF:∀u,F a=Z u->Dk vvs u)(hob:Dk vvs ob)(r:Zt K F ds vs):Zt K (HP.sw a ob F) ds vs:=⟨r.1,λi d v h1 h2=>(r.2 i d v h1 h2).sw hF hob⟩
theorem Ext.sw(x:Ext F0 H0 F H)(hH:∀u,H a=Z u->Dk vvs u)(hob:Dk vvs ob):Ext (HP.sw a ob F0) (HP.sw a ob H0) (HP.sw a ob F) (HP.sw a ob H) :=
 ⟨Zrs x.ff,x.hh.sw,Zrs x.sub,λb o z=>by
  by_cases hb:b=a
  ·subst hb
   rw[Zgr]at z;obtain⟨u,h1,h2⟩:=ZBc.mp z;rcases x.new b u h1 with q | q | ⟨xs,e,q⟩
   ·exact .inl (by rw[Zgr,q,<-h2]; rfl)
   ·exact .inr (.inl (by rw[Zgr,q]; rfl))
   ·exact absurd e ((hH _ (x.sub _ _ h1)).nt.1 xs)
  ·rw[Zbn hb]at z
   rcases x.new b o z with q | q
   ·exact .inl (by rw[Zbn hb]; exact q)
   ·refine .inr ?_
    unfold Fre;rw[Zbn hb];exact q,λt=>(x.tab (t.unsw hob)).sw hH,λt b o z=>by
  unfold HP.sw at z;split at z
  ·obtain⟨u,_,e⟩:=ZBc.mp z
   subst e; exact hob.ntt
  ·rename_i hb
   refine x.nts (λc u y=>?_) b o z
   by_cases hc:c=a
   ·subst hc; exact(hH _ (x.sub _ _ (x.ff _ _ y))).ntt
   ·exact t c u (by rw[Zbn hc]; exact y)⟩
theorem At.sw(e:At K F0 H0 F H r σ)(hFa:F a=Z u)(hu:Dk vvs u)(hob:Dk vvs ob)(nh:∀(i:Nat) (es:List (PyData × PyData)),r[i]?≠Z (Z (HM.B.hd es))):At K (HP.sw a ob F0) (HP.sw a ob H0) (HP.sw a ob F) (HP.sw a ob H) r σ:=by
 obtain⟨fp,e⟩:=e;have hF:∀u,F a=Z u->Dk vvs u:=λu' h=>by rw[hFa]at h; cases h; exact hu
 have hH:∀u,H a=Z u->Dk vvs u:=λu' h=>by rw[e.sub _ _ hFa]at h; cases h; exact hu
 have own:∀i,∀c∈fp i,c≠a:=λi c hc z=>by rw[<-z,(e.own i c hc).1]at hFa; cases hFa
 refine⟨fp,e.ext.sw hH hob,e.len,λi b h=>?_,e.emp,λi b h=>?_,e.nd,e.dis,e.tb.sw (vvs:=vvs) (λu' z=>by have q:=e.ext.hh.back z (e.sub _ _ hFa) hu.nt.2.2.2.1;rw[q]; exact hu),λb o z=>?_⟩
 rotate_left 2
 ·unfold HP.sw at z
  split at z
  ·obtain⟨u,_,e⟩:=ZBc.mp z
   subst e; exact hob.ntt
  ·exact e.nt b o z
 ·obtain⟨v,h1,h2⟩:=e.at_ i b h
  refine⟨v,h1,?_⟩;have own:=own i;generalize fp i=f at h2 own;cases h2 with
  | pl q=>exact .pl (q.sw hF hob)
  | ol k q=>exact .ol (by rw[Zbn (own _ (by simp))]; exact k) (q.sw hF hob)
  | ok k hk q=>exact .ok (by rw[Zbn (own _ (by simp))]; exact k) hk (q.sw hF hob)
  | ot k hk q=>exact .ot (by rw[Zbn (own _ (by simp))]; exact k) hk (q.sw hF hob)
  | otl k hk hv q=>refine .otl (by rw[Zbn (own _ (by simp))]; exact k) hk hv λi ds l h1 h2=>?_;obtain⟨vs,q1,q2⟩:=q i ds l h1 h2;exact⟨vs,by rw[Zbn (own l (ZBi _ (ZBN h2)))]; exact q1,q2.sw hF hob⟩
  | hd _ _ _ _=>exact absurd h (nh _ _)
  | hf _=>exact absurd h (nh _ _)
 ·rw[Zbn (own i b h),Zbn (own i b h)]
  exact e.own i b h
theorem set_same{x:Option V}(h:σ[i]?=Z x):σ.set i x=σ:=by obtain⟨h1,h2⟩:=ZBr.mp h;rw[<-h2];exact ZD6 h1
theorem At.say(e:At K F0 H0 F H r σ)(h1:σ[i]?=Z (Z v))(q:Zam K F H b' v []):At K F0 H0 F H (r.set i (Z b')) σ:=by
 have:=e.store (i:=i) q ZDb (λa h=>by simp at h) λ_ _ _ _ _ _ h=>by simp at h
 rwa [set_same h1]at this
theorem At.loosen(e:At K F0 H0 F H r σ)(h:r[i]?=Z (Z (.hd es))):At K F0 H0 F H (r.set i (Z (.pl (.dict es)))) σ:=by
 obtain⟨v,fp,h1,h2⟩:=e.any h;cases h2 with
 | hd k1 k2 k3 k4=>exact e.say h1 (.pl (.dct (.inr ⟨_,k1⟩) k2 k3 k4.2))
 | hf k1=>exact e.say h1 (.pl (.fn k1))
theorem Zwb(h:r.all (λq=>!HM.Zbe q)=ZGH)(i:Nat)(es:List (PyData × PyData)):r[i]?≠Z (Z (.hd es)):=λz=>by have:=ZBj.mp h _ (ZBN z);cases this
theorem Zuq(h:(r.set i Z_).all (λq=>!HM.Zbe q)=ZGH)(hb:∀es,b'≠.hd es)(j:Nat)(es:List (PyData × PyData)):(r.set i (Z b'))[j]?≠Z (Z (.hd es)):=λz=>by
 by_cases hj:i=j
 ·subst hj
  by_cases hi:i<r.length
  ·rw[ZB9 hi]at z
   injection z with z
   injection z with z
   exact hb _ z
  ·rw[ZD5 (by rw[ZCy]; omega)]at z
   cases z
 ·rw[ZBP hj]at z
  exact Zwb h j es (by rw[ZBP hj]; exact z)
end
section
variable{X:Cx}{pins:List (Addr × Obj)}{σ:L2.St}{H:Hp}{s:Shared}{a:Addr}{u ob:HO}{vvs:List (List Key × V)}
theorem Zoj{h:Heap}{o:HO}{b:Addr}(ha:H a=Z u)(hu:Dk vvs u)(x:Zab X.prog X.w H h b o):Zab X.prog X.w (sw a ob H) h b o :=
 x.stay (λ_ _ _ q=>q) (λc q=>by rw[Zbn (λz=>by rw[z,ha]at q; cases q; exact hu.nt.2.2.2.2 _ rfl)]; exact q) λc xs q=>by rw[Zbn (λz=>by rw[z,ha]at q; cases q; exact hu.nt.1 _ rfl)]; exact q
theorem Zo7(I:Inv X pins σ H s)(ha:H a=Z u)(hu:Dk vvs u)(ok:Zab X.prog X.w (sw a ob H) s.heap a ob)(hn:∀o w,X.H₀ a≠Z (.frz o w)):Inv X pins σ (HP.sw a ob H) s:=by
 have none':∀b,H b=Z_->HP.sw a ob H b=Z_:=λb h=>by rw[Zbn (λz=>by rw[z,ha]at h; cases h)]; exact h
 refine⟨I.ok,I.os,I.bare,⟨I.base.keep,I.base.slot,λb o h1 h2 h3=>none' b (I.base.free b o h1 h2 h3),I.base.there,λb xs h=>?_,λb o w h=>?_,λb ps h=>?_⟩,I.loc,I.cell,none' _ I.free,λx c h=>none' _ (I.freeC x c h),λp hp=>?_,λb o h=>?_,I.len⟩
 ·have q:=I.base.tups b xs h
  rw[Zbn (λz=>by rw[z,ha]at q; cases q; exact hu.nt.1 _ rfl)];exact q
 ·have q:=I.base.frzs b o w h
  rw[Zbn (λz=>hn o w (by rw[<-z]; exact h))];exact q
 ·obtain⟨m,q⟩:=I.base.tbls b ps h
  exact⟨m,by rw[Zbn (λz=>by rw[z,ha]at q; cases q; exact hu.nt.2.2.2.1 _ rfl)]; exact q⟩
 ·have q:=I.pin p hp
  exact⟨q.1,none' _ q.2.1,q.2.2⟩
 ·by_cases hb:b=a
  ·subst hb
   rw[Zgr,ha]at h;cases h;exact ok
  ·rw[Zbn hb]at h
   exact Zoj ha hu (I.hok b o h)
theorem Zh4(i:Nat){g:HM.SF}(h:XS X st g):XS X st (HM.Ze8 i g):=by
 intro r o ho;unfold HM.Ze8 at ho;split at ho
 case h_2=>exact h r o ho
 rename_i es hr;split at ho
 case isFalse=>cases ho
 rename_i hall;have nh:=Zwb hall;intro pins s σ H E I ⟨F0,H0,F,at_,k⟩;obtain⟨v,h1,h2⟩:=at_.plain hr;cases h2 with
 | @dct a _ kvs vvs hd he hk hrr =>
  have rs:∀{F':Hp},Zq F F'->Zt X.K F' (kvs.map (·.2)) (vvs.map (·.2)):=λs=>by refine Zt.mono ⟨?_,hrr⟩ s;have:=congrArg ZB7 hk;rw[ZBb,ZBb]at this ⊢;exact this
  rcases hd with hd | ⟨q,hd⟩
  ·have hHa:=at_.sub _ _ hd
   obtain⟨z,y,xs,rl,q,es1,ep,e1,c1⟩:=(show Zab X.prog X.w H s.heap a (.dT vvs) from I.hok a _ hHa);have hn:∀o w,X.H₀ a≠Z (.frz o w):=λo w z=>by have:=I.base.frzs _ _ _ z;rw[hHa]at this; cases this
   have I1:=Zo7 (ob:=.frz q (.dT vvs)) I hHa (.inl rfl) ⟨e1,Zoj hHa (.inl rfl) ⟨z,y,xs,rl,q,es1,ep,e1,c1⟩⟩ hn;have at1:=at_.sw (ob:=.frz q (.dT vvs)) hd (.inl rfl) (.inr ⟨q,rfl⟩) nh;have Ra:HP.sw a (.frz q (.dT vvs)) F a=Z (.frz q (.dT vvs)):=by rw[Zgr,hd]; rfl
   have hFd:∀u,F a=Z u->Dk vvs u:=λu z=>by rw[hd]at z; cases z; exact .inl rfl
   have at2:=(at1.say (i:=i) h1 (.hd Ra he hk (Zt.sw hFd (.inr ⟨q,rfl⟩) (rs (Zq.refl F))))).rebase;have e0:HP.sw a (.dT vvs) (HP.sw a (.frz q (.dT vvs)) F0)=F0:=Zwe λu z=>by have:=at_.ext.ff _ _ z;rw[hd]at this; cases this; rfl
   have e1:HP.sw a (.dT vvs) (HP.sw a (.frz q (.dT vvs)) H0)=H0:=Zwe λu z=>by exact at_.ext.hh.back z hHa λ_ w=>by cases w
   split at ho
   ·rename_i r' hg
    split at ho
    case h_2=>cases ho
    rename_i es' hr';split at ho
    case isFalse=>cases ho
    rename_i hall';cases ho;refine thn (h _ _ hg pins s σ _ { nx:=λσ' H'=>∃F',At X.K (HP.sw a (.frz q (.dT vvs)) F) (HP.sw a (.frz q (.dT vvs)) H0) F' H' r' σ',rt:=λ_ _=>False,bk:=λ_ _=>False,ct:=λ_ _=>False } I1 ⟨_,_,_,at2,λσ' F' H' a'=>⟨F',a'⟩⟩) λfl s' z=>?_;cases fl with
    | next=>obtain⟨σ',H',I',F',a'⟩:=z;have Fa:=a'.ext.ff _ _ Ra;have Ha:=a'.sub _ _ Fa;have a3:=((At.unbase at1.ext (at1.nt0) a').loosen hr').sw (ob:=.dT vvs) Fa (.inr ⟨q,rfl⟩) (.inl rfl) (Zuq hall' λ_ z=>by cases z);rw[e0,e1]at a3;exact⟨σ',_,Zo7 I' Ha (.inr ⟨q,rfl⟩) (Zoj Ha (.inr ⟨q,rfl⟩) (Zl9 I'.hok (.inr ⟨q,Ha⟩))) hn,k σ' _ _ a3⟩
    | brk=>obtain⟨_,_,_,z⟩:=z; exact z.elim
    | cont=>obtain⟨_,_,_,z⟩:=z; exact z.elim
    | ret u=>obtain⟨_,_,_,_,_,z⟩:=z; exact z.elim
   ·rename_i d hg
    cases ho;refine thn (h _ _ hg pins s σ _ { nx:=λ_ _=>False,bk:=λ_ _=>False,ct:=λ_ _=>False,rt:=λv' H'=>∃F',Ext (HP.sw a (.frz q (.dT vvs)) F) (HP.sw a (.frz q (.dT vvs)) H0) F' H'/\Rep X.K F' d v' } I1 ⟨_,_,_,at2,λv' F' H' x q=>⟨F',x,q⟩⟩) λfl s' z=>?_;cases fl with
    | ret u=>obtain⟨v',σ',H',I',rv,F',x',r'⟩:=z;have Fa:=x'.ff _ _ Ra;have Ha:=x'.sub _ _ Fa;have x3:=(Ext.unbase at1.ext x').sw (a:=a) (vvs:=vvs) (ob:=.dT vvs) (λu z=>by rw[Ha]at z; cases z; exact .inr ⟨q,rfl⟩) (.inl rfl);rw[e0,e1]at x3;exact⟨v',σ',_,Zo7 I' Ha (.inr ⟨q,rfl⟩) (Zoj Ha (.inr ⟨q,rfl⟩) (Zl9 I'.hok (.inr ⟨q,Ha⟩))) hn,rv,k v' _ _ x3 (r'.sw (λu z=>by rw[Fa]at z; cases z; exact .inr ⟨q,rfl⟩) (.inl rfl))⟩
    | next=>obtain⟨_,_,_,z⟩:=z; exact z.elim
    | brk=>obtain⟨_,_,_,z⟩:=z; exact z.elim
    | cont=>obtain⟨_,_,_,z⟩:=z; exact z.elim
   ·cases ho
  ·have at2:=at_.say (i:=i) h1 (.hd hd he hk (rs (Zq.refl F)))
   split at ho
   ·rename_i r' hg
    split at ho
    case h_2=>cases ho
    rename_i es' hr';split at ho
    case isFalse=>cases ho
    cases ho;exact h _ _ hg pins s σ H E I ⟨F0,H0,F,at2,λσ' F' H' a'=>k σ' F' H' (a'.loosen hr')⟩
   ·rename_i d hg
    cases ho;exact h _ _ hg pins s σ H E I ⟨F0,H0,F,at2,k⟩
   ·cases ho
 | fn hv =>
  have at2:=at_.say (i:=i) h1 (.hf hv);split at ho
  ·rename_i r' hg
   split at ho
   case h_2=>cases ho
   rename_i es' hr';split at ho
   case isFalse=>cases ho
   cases ho;exact h _ _ hg pins s σ H E I ⟨F0,H0,F,at2,λσ' F' H' a'=>k σ' F' H' (a'.loosen hr')⟩
  ·rename_i d hg
   cases ho;exact h _ _ hg pins s σ H E I ⟨F0,H0,F,at2,k⟩
  ·cases ho
def Itd(a:Addr)(o:Obj):It :=
 ⟨λi H=>∃vvs q,H a=Z (.frz o (.dT vvs))/\vvs[i]?=Z q,λi H x H'=>H'=H/\∀vvs,H a=Z (.frz o (.dT vvs))->∃q b,vvs[i]?=Z q/\x=.ref b/\H b=Z (.tup (q.1.map kV)),λi H=>∃vvs,H a=Z (.frz o (.dT vvs))/\vvs.length<=i⟩
theorem ZsJ{α β:Type}{R:α->β->Prop}{l:List α}{m:List β}(r:Paired R l m):∀{i:Nat} {x:α},l[i]?=Z x->∃y,m[i]?=Z y/\R x y:=by
 induction r with
 | nil=>intro i x e; simp at e
 | @cons p q _ _ hq _ ih =>
  intro i x e;cases i with
  | zero=>rw[ZDV]at e; cases e; exact⟨q,rfl,hq⟩
  | succ i=>rw[ZB0]at e ⊢; exact ih e
theorem Zui(a it:Addr)(o:Obj)(es:Array DictEntry)(ep:Nat)(hd:o.data=.dict es ep):Turn P w K tg (Itd a o) [it] it (λi h=>h.IsKeyIter it a i es.size ep) where
 mem:=by simp
 obj:=λi h st b hb=>by
  have e:b=it:=by simpa using hb
  subst e;obtain⟨o,e,c,d⟩:=st;exact⟨o,e,λv z=>by rw[d]at z; cases z⟩
 keep:=λi h h' st k=>st.at λo e=>k it (by simp) o e
 item:=by
  intro X hP hw hK hc i pins s σ H E I hf st hg;subst hP hw hK;obtain⟨vvs,q,hH,hq⟩:=hg;obtain⟨h1,z,lo,xs,rel,o2,es2,ep2,h2,h3,h4,h5,h6⟩:=(show Zab X.prog X.w H s.heap a (.frz o (.dT vvs)) from I.hok a _ hH);rw[h1]at h2;cases h2;rw[hd]at h4;cases h4;obtain⟨f0,f1,f2,f3,f4,f5⟩:=hf it (by simp);obtain⟨p,hp,hr1,hr2,_⟩:=ZsJ rel hq;have he:es[i]?=Z (entryOfKey (ZEn (Zay X.prog X.w)) p):=by rw[<-ZCe,h5,ZBG,hp]; rfl
  refine Zp5 st ⟨o,h1,h3,hd⟩ he λh' st' sb=>?_;have I1:Inv X pins σ H { s with heap:=h' }:=I.turned (t':=s.toks) (λb o hb e=>(sb.2 b hb).trans e) f0 f1 f3 f4 f5;obtain⟨oi,e,c,d⟩:=id st';refine⟨_,rfl,Zoi (s:={ s with heap:=h' }) e c d (by decide) ⟨.ref p.2.1,H,I1,rfl,⟨rfl,λvv hv=>?_⟩,st',λb hb=>(hf b hb).1⟩⟩;rw[hH]at hv;cases hv;exact⟨q,p.2.1,hq,rfl,hr2⟩
 done:=by
  intro X hP hw hK hc i pins s σ H E I hf st hg;subst hP hw hK;obtain⟨vvs,hH,hq⟩:=hg;obtain⟨h1,z,lo,xs,rel,o2,es2,ep2,h2,h3,h4,h5,h6⟩:=(show Zab X.prog X.w H s.heap a (.frz o (.dT vvs)) from I.hok a _ hH);rw[h1]at h2;cases h2;rw[hd]at h4;cases h4;obtain⟨f0,f1,f2,f3,f4,f5⟩:=hf it (by simp);have hl:vvs.length=xs.length:=ZDY rel;have hes:es.size=xs.length:=by rw[<-ZBB,h5,ZBb]
  exact Zry (I.ok.hd hc) st ⟨o,h1,h3,hd⟩ (by omega) λh' eb=>⟨rfl,I.turned (t':=s.toks) (λb o hb e=>eb b o hb e) f0 f1 f3 f4 f5⟩
 self:=λ_ _ _ _ _ st h=>wpAny_pyIter_keyiter st h
theorem ZwZ{l:Expr}{tl:TE}(hl:PE X l tl):PI X tg l (λσ H R=>tl σ H λx H1=>∃a o vvs,x=.ref a/\H1 a=Z (.frz o (.dT vvs))/\R (Itd a o) H1):=by
 intro pins s σ H R I h;refine thn (hl pins s σ H _ I h) λv s1 ⟨x,H1,I1,r1,a,o,vvs,e,hH,q⟩=>?_;subst e;cases r1;obtain⟨h1,z,lo,xs,rel,o2,es,ep,h2,h3,h4,h5,h6⟩:=(show Zab X.prog X.w H1 s1.heap a (.frz o (.dT vvs)) from I1.hok a _ hH);rw[h1]at h2;cases h2;refine ZpF lo ⟨o,h1,h3,h4⟩ ⟨s1.heap.objs.size,[s1.heap.objs.size],_,_,H1,rfl,I1.kept (t':=s1.toks) λb o e=>ZBg _ e,Zui a _ o es ep h4,⟨_,ZBw _ rfl,rfl,rfl⟩,λb hb=>?_,q⟩;obtain rfl:b=s1.heap.objs.size:=by simpa using hb
 exact I1.fpOk (ZBl _) (I1.hok.fresh (ZBl _))
theorem Zvv{a:Addr}{o:Obj}{vvs:List (List Key × V)}(h:F a=Z (.frz o (.dT vvs)))(hk:kvs.map (·.1)=vvs.map (·.1)):ItD K (Itd a o) (kvs.map λp=>.tuple (p.1.map HM.ZaQ)) F:=by
 intro F' H s1 s2;have hH:=s2 _ _ (s1 _ _ h);have hl:kvs.length=vvs.length:=by
  have:=congrArg ZB7 hk
  rwa [ZBb,ZBb]at this
 refine⟨λi d hd=>?_,vvs,hH,by rw[ZBb,hl]; exact ZBl _⟩;rw[ZBG]at hd;obtain⟨q,hq,hd⟩:=ZBc.mp hd;subst hd;have hi:i<vvs.length:=by rw[<-hl]; exact(ZBr.mp hq).1
 have hw:vvs[i]?=Z vvs[i]:=ZBu hi;have hw1:vvs[i].1=q.1:=by
  have:(kvs.map (·.1))[i]?=(vvs.map (·.1))[i]?:=by rw[hk]
  rw[ZBG,ZBG,hq,hw]at this;exact(ZCa this).symm
 refine⟨⟨vvs,_,hH,hw⟩,λx H' hy=>?_⟩;obtain⟨e,y⟩:=hy;refine⟨e,?_⟩;obtain⟨q',b,e1,e2,e3⟩:=y vvs hH;rw[hw]at e1;cases e1;subst e2;rw[hw1]at e3;have rk:=Zhs (K:=K) (F:=ZbX F' H) q.1;exact .tup (Zlk e3) rk.1 rk.2
theorem Zh5(i:Nat)(hN:X.N[i]?=Z x:=by rfl)(hv:Vis X.env.scope x:=by first | exact ZBZ rfl | exact ZBC (ZBZ rfl) | exact ZBC (ZBC rfl))(hd:(x==("__debug__":Str))=ZGI:=by decide)
  (hcd:(x==("__classdict__":Str))=ZGI:=by decide):XI X tg (.Name x pos) (HM.ZaV i):=by
 intro r ds h;have row:∀{d:PyData},r[i]?=Z (Z (.pl d))->HM.Zgb (.pl d)=Z ds->HM.Zaa (HM.bOf (HM.Zc i)) r=Z ds:=λ{d} h1 h2=>by
  have e:HM.Zc i r=Z d:=by unfold HM.Zc; rw[h1]
  unfold HM.Zaa HM.bOf;rw[e];exact h2
 unfold HM.ZaV at h;split at h
 ·rename_i q; exact Zac (Zd i hN hv hd hcd) r ds (row q h)
 ·rename_i q; exact Zac (Zd i hN hv hd hcd) r ds (row q h)
 ·rename_i es q
  obtain⟨kvs,h1,h2⟩:=ZBc.mp h;subst h2;refine PI.imp (ZwZ (Zb9 hN hv hd hcd)) λσ H R ⟨F0,H0,F,at_,k⟩=>?_;obtain⟨v,fp,g1,g2⟩:=at_.any q;cases g2 with
  | @hd a o _ kvs' vvs k1 k2 k3 k4=>subst k2;rw[HM.dec_enc]at h1;cases h1;exact⟨.ref a,g1,a,o,vvs,rfl,at_.sub _ _ k1,k _ F H at_.refl (Zvv k1 k3)⟩
  | hf _=>cases h1
 ·cases h
theorem Zzy(i:Nat)(hN:X.N[i]?=Z x:=by rfl)(hv:Vis X.env.scope x:=by first | exact ZBZ rfl | exact ZBC (ZBZ rfl) | exact ZBC (ZBC rfl))(hd:(x==("__debug__":Str))=ZGI:=by decide)
  (hcd:(x==("__classdict__":Str))=ZGI:=by decide):XE X (.Name x pos) (HM.eHd i):=by
 intro r d h;unfold HM.eHd at h;split at h
 ·rename_i q
  cases h;exact Zd i hN hv hd hcd r d (by unfold HM.Zc; rw[q])
 ·rename_i es q
  cases h;refine PE.imp (Zb9 hN hv hd hcd) λσ H Q ⟨F0,H0,F,at_,k⟩=>?_;obtain⟨v,fp,g1,g2⟩:=at_.any q;cases g2 with
  | hd k1 k2 k3 k4=>exact⟨_,g1,k _ F H at_.refl (.dct (.inr ⟨_,k1⟩) k2 k3 k4.2)⟩
  | hf k1=>exact⟨_,g1,k _ F H at_.refl (.fn k1)⟩
 ·cases h
end
end
section
variable[FX]
section
variable{X:Cx}{a b c e:Expr}{fa fb fc:HM.EF}{f:HM.BF}{pos p:Pos}
theorem Zia{v:V}(r:Rep K F (.tuple ds) v):∃l vs,v=.ref l/\SqT K F l vs/\Zt K F ds vs:=by
 cases r with
 | tup h1 h2 h3=>exact⟨_,_,rfl,.of h1,h2,h3⟩
 | @tupk a x h1=>exact⟨_,_,rfl,.inr h1,.one (.str x)⟩
theorem ZuO{apos:Pos}(hu:X.A.units+1<cLine)(ha:XB X a f)(hk:XE X b fb)(m:M1 X a "get" apos b pos):XE X (.Call (.Attribute a "get" apos) [b] [] pos) (HM.ZpL f fb):=by
 intro r d h;unfold HM.ZpL at h;split at h
 ·rename_i q hq
  split at h
  ·rename_i kvs hd
   split at h
   ·rename_i x hx
    split at h
    ·rename_i y hy
     cases h;refine PE.imp (Zv2 hu (ha r q hq) (hk r x hx) m) λσ H Q ⟨F0,H0,F,at_,kk⟩=>?_;refine⟨F0,H0,F,at_,λv F1 H1 x1 ⟨fp,r1⟩=>?_⟩;obtain⟨l,vvs,e1,e2,T⟩:=ZiH x1.sub r1 hd;refine⟨l,e1,.inr ⟨vvs,e2⟩,F0,H0,F1,at_.grow x1,λw F2 H2 x2 r2=>?_⟩;have e3:=rdT e2 x2.hh;have T':Za6 X.K F2 kvs vvs:=⟨T.1,T.2.mono x2.ff⟩;obtain⟨bb,rfl,hbb⟩:=ZdB hy r2;refine⟨_,Zof e3 (x2.sub _ _ hbb),kk _ F2 H2 (x1.trans x2) ?_⟩;obtain⟨t1,t2⟩:=T'.look (k:=y);cases hl:HM.Zj kvs y with
     | none=>rw[t2 hl]; exact .non
     | some dd=>obtain⟨u,q1,q2⟩:=t1 dd hl; rw[q1]; exact q2
    ·cases h
   ·cases h
  ·cases h
 ·cases h
end
end
section
variable[FX]
section
variable{X:Cx}{a b c e:Expr}{fa fb fc:HM.EF}{f:HM.BF}{pos p:Pos}{es:List Expr}
theorem ZuP(hm:∃a,X.mg x=Z (.ref a)/\Zo5 X.K a [.str y])(hg:Gl X x:=by rfl)(hd:(x==("__debug__":Str))=ZGI:=by decide):XE X (.Name x pos) (HM.eC (.tuple [.str y])):=by obtain⟨a,hm,hk⟩:=hm;exact Zen (ZmH hg hm (v:=.ref a) rfl hd) λ_=>.tupk hk
theorem Zts{F2 H2:Hp}(s:Zq F2 H2):∀(n:Nat) {d:PyData} {v:V},HM.Zel n d=ZGH->Rep K F2 d v->Rep K (ZbX F H2) d v:=by
 intro n
 induction n with
 | zero =>
  intro d v h r;cases r with
  | non=>exact .non
  | bl b=>exact .bl b
  | int i=>exact .int i
  | str x=>exact .str x
  | tupk h1=>exact .tupk h1
  | tup _ _ _=>cases h
  | lst _ _ _=>cases h
  | dct _ _ _ _=>cases h
  | fn _=>cases h
 | succ n ih =>
  intro d v h r;cases r with
  | non=>exact .non
  | bl b=>exact .bl b
  | int i=>exact .int i
  | str x=>exact .str x
  | tupk h1=>exact .tupk h1
  | tup h1 h2 h3=>exact .tup (Zlk (s _ _ h1)) h2 λi d v e1 e2=>ih (ZBj.mp h d (ZBN e1)) (h3 i d v e1 e2)
  | lst _ _ _=>cases h
  | dct _ _ _ _=>cases h
  | fn _=>cases h
end
end
end HP
namespace HP
open PySem
variable{S:Addr}
abbrev mdA(I S:Addr)(dv:Value):Args:=⟨[.ref I,.none,.ref S],[(ZBY "default",dv)]⟩
theorem Zkm:(toString "min" ++ toString ".loop":String) = "min.loop":=by decide
theorem ZwE(a dv:Value):argsOk "min" ⟨[a],[(ZBY "default",dv)]⟩:=by unfold argsOk; kernel_rfl
section
variable{prog:Program}{w:World}{A:Around}{R:Result->Shared->Prop}{I:Addr}{fp wr:List Addr}{n:Nat}{P:Nat->Value->Prop}{St:Nat->Heap->Prop}
theorem ZwX(W:Walks prog w A.in1 I fp wr n P St)(bt:Nat->Nat->Bool)(hc:CmpOf prog w A.in1 .Lt P bt)(hf:S ∉ fp)(dv:Value):∀(k j:Nat) (s:Shared) (b:Value) (ep:Nat),n=j+1+k->St (j+1) s.heap->P (argBest bt j) b ->
  s.heap.get? S=Z { cls:=.type "list",dict:=Z_,data:=.seq #[b,b] ep,slots:=#[] } ->
  (∀v h' tk,P (argBest bt (n-1)) v->(∀x o,x ∉ wr->x≠S->s.heap.get? x=Z o->h'.get? x=Z o)->R (.ok (.ret v)) { s with heap:=h',toks:=tk }) ->
  codeAny (model prog w) A (.builtin "min.loop" (mdA I S dv)) R s:=by
 have hw:S ∉ wr:=λh=>hf (W.sub _ h);intro k
 induction k with
 | zero =>
  intro j s b ep hn st pb gS out;have hn:n=j+1:=by omega
  subst hn;refine ZCL ZEP ?_;rw[ZCo ZCQ _];show wpAny _ A.in1 (seqItems? (.ref S) >>= _) _ _ s;refine ZBa (ZEz gS rfl ?_);show wpAny _ A.in1 (tryCatch (pyNext (.ref I)) _ >>= _) _ _ s;refine ZBa (ZEA (W.done s _ _ st λh1 tk keep=>?_));have gS1:=keep S _ hw gS;show wpAny _ A.in1 (updateSeq S (λ_=>#[]) >>= _) _ _ _;exact ZBa (ZGb gS1 rfl (ZBa (ZGi (ZBe (out b _ tk pb λx o hx hS e=>(ZCP _ _ (ZCn hS)).trans (keep x o hx e))))))
 | succ k ih =>
  intro j s b ep hn st pb gS out;refine ZCL ZEP ?_;rw[ZCo ZCQ _];show wpAny _ A.in1 (seqItems? (.ref S) >>= _) _ _ s;refine ZBa (ZEz gS rfl ?_);show wpAny _ A.in1 (tryCatch (pyNext (.ref I)) _ >>= _) _ _ s;refine ZBa (ZEA (W.item (j+1) s _ _ (by omega) st λv h1 tk pv st1 keep=>?_));have gS1:=keep S _ hw gS;show wpAny _ A.in1 (tryCatch (holding [v,v] (richCompare .Lt v b >>= _)) _ >>= _) _ _ _;refine ZBa (ZEA (ZCm (ZBa (hc (j+1) (argBest bt j) v b _ _ _ pv pb (ZBa (ZCm (ZCI (ZBa (ZGi (ZBe ?_))))))))));have best:argBest bt (j+1)=if bt (j+1) (argBest bt j)then j+1 else argBest bt j:=rfl
  cases hb:bt (j+1) (argBest bt j)with
  | true =>
   rw[hb,if_pos rfl]at best;simp only[if_true];refine ZBa (ZGb gS1 rfl (ZBa (ZGi ?_)));rw[Zkm];refine ZBe ⟨ZDF ZCQ _,ih (j+1) _ v _ (by omega) (W.frame _ _ _ st1 λx hx o e=>?_) (by rw[best]; exact pv) (ZCk _ gS1 rfl) λv' h2 tk2 p' keep2=>?_⟩
   ·exact(ZCP _ _ (λz:S=x=>hf (by rw[z]; exact hx))).trans e
   ·exact out v' h2 tk2 p' λx o hx hS e=>keep2 x o hx hS ((ZCP _ _ (ZCn hS)).trans (keep x o hx e))
  | false=>rw[hb,if_neg (by simp)]at best;simp only[ZDc,if_false];refine ZBa (ZGi ?_);rw[Zkm];exact ZBe ⟨ZDF ZCQ _,ih (j+1) _ b ep (by omega) st1 (by rw[best]; exact pb) gS1 λv' h2 tk2 p' keep2=>out v' h2 tk2 p' λx o hx hS e=>keep2 x o hx hS (keep x o hx e)⟩
theorem ZvX(W:Walks prog w A.in1 I fp wr n P St)(bt:Nat->Nat->Bool)(hc:CmpOf prog w A.in1 .Lt P bt)(hf:S ∉ fp)(dv:Value){s:Shared}{ep:Nat}(st:St 0 s.heap)
  (gS:s.heap.get? S=Z { cls:=.type "list",dict:=Z_,data:=.seq #[] ep,slots:=#[] })
  (o0:n=0->∀h' tk,(∀x o,x ∉ wr->x≠S->s.heap.get? x=Z o->h'.get? x=Z o)->R (.ok (.ret dv)) { s with heap:=h',toks:=tk })
  (o1:0<n->∀v h' tk,P (argBest bt (n-1)) v->(∀x o,x ∉ wr->x≠S->s.heap.get? x=Z o->h'.get? x=Z o)->R (.ok (.ret v)) { s with heap:=h',toks:=tk }) :
  codeAny (model prog w) A (.builtin "min.loop" (mdA I S dv)) R s:=by
 have hw:S ∉ wr:=λh=>hf (W.sub _ h);refine ZCL ZEP ?_;rw[ZCo ZCQ _];show wpAny _ A.in1 (seqItems? (.ref S) >>= _) _ _ s;refine ZBa (ZEz gS rfl ?_);show wpAny _ A.in1 (tryCatch (pyNext (.ref I)) _ >>= _) _ _ s
 by_cases h0:n=0
 ·subst h0
  refine ZBa (ZEA (W.done s _ _ st λh1 tk keep=>?_));show wpAny _ A.in1 (rule _ >>= _) _ _ _;exact ZBa (ZE6 (ZBe (o0 rfl h1 tk λx o hx _ e=>keep x o hx e)))
 ·refine ZBa (ZEA (W.item 0 s _ _ (by omega) st λv h1 tk pv st1 keep=>?_))
  have gS1:=keep S _ hw gS;show wpAny _ A.in1 (updateSeq S (λ_=>#[v,v]) >>= _) _ _ _;refine ZBa (ZGb gS1 rfl ?_);rw[Zkm];refine ZBe ⟨ZDF ZCQ _,ZwX W bt hc hf dv (n-1) 0 _ v _ (by omega) (W.frame _ _ _ st1 λx hx o e=>?_) pv (ZCk _ gS1 rfl) λv' h2 tk2 p' keep2=>?_⟩
  ·exact(ZCP _ _ (λz:S=x=>hf (by rw[z]; exact hx))).trans e
  ·exact o1 (by omega) v' h2 tk2 p' λx o hx hS e=>keep2 x o hx hS ((ZCP _ _ (ZCn hS)).trans (keep x o hx e))
end
end HP
namespace HP
open PySem PySem.Spec PyProof.Rows L2
variable{a b:Addr}{F F' G H:Hp}{σ:L2.St}{pins:List (Addr × Obj)}{clos:List (Str × Addr)}{C:List Addr}{cs:List PyData}{names:List Str}{o:Obj}{P:Program}{K:ZBd}{scope:Scope}{s:Shared}{st:Stmt}{qual x:Str}{w:World}
section
variable[FX]
theorem Rep.fn_inv{t:Nat}{v:V}(h:Rep K F (HM.fnD t cs) v):∃a,v=.ref a/\FX.fv t cs F a:=by
 cases h with
 | @dct a es kvs vvs h he hk hr =>
  cases kvs with
  | nil=>cases he
  | cons p r =>
   injection he with h1 _
   injection h1 with h2 _
   cases h2
 | fn h=>exact⟨_,rfl,h⟩
theorem Zpj{d:PyData}{t:Nat}(h:HM.ZiQ d=Z (t,cs)):d=HM.fnD t cs:=by
 unfold HM.ZiQ at h;split at h
 ·cases h; rfl
 ·cases h
structure GFn(mg:Str->Option Value)(x:Str)(t:Nat):Prop where
 ex:∃f,mg x=Z (.ref f)/\∀F,FX.fv t [] F f
section
variable{X:Cx}{pos p:Pos}{e a b:Expr}{es:List Expr}{f:HM.AF}
theorem ZlJ{t:Nat}(h:GFn X.mg x t)(hg:Gl X x:=by rfl)(hd:(x==("__debug__":Str))=ZGI:=by decide):XE X (.Name x pos) (HM.eC (HM.fnD t [])):=by obtain⟨f,hm,hv⟩:=h.ex;exact Zen (ZmH hg hm (v:=.ref f) rfl hd) λF=>.fn (hv F)
structure ZcH(P:Program)(w:World)(K:ZBd)(mg:Str->Option Value)(base:Heap)(k:Nat)(ap:HM.AP):Prop where
 fn:∀{t:Nat} {cs:List PyData} {F:Hp} {a:Addr},FX.fv t cs F a->∀{A:Around} {outer:List Env} {s:Shared} {H:Hp},Zfp P w K mg base A outer s H->Zq F H->ZGE a s.heap
 run:∀{t:Nat} {cs:List PyData} {F:Hp} {a:Addr},FX.fv t cs F a->∀{A:Around} {outer:List Env} {s:Shared} {H:Hp},Zfp P w K mg base A outer s H->Zq F H ->
  ∀{us:List Value} {vs:List V} {ds:List PyData} {d:PyData} {Q:VK},Zav k A->Tb H->NoT F->Vals vs us->Zt K F ds vs->ap t cs ds=Z d->(∀v F' H',Ext F H F' H'->Rep K F' d v->Q v H') ->
   codeAny (model P w) A (.call (.ref a) ⟨us,[]⟩) (CR CX0 outer P w H s Q E0) s
theorem ZcH.mono{P:Program}{w:World}{K:ZBd}{mg:Str->Option Value}{base:Heap}{j k:Nat}{ap:HM.AP}(C:ZcH P w K mg base j ap)(h:j<=k):ZcH P w K mg base k ap :=
 ⟨C.fn,by intro t cs F a q A outer s H e z us vs ds d Q hr; exact C.run q e z (hr.mono h)⟩
theorem Zk8{k:Nat}{ap:HM.AP}(C:ZcH X.prog X.w X.K X.mg X.base k ap)(hr:Zav k X.A)(i:Nat)(ha:XA X (e::es) f)(hN:X.N[i]?=Z x:=by rfl)
  (hv:Vis X.env.scope x:=by first | exact ZBZ rfl | exact ZBC (ZBZ rfl) | exact ZBC (ZBC rfl)) (hd:(x==("__debug__":Str))=ZGI:=by decide) (hcd:(x==("__classdict__":Str))=ZGI:=by decide)
  (he:ZBp (e::es) X.env=(ZGI,eval e X.env)::ZBp es X.env:=by rfl) (hpl:(backTo pos (ZBp es X.env)).any (·.1)=ZGI:=by rfl):XE X (.Call (.Name x p) (e::es) [] pos) (HM.Zc6 ap i f):=by
 intro r d h;unfold HM.Zc6 at h;split at h
 case h_2=>cases h
 rename_i d0 hs;split at h
 case h_2=>cases h
 rename_i t cs hu;split at h
 case h_2=>cases h
 rename_i ds hds;obtain rfl:=Zpj hu;intro pins s σ H Q I ⟨F0,H0,F1,at_,kk⟩;obtain⟨v,h1,h2⟩:=at_.plain hs;obtain⟨q,rfl,fv⟩:=h2.fn_inv;refine ZDa (thn (Zb9 hN hv hd hcd pins s σ H (λv' H'=>v'=.ref q/\H'=H) I ⟨_,h1,rfl,rfl⟩) λu s1 ⟨v',H1,I1,r1,e1,e2⟩=>?_);subst e1 e2;obtain rfl:u=ZB2 q:=r1;refine ZGF (C.fn fv I1.env0 at_.sub) (thn (ha.pa r ds hds pos pins s1 σ H1 (λvs H2=>∃F2,Ext F1 H1 F2 H2/\Zt X.K F2 ds vs) I1 ⟨F0,H0,F1,at_,λvs F2 H2 x2 q2=>⟨F2,x2,q2⟩⟩) λus s2 ⟨vs,H2,I2,r2,F2,x2,q2⟩=>?_) he hpl;have fv2:=FX.mono fv x2.ff;refine⟨C.fn fv2 I2.env0 x2.sub,ZFJ (ZDi (C.run fv2 I2.env0 x2.sub hr (at_.tbx x2) (at_.ntx x2) r2 q2 h λv F' H' x3 q3=>kk v F' H' (x2.trans x3) q3) λrs s' hq=>?_)⟩;cases rs with
 | error e=>exact ZCb hq
 | ok fl =>
  cases fl with
  | ret u=>exact I2.after hq
  | next=>exact ZCb hq
  | brk=>exact ZCb hq
  | cont=>exact ZCb hq
def spN(K:ZBd)(n:Nat)(M:List PyData->Option (List (List Key × PyData))):Sp:=λvs H Q _=>∃F ds kvs,vs.length=n/\Zq F H/\Tb H/\NoT F/\Zt K F ds vs/\M ds=Z kvs /\
 ∀l vvs F' H',Ext F H F' H'->H' l=Z (.dT vvs)->kvs.map (·.1)=vvs.map (·.1)->Zt K F' (kvs.map (·.2)) (vvs.map (·.2))->F' l=Z_->H l=Z_->Q (.ref l) H'
structure ZeC(P:Program)(w:World)(K:ZBd)(mg:Str->Option Value)(base:Heap)(k:Nat)(x:Str)(M:List PyData->Option (List (List Key × PyData))):Prop where
 ex:∃f fd ps,(∀ds d,M ds=Z d->ds.length=ps.length)/\ZdH P w K mg base CX0 k f fd ps (spN K ps.length M)/\mg x=Z (.ref f)/\ZCO K (.ref f)=ZGH/\Binds K fd ps []
theorem ZeC.mono{P:Program}{w:World}{K:ZBd}{mg:Str->Option Value}{base:Heap}{j k:Nat}{x:Str}{M:List PyData->Option (List (List Key × PyData))}(C:ZeC P w K mg base j x M)(h:j<=k):ZeC P w K mg base k x M:=by obtain⟨f,fd,ps,l,F,r⟩:=C.ex;exact⟨f,fd,ps,l,F.mono h,r⟩
theorem Zt.flat{K:ZBd}{F F':Hp}{ds:List PyData}{vs:List V}(r:Zt K F ds vs)(h:∀d∈ds,HM.Zmg d=ZGH):Zt K F' ds vs :=
 ⟨r.1,λi d v h1 h2=>(r.2 i d v h1 h2).flat (h d (ZBN h1))⟩
theorem ZuQ{k:Nat}{g:HM.AF}{M:List PyData->Option (List (List Key × PyData))}(C:ZeC X.prog X.w X.K X.mg X.base k x M)(hr:Zav k X.A)(ha:XAL X (e::es) g)(hg:Gl X x:=by rfl)(hdb:(x==("__debug__":Str))=ZGI:=by decide)
  (he:ZBp (e::es) X.env=(ZGI,eval e X.env)::ZBp es X.env:=by rfl) (hpl:(backTo pos (ZBp es X.env)).any (·.1)=ZGI:=by rfl):XF X (.Call (.Name x p) (e::es) [] pos) (HM.Zkh M g):=by
 intro r d hd;unfold HM.Zkh at hd;split at hd
 case h_2=>cases hd
 rename_i ds hds;split at hd
 case h_2=>cases hd
 rename_i kvs hM;split at hd
 case isFalse=>cases hd
 rename_i hfl;cases hd;obtain⟨fa,fd,ps,hl,F,hm,hk,hb⟩:=C.ex;refine PE.imp (ZmI (E:=E0) F hr hg hm hk hb .nil ZsE (ha.pa r ds hds) hdb he hpl) λσ H Q ⟨F0,H0,F1,at_,kk⟩=>?_;refine⟨F0,H0,F1,at_,λvs F' H' x q=>?_⟩;show spN X.K ps.length M (vs++[]) H' Q E0;rw[ZBW];refine⟨Zck H',ds,kvs,by rw[<-q.1]; exact hl ds _ hM,ZfU,at_.tbx x,.drop,q.drop',hM,λl vvs F2 H2 x2 h1 h2 h3 h4 h5=>?_⟩;refine kk _ F' H2 (x.trans (Ext.forget x.sub (at_.ntx x) x2)) ⟨[l],.ot h1 h2 (h3.flat λd hd=>?_),by simp,λc hc=>?_⟩
 ·obtain⟨q,h6,rfl⟩:=ZBh.mp hd
  exact ZBj.mp hfl q h6
 ·obtain rfl:c=l:=by simpa using hc
  exact⟨x.sub.free h5,x.hh.free h5⟩
def tSn(K:ZBd)(r:HM.Env)(kvs:List (List Key × PyData)):TS:=λE σ H=>Now K r σ H λF0 H0 F=>∀l vvs F' H',Ext F0 H0 F' H'->H' l=Z (.dT vvs)->kvs.map (·.1)=vvs.map (·.1)->Zt K F' (kvs.map (·.2)) (vvs.map (·.2))->F' l=Z_->H0 l=Z_->E.rt (.ref l) H'
def XSn(X:Cx)(sts:List Stmt)(m:HM.NF):Prop:=∀r kvs,m r=Z kvs->PSs X sts (tSn X.K r kvs)
theorem Zo4{rest:List Stmt}{g:HM.SF}{m:HM.NF}(h1:XS X st g)(h2:XSn X rest m):XSn X (st::rest) (HM.Zli g m):=by
 intro r kvs h;unfold HM.Zli at h;split at h
 ·rename_i r' q
  refine PSs.imp (ZiX (h1 r _ q) (h2 r' kvs h)) λE σ H ⟨F0,H0,F,at_,k⟩=>?_;exact⟨F0,H0,F,at_,λσ' F' H' at'=>⟨F0,H0,F',at',k⟩⟩
 ·cases h
theorem Zxr(j:Nat){p1:Pos}(hN:X.N[j]?=Z x:=by rfl)(hv:Vis X.env.scope x:=by first | exact ZBZ rfl | exact ZBC (ZBZ rfl) | exact ZBC (ZBC rfl))(hd:(x==("__debug__":Str))=ZGI:=by decide)
  (hcd:(x==("__classdict__":Str))=ZGI:=by decide):XSn X [.Return (Z (.Name x p)) p1] (HM.ZpK j):=by
 intro r kvs h;unfold HM.ZpK at h;split at h
 ·rename_i kvs' hs
  cases h;refine PSs.imp (ZiX (Zqh (Zb9 hN hv hd hcd)) Zhp) λE σ H ⟨F0,H0,F,⟨fp,at_⟩,k⟩=>?_;obtain⟨v,h1,h2⟩:=at_.at_ j _ hs;generalize hfp:fp j=fj at h2;cases h2 with
  | @ot l _ vvs hl hk q=>have ho:=at_.own j l (by rw[hfp]; simp);exact⟨_,h1,k l vvs F H at_.ext hl hk q ho.1 ho.2⟩
 ·cases h
theorem ZsU{mg:Str->Option Value}{base:Heap}{k:Nat}{f:Addr}{fd:FuncData}{N ps:List Str}{m:HM.NF}(Fn:Fun K x qual st f fd)(S:Zr N ps (Ze st))(hm:mg x=Z (.ref f))(hb:Binds K fd ps [])
  (body:∀(cdv:Value) (A:Around) (outer:List Env) (s:Shared) (H:Hp) (E:XK),Zav k (A.deeper (envOfC qual (Ze st) s.heap.objs.size f cdv))->XSn (Zf8 CX0 P w K mg base N qual (Ze st) f cdv A outer s H E).nox (ZaS st) m) :
  ZeC P w K mg base (k+1) x (HM.newOf ps.length N.length m):=by
 have hpl:ps.length<=N.length:=by have:=congrArg ZB7 S.pre; rw[ZB1]at this; omega
 refine⟨f,fd,ps,λds d h=>?_,Fn.ok S (λvs H Q E h=>?_) (λcdv A outer s H vs Q E hr h=>?_),hm,Fn.kp,hb⟩
 ·unfold HM.newOf at h
  split at h
  ·assumption
  ·cases h
 ·obtain⟨_,_,_,h,_⟩:=h
  exact h
 ·obtain⟨F,ds,kvs,hl,sub,tb,nt,q,hM,kk⟩:=h
  unfold HM.newOf at hM;split at hM
  ·rename_i hds
   exact⟨_,body cdv A outer s H E hr _ _ hM,F,H,F,ZgZ (N:=N) sub tb nt q (by omega),λl vvs F' H' x h1 h2 h3 h4 h5=>kk l vvs F' H' x h1 h2 h3 h4 h5⟩
  ·cases hM
theorem Zuc(hc:X.calm=ZGH){l:Addr}{ns:List Int}{Q:VK}(I:Inv X pins σ H s)(hq:SqL X.K H l (ns.map V.int))(q:Q (match ns.min? with | some i=>.int i | none=>.non) H) :
  wpAny (model X.prog X.w) X.A (call (.builtin "min") [.ref l] [(ZBY "default",.none)]) (EP X pins σ Q) X.xe s:=by
 obtain⟨its,rv,pl,hz⟩:=I.list hq;have hi:=ZcL rv;obtain⟨xs,e⟩:=hi.allInts.items;have hns:ns=xs.toList.map (·.1):=by rw[<-hi.numsOf,<-ZFy,<-e]
 have hl:=pl.isList;rw[e]at hl;refine PyProof.Rows.kmk_tree PySem.F.kind_min PySem.F.plain_min PySem.F.entry_min (ZwE _ _) ?_;refine ZBa (ZFj (show Builtin.Builtins.bindParams "min" ["key","default"] 0 ⟨[],[(ZBY "default",.none)]⟩=pure [Z_,Z .none] from rfl) ?_);refine ZBa (ZBe ?_);refine ZBa (iter_intList hl λs2 e2 st hfp hlI=>?_);subst e2;refine ZBa (ZBV ?_);rw[Zkm];generalize hIT:s.heap.push { cls:=.type "list_iterator",data:=.fields #[.ref l,.int 0 0] }=h1 at st hfp;have z1:h1.objs.size=s.heap.objs.size+1:=by rw[<-hIT]; exact ZDd ..
 have k1:∀b o,s.heap.get? b=Z o->h1.get? b=Z o:=λb o e=>by rw[<-hIT]; exact ZBg _ e
 have W:=Walks.list (prog:=X.prog) (w:=X.w) (A:=X.A.in1) (I.ok.hd hc) s.heap.objs.size l hlI (ZCU xs);have hSf:h1.objs.size ∉ [s.heap.objs.size,l]:=λz=>ZC1 _ (hfp _ z);have old:∀{h':Heap} {oS:Obj},(∀x o,x ∉ [s.heap.objs.size]->x≠h1.objs.size->(h1.push oS).get? x=Z o->h'.get? x=Z o)->∀b o,s.heap.get? b=Z o->h'.get? b=Z o:=λhk b o e=>by have hb:=ZBt e;exact hk b o (λz=>by rw[ZBk.mp z]at hb; exact ZC1 _ hb) (ZBA (by rw[z1]; exact ZDI hb)) (ZBg _ (k1 b o e))
 refine ZBe ⟨ZDF ZCQ _,ZvX W (λi j=>decide (numAt xs i<numAt xs j)) (CmpOf.ints_lt (numAt xs) λ_ _=>ZD2) hSf .none (W.frame _ _ _ st λb _ o e=>ZBg _ e) (ZBw _ rfl) (λh0 h' tk hk=>?_) λh0 v h' tk hP hk=>?_⟩
 ·have e0:ns=[]:=by
   rw[hns];have:xs.size=0:=by simpa [ZCU]using h0
   rw[Array.eq_empty_of_size_eq_zero this]; rfl
  subst e0;exact⟨.non,H,I.kept (t':=tk) (old hk),rfl,q⟩
 ·have h0':0<xs.size:=by simpa [ZCU]using h0
  have hP':(ZCU xs)[argBest (λi j=>decide (numAt xs i<numAt xs j)) (xs.size-1)]?=Z v:=by simpa [ZCU]using hP
  obtain⟨t,rfl⟩:=ZD2 hP';obtain⟨g1,g2⟩:=argBest_lt (numAt xs) (xs.size-1);have hm:ns.min?=Z (numAt xs (argBest (λi j=>decide (numAt xs i<numAt xs j)) (xs.size-1))):=by
   refine ZCt.mpr ⟨?_,λa ha=>?_⟩
   ·rw[hns,ZEW]; exact getD_mem (by rw[ZBb,ZBB]; omega)
   ·rw[hns]at ha
    obtain⟨j,hj,rfl⟩:=mem_getD ha;rw[ZBb,ZBB]at hj;rw[<-ZEW]; exact g2 j (by omega)
  rw[hm]at q;exact⟨.int _,H,I.kept (t':=tk) (old hk),⟨t,rfl⟩,q⟩
theorem Zrg{f:HM.BF}{kp p2:Pos}{j:Nat}(hm:X.mg "min" = Z_)(hc:X.calm=ZGH)(ha:XB X a f)(hg:Gl X "min":=by rfl)(hs:ZBp [a] X.env=[(ZGI,eval a X.env)]:=by rfl)
  (he:backTo pos (ZBp [a] X.env)=(ZGI,eval a X.env)::backTo pos (ZBp [] X.env):=by rfl) (hpl:(backTo pos (ZBp [a] X.env)).any (·.1)=ZGI:=by rfl) :
  XE X (.Call (.Name "min" p) [a] [⟨Z "default",.Constant .none j p2,kp⟩] pos) (HM.Zgt f):=by
 intro r d h;unfold HM.Zgt at h;split at h
 case h_2=>cases h
 rename_i x hx;split at h
 case h_2=>cases h
 rename_i ds hds;split at h
 case h_2=>cases h
 rename_i ns hns;cases h;intro pins s σ H Q I ⟨F0,H0,F,at_,k⟩;refine ZDa (Zid I hg hm Zpg ?_);refine callWith_kw (thn (Zc5 ha hx hs pos pins s σ H (λvs H1=>∃v fp F1,vs=[v]/\Ext F H F1 H1/\Zam X.K F1 H1 x v fp) I ⟨F0,H0,F,at_,λv fp F' H' x1 r1=>⟨v,fp,F',rfl,x1,r1⟩⟩) λus s1 ⟨vs,H1,I1,rv,v,fp,F1,e1,x1,r1⟩=>?_) he hpl;subst e1;obtain⟨u,rfl,ru⟩:=vals1 rv;obtain⟨l,ws,rfl,hq,rs⟩:=ZdC x1.sub r1 hds;obtain rfl:u=ZB2 l:=ru;rw[Zco hns rs]at hq;refine kws_cons (thn (Ztk pins s1 σ H1 (λv' H'=>v'=.non/\H'=H1) I1 ⟨rfl,rfl⟩) λu2 s2 ⟨v',H2,I2,r2,e2,e3⟩=>?_);subst e2 e3;obtain rfl:u2=ZCf:=r2;refine kws_nil ?_;refine Zuc hc I2 hq ?_;refine k _ F1 H2 x1 ?_;cases ns.min? with
 | none=>exact .non
 | some i=>exact .int i
end
end
section
abbrev FX0:FX where
 tl:=[]
 fv:=λ_ _ _ _=>False
 sw:=λ_ _ h=>h
 drop:=λh=>h
 mono:=λh _=>h
structure Clo(K:ZBd)(F:Hp)(p:Addr)(params:Arguments)(body:Expr)(scope:Scope)(names:List Str)(cs:List PyData):Prop where
 ex:∃(qual:Str) (pm ctv:Value) (c:Addr) (oc:Obj) (clos:List (Str × Addr)),
  F p=Z (Zbu p (ZE7 "<lambda>" qual params body scope clos pm c ctv))/\F c=Z (Zbu c oc)/\Zm1 oc qual /\
  (∀x y a,clos.lookup x=Z a->clos.lookup y=Z a->x=y)/\(∀y∈scope.names,y.2=.free->(clos.lookup y.1).isSome=ZGH) /\
  (∀x a,clos.lookup x=Z a->∃o v,F a=Z (Zbu a o)/\o.data=.cell v) /\
  names.length=cs.length/\∀(i:Nat) (x:Str) (d:PyData),names[i]?=Z x->cs[i]?=Z d->∃a o u v,clos.lookup x=Z a/\F a=Z (Zbu a o)/\o.data=.cell (Z u)/\RelV v u/\@Rep FX0 K F d v
section
variable{K:ZBd}{F F':Hp}{p:Addr}{params:Arguments}{body:Expr}{scope:Scope}{names:List Str}{cs:List PyData}
theorem Clo.mono(h:Clo K F p params body scope names cs)(s:Zq F F'):Clo K F' p params body scope names cs:=by
 obtain⟨qual,pm,ctv,c,oc,clos,h1,h2,h3,h4,h5,h6,h7,h8⟩:=h.ex;refine⟨qual,pm,ctv,c,oc,clos,s _ _ h1,s _ _ h2,h3,h4,h5,λx a e=>?_,h7,λi x d e1 e2=>?_⟩
 ·obtain⟨o,u,q1,q2⟩:=h6 x a e
  exact⟨o,u,s _ _ q1,q2⟩
 ·obtain⟨a,o,u,v,q1,q2,q3,q4,q5⟩:=h8 i x d e1 e2
  exact⟨a,o,u,v,q1,s _ _ q2,q3,q4,@Rep.mono FX0 _ _ _ _ _ q5 s⟩
theorem Clo.drop(h:Clo K F p params body scope names cs):Clo K (Zck F) p params body scope names cs:=by
 obtain⟨qual,pm,ctv,c,oc,clos,h1,h2,h3,h4,h5,h6,h7,h8⟩:=h.ex;refine⟨qual,pm,ctv,c,oc,clos,Zcs h1 rfl,Zcs h2 rfl,h3,h4,h5,λx a e=>?_,h7,λi x d e1 e2=>?_⟩
 ·obtain⟨o,u,q1,q2⟩:=h6 x a e
  exact⟨o,u,Zcs q1 rfl,q2⟩
 ·obtain⟨a,o,u,v,q1,q2,q3,q4,q5⟩:=h8 i x d e1 e2
  exact⟨a,o,u,v,q1,Zcs q2 rfl,q3,q4,@Rep.drop FX0 _ _ _ _ q5⟩
theorem Clo.sw{a:Addr}{ob:HO}{vvs:List (List Key × V)}(hF:∀u,F a=Z u->Dk vvs u)(hob:Dk vvs ob)(h:Clo K F p params body scope names cs):Clo K (HP.sw a ob F) p params body scope names cs:=by
 have key:∀{b:Addr} {o:Obj},F b=Z (Zbu b o)->HP.sw a ob F b=Z (Zbu b o):=λ{b o} e=>by
  have hb:b≠a:=λz=>by subst z;have:=@Dk.te FX0 _ _ (hF _ e);cases this
  unfold HP.sw; rw[if_neg hb]; exact e
 obtain⟨qual,pm,ctv,c,oc,clos,h1,h2,h3,h4,h5,h6,h7,h8⟩:=h.ex;refine⟨qual,pm,ctv,c,oc,clos,key h1,key h2,h3,h4,h5,λx a e=>?_,h7,λi x d e1 e2=>?_⟩
 ·obtain⟨o,u,q1,q2⟩:=h6 x a e
  exact⟨o,u,key q1,q2⟩
 ·obtain⟨a,o,u,v,q1,q2,q3,q4,q5⟩:=h8 i x d e1 e2
  exact⟨a,o,u,v,q1,key q2,q3,q4,@Rep.sw FX0 _ _ _ _ _ _ _ hF hob q5⟩
end
theorem Rep.up[FX]{d:PyData}{v:V}(r:@Rep FX0 K F d v):Rep K F d v:=by
 induction r with
 | non=>exact .non
 | bl b=>exact .bl b
 | int i=>exact .int i
 | str x=>exact .str x
 | tup h hl _ ih=>exact .tup h hl ih
 | tupk h=>exact .tupk h
 | lst h hl _ ih=>exact .lst h hl ih
 | dct h he hk _ ih=>exact .dct h he hk ih
 | fn h=>exact h.elim
theorem Rep.cutF[FX](hF:∀b o,F b=Z o->te o=ZGI->F' b=Z o){d:PyData}{v:V}(r:Rep K F d v):∀n,HM.noF n d=ZGH->@Rep FX0 K F' d v:=by
 induction r with
 | non=>intro _ _; exact @Rep.non FX0 _ _
 | bl b=>intro _ _; exact @Rep.bl FX0 _ _ b
 | int i=>intro _ _; exact @Rep.int FX0 _ _ i
 | str x=>intro _ _; exact @Rep.str FX0 _ _ x
 | tupk h=>intro _ _; exact @Rep.tupk FX0 _ _ _ _ h
 | tup h hl _ ih =>
  intro n hn;cases n with
  | zero=>cases hn
  | succ n=>exact @Rep.tup FX0 _ _ _ _ _ (hF _ _ h rfl) hl λi d v h1 h2=>ih i d v h1 h2 n (ZBj.mp hn d (ZBN h1))
 | lst h hl _ ih =>
  intro n hn;cases n with
  | zero=>cases hn
  | succ n =>
   refine @Rep.lst FX0 _ _ _ _ _ ?_ hl λi d v h1 h2=>ih i d v h1 h2 n (ZBj.mp hn d (ZBN h1));rcases h with(h | ⟨o,h⟩) | h
   ·exact .inl (.inl (hF _ _ h rfl))
   ·exact .inl (.inr ⟨o,hF _ _ h rfl⟩)
   ·exact .inr h
 | @dct a es kvs vvs h he hk _ ih =>
  intro n hn;cases n with
  | zero=>cases hn
  | succ n =>
   refine @Rep.dct FX0 _ _ _ _ kvs vvs ?_ he hk λi d v h1 h2=>ih i d v h1 h2 n ?_
   ·rcases h with h | ⟨o,h⟩
    ·exact .inl (hF _ _ h rfl)
    ·exact .inr ⟨o,hF _ _ h rfl⟩
   ·subst he
    rw[ZBG]at h1;obtain⟨q,h3,h4⟩:=ZBc.mp h1;subst h4;have hm:(ZBL (q.1.map HM.ZaQ),q.2)∈HM.Zg kvs:=ZBh.mpr ⟨q,ZBN h3,rfl⟩;have:=ZBj.mp hn _ hm;rw[ZBx]at this;exact this.2
 | fn h =>
  intro n hn;cases n with
  | zero=>cases hn
  | succ n=>have:=ZBj.mp hn _ (ZBf ..);cases this
end
section
theorem Rep0.cut(hF:∀b o,F b=Z o->te o=ZGI->F' b=Z o){d:PyData}{v:V}(r:@Rep FX0 K F d v):@Rep FX0 K F' d v:=by
 induction r with
 | non=>exact @Rep.non FX0 _ _
 | bl b=>exact @Rep.bl FX0 _ _ b
 | int i=>exact @Rep.int FX0 _ _ i
 | str x=>exact @Rep.str FX0 _ _ x
 | tupk h=>exact @Rep.tupk FX0 _ _ _ _ h
 | tup h hl _ ih=>exact @Rep.tup FX0 _ _ _ _ _ (hF _ _ h rfl) hl ih
 | lst h hl _ ih =>
  refine @Rep.lst FX0 _ _ _ _ _ ?_ hl ih;rcases h with(h | ⟨o,h⟩) | h
  ·exact .inl (.inl (hF _ _ h rfl))
  ·exact .inl (.inr ⟨o,hF _ _ h rfl⟩)
  ·exact .inr h
 | @dct a es kvs vvs h he hk _ ih =>
  refine @Rep.dct FX0 _ _ _ _ kvs vvs ?_ he hk ih;rcases h with h | ⟨o,h⟩
  ·exact .inl (hF _ _ h rfl)
  ·exact .inr ⟨o,hF _ _ h rfl⟩
 | fn h=>exact h.elim
def Zbi(C:List Addr)(H:Hp):Hp:=λb=>if b∈C then Z_ else H b
theorem Zih(h:b∈C):Zbi C H b=Z_:=by unfold Zbi; rw[if_pos h]
theorem Zas(h:b ∉ C):Zbi C H b=H b:=by unfold Zbi; rw[if_neg h]
theorem Ziz{o:HO}(h:Zbi C H b=Z o):b ∉ C/\H b=Z o:=by
 unfold Zbi at h;split at h
 ·cases h
 ·exact⟨by assumption,h⟩
def ZhZ(C:List Addr)(G H:Hp):Hp:=λb=>if b∈C then G b else H b
theorem Zfn(h:b∈C):ZhZ C G H b=G b:=by unfold ZhZ; rw[if_pos h]
theorem Zbt(h:b ∉ C):ZhZ C G H b=H b:=by unfold ZhZ; rw[if_neg h]
section
variable{P:Program}{w:World}{C:List Addr}{G H H':Hp}{h h':Heap}
theorem Zcp(x:Zab P w H h a (Zbu a o)):h.get? a=Z o:=x.1
theorem Zko(e:h.get? a=Z o):Zab P w H h a (Zbu a o):=⟨e,⟨o,e⟩,λh1 h2 q k=>k o q⟩
theorem HOk.cut(x:HOk P w H h)(hC:∀c∈C,∀o,H c=Z o->te o=ZGH):HOk P w (Zbi C H) h:=λa o e=>by
 obtain⟨_,e⟩:=Ziz e;have out:∀{b:Addr} {u:HO},H b=Z u->te u=ZGI->Zbi C H b=Z u:=λ{b u} q t=>by rw[Zas λz=>by rw[hC b z u q]at t; cases t]; exact q
 exact(x a o e).stay (λ_ _ _ q=>q) (λb q=>out q rfl) λb xs q=>out q rfl
theorem HOk.put(x:HOk P w H h)(hn:∀c∈C,H c=Z_)(hC:∀c∈C,∀u,G c=Z u->∃o,u=Zbu c o/\h.get? c=Z o):HOk P w (ZhZ C G H) h:=λa o e=>by
 have out:∀{b:Addr} {u:HO},H b=Z u->ZhZ C G H b=Z u:=λ{b u} q=>by rw[Zbt λz=>by rw[hn b z]at q; cases q]; exact q
 by_cases ha:a∈C
 ·rw[Zfn ha]at e
  obtain⟨ob,rfl,hb⟩:=hC a ha o e;exact Zko hb
 ·rw[Zbt ha]at e
  exact(x a o e).stay (λ_ _ _ q=>q) (λb q=>out q) λb xs q=>out q
end
structure Zi6(scope:Scope)(x:Str)(names:List Str):Prop where
 kind:scope.kind=.function
 co:scope.isCoroutine=ZGI
 gen:scope.isGenerator=ZGI
 nocell:∀y∈scope.names,y.2≠.cell
 par:scope.names.lookup x=Z .local
 free:∀n∈names,scope.names.lookup n=Z .free
 nd:(x::names).Nodup
def ZlY(P:Program)(w:World)(K:ZBd)(mg:Str->Option Value)(base:Heap)(N:List Str)(qual:Str)(scope:Scope)(f:Addr)(cd:Value)(clos:List (Str × Addr))(A:Around)(outer:List Env)(s:Shared)(H:Hp):Cx where
 prog:=P
 w:=w
 K:=K
 mg:=mg
 base:=base
 A:=A.deeper (ZD9 qual scope s.heap.objs.size f cd clos)
 N:=N
 s₀:=s
 H₀:=H
 env:=ZD9 qual scope s.heap.objs.size f cd clos
 outer:=outer
 stack:=ZD9 qual scope s.heap.objs.size f cd clos::outer
 ex:=[]
 calm:=ZGH
 fn:=λ_=>ZGI
 pn:=[]
 xe:=λ_ _=>False
section
variable{P:Program}{w:World}{K:ZBd}{mg:Str->Option Value}{base:Heap}{A:Around}{outer:List Env}{s:Shared}{H:Hp}{k:Nat}
theorem ZuB{f:Addr}{cd:Value}(S:Zi6 scope x names)(hd:A.handled=Z_)(e0:Zfp P w K mg base A outer s H)
  (inj:∀y z a,clos.lookup y=Z a->clos.lookup z=Z a->y=z) (has:∀y∈scope.names,y.2=.free->(clos.lookup y.1).isSome=ZGH)
  (hcell:∀y a,clos.lookup y=Z a->H a=Z_/\∃o v,s.heap.get? a=Z o/\o.data=.cell v)
  {v:V} {u:Value} (rv:RelV v u) {vs:List V} (hlen:names.length=vs.length) (hcap:∀(i:Nat) (y:Str) (v':V),names[i]?=Z y->vs[i]?=Z v'->∃a o u',clos.lookup y=Z a/\s.heap.get? a=Z o/\o.data=.cell (Z u')/\RelV v' u')
  {h':Heap} {tk:Nat} (hns:h'.Ns s.heap.objs.size λy=>[(x,u)].reverse.lookup y) (hsb:ZC5 s.heap.objs.size (s.heap.push { cls:=.type "frame",data:=.dict #[] }) h') :
  Inv (ZlY P w K mg base (x::names) qual scope f cd clos A outer s H) [] (Z v::vs.map Z) H { s with heap:=h',toks:=tk }:=by
 have hk:∀b o,s.heap.get? b=Z o->h'.get? b=Z o:=λb o e=>hsb.extBut b o (ZBA (ZBt e)) (ZBg _ e);have noA:∀b:Addr,b ∉ (ZlY P w K mg base (x::names) qual scope f cd clos A outer s H).ex:=λb z=>absurd (show b∈([]:List Addr) from z) (by simp);refine⟨⟨e0.mod,S.kind,rfl,rfl,ZBl _,inj,λy hy=>?_,λy c z=>absurd (show ZGI=ZGH from z) (by simp),λ_=>hd,ZGt e0.frames,.inr ⟨rfl,rfl⟩,λb z=>absurd z (noA b),e0.bs,e0.bsz,λb _ _=>noA b,λb z=>absurd z (noA b),e0.funs,e0.frf⟩,
  rfl,e0.bare,Un.kept hk,⟨_,hns,λi y v' h1 h2 h3=>?_⟩,λy c e=>?_,e0.hok.fresh (ZBl _),λy c e=>(hcell y c e).1,λp hp=>absurd (show p∈([]:List (Addr × Obj)) from hp) (by simp),e0.hok.kept hk,?_⟩
 ·have hy:scope.names.lookup y=Z .cell\/scope.names.lookup y=Z .free:=hy
  rcases hy with hy | hy
  ·exact absurd rfl (S.nocell _ (ZCT hy))
  ·exact ZBM.mp (has _ (ZCT hy) rfl)
 ·cases i with
  | zero=>have e1:x=y:=ZCa h1;have e2:v=v':=ZCa (ZCa h2);subst e1 e2;exact⟨u,rv,.inl ⟨S.par,by simp⟩⟩
  | succ i=>have h1:names[i]?=Z y:=h1;have h2:(vs.map Z)[i]?=Z (Z v'):=h2;rw[ZBG]at h2;obtain⟨v2,h4,h5⟩:=ZBc.mp h2;cases h5;obtain⟨a,o,u',q1,q2,q3,q4⟩:=hcap i y v' h1 h4;exact⟨u',q4,.inr ⟨.inr (S.free y (ZBN h1)),a,q1,o,hk _ _ q2,q3⟩⟩
 ·obtain⟨_,o,v',q1,q2⟩:=hcell y c e
  exact⟨v',o,hk _ _ q1,q2⟩
 ·show(Z v::vs.map Z).length=(x::names).length
  rw[ZBy,ZBy,ZBb,hlen]
end
end
section
variable[FX]
def cellsOf(clos:List (Str × Addr)):List Addr:=clos.filterMap λq=>clos.lookup q.1
theorem Zny:a∈cellsOf clos↔∃y,clos.lookup y=Z a:=by unfold cellsOf;rw[ZBU];exact⟨λ⟨q,_,h⟩=>⟨q.1,h⟩,λ⟨y,h⟩=>⟨(y,a),ZCT h,h⟩⟩
theorem Tb.cut{h:Heap}(t:Tb H)(x:HOk P w H h)(hC:∀c∈C,∃o v,H c=Z (Zbu c o)/\o.data=.cell v):Tb (Zbi C H):=λT q hT=>by
 obtain⟨ps,h1,h2,h3⟩:=t T q hT;refine⟨ps,?_,h2,λpos c hc=>?_⟩
 ·rw[Zas λz=>by
   obtain⟨o,v,e,_⟩:=hC T z;rw[h1]at e; cases e]
  exact h1
 ·obtain⟨a,o,e1,e2,e3⟩:=h3 pos c hc
  refine⟨a,o,e1,?_,e3⟩;rw[Zas λz=>by obtain⟨o',v,f1,f2⟩:=hC a z;have g1:=Zcp (x a _ e2);have g2:=Zcp (x a _ f1);rw[g1]at g2;cases g2;obtain⟨vs,tt,d1,_⟩:=e3;rw[d1]at f2; cases f2];exact e2
section
variable{P:Program}{w:World}{K:ZBd}{mg:Str->Option Value}{base:Heap}{k:Nat}
theorem Zrn{params:Arguments}{body:Expr}{g:HM.EF}(S:Zi6 scope x names)
  (hbind:∀(qual:Str) (clos:List (Str × Addr)) (pm cd ctv u:Value),bindArgs (PySem.W.kla_fn "<lambda>" qual params body scope clos pm cd ctv) ⟨[u],[]⟩=pure [(x,u)])
  (hbody:∀(qual:Str) (f:Addr) (cd:Value) (clos:List (Str × Addr)) (A:Around) (outer:List Env) (s:Shared) (H:Hp),Zav k (A.deeper (ZD9 qual scope s.heap.objs.size f cd clos))->XE (ZlY P w K mg base (x::names) qual scope f cd clos A outer s H) body g)
  {A:Around} {outer:List Env} {s:Shared} {F H:Hp} {p:Addr} {cs:List PyData} (C:Clo K F p params body scope names cs) (e0:Zfp P w K mg base A outer s H) (sub:Zq F H) (hr:Zav (k+1) A) (tb:Tb H) (nt:NoT F)
  {us:List Value} {vs:List V} {ds:List PyData} {d:PyData} {Q:VK} (rv:Vals vs us) (rs:Zt K F ds vs) (hap:HM.Zhk 1 names.length g cs ds=Z d) (kk:∀v F' H',Ext F H F' H'->Rep K F' d v->Q v H') :
  codeAny (model P w) A (.call (.ref p) ⟨us,[]⟩) (CR CX0 outer P w H s Q E0) s:=by
 unfold HM.Zhk at hap;split at hap
 case isFalse=>cases hap
 rename_i hc;obtain⟨hl1,hl2,hnf⟩:=hc;obtain⟨d0,rfl⟩:=List.length_eq_one_iff.mp hl1;obtain⟨v0,vs',rfl,r0,rs'⟩:=rs.cons_inv;obtain rfl:=rs'.nil_inv;obtain⟨u0,rfl,ru0⟩:=vals1 rv;have hnf0:HM.noF 20 d0=ZGH:=by rw[ZCp,ZBx]at hnf; exact hnf.1
 obtain⟨qual,pm,ctv,c,oc,clos,h1,h2,h3,h4,h5,h6,h7,h8⟩:=C.ex;generalize hCs:cellsOf clos=Cs;have hCm:∀a,a∈Cs↔∃y,clos.lookup y=Z a:=λa=>by rw[<-hCs]; exact Zny
 have hCo:∀a∈Cs,∃o v,F a=Z (Zbu a o)/\o.data=.cell v/\s.heap.get? a=Z o:=λa ha=>by obtain⟨y,e⟩:=(hCm a).mp ha;obtain⟨o,v,q1,q2⟩:=h6 y a e;exact⟨o,v,q1,q2,Zcp (e0.hok a _ (sub _ _ q1))⟩
 have hCt:∀a∈Cs,∀o,H a=Z o->te o=ZGH:=λa ha o e=>by obtain⟨ob,v,q1,_,_⟩:=hCo a ha;rw[sub _ _ q1]at e; cases e; rfl
 have hCn:∀a∈Cs,H a≠Z_:=λa ha z=>by obtain⟨ob,v,q1,_,_⟩:=hCo a ha;rw[sub _ _ q1]at z; cases z
 have none1:∀b,H b=Z_->Zbi Cs H b=Z_:=λb e=>by
  by_cases hb:b∈Cs
  ·exact Zih hb
  ·rw[Zas hb]; exact e
 have e1:Zfp P w K mg base A outer s (Zbi Cs H):=⟨e0.frames,e0.mod,λb o e=>⟨(e0.bs b o e).1,none1 b (e0.bs b o e).2⟩,e0.bsz,e0.funs,λb hb=>none1 b (e0.frf b hb),HOk.cut e0.hok hCt,e0.bare⟩;have KX:K.In s.heap:=e0.mod.kin.keeps λb o e=>(e0.bs b o e).1;have lim:s.heap.NoLimit:=e0.mod.nolimit.keeps λb o e=>(e0.bs b o e).1;have hcd:s.heap.CodeRec (.ref c) qual:=by obtain⟨vs,t,d1,d2⟩:=h3;exact⟨c,oc,vs,t,rfl,Zcp (e0.hok c _ (sub _ _ h2)),d1,d2⟩
 refine PySem.W.kla_callFunE hr.depth (Zcp (e0.hok p _ (sub _ _ h1))) rfl S.co S.gen rfl hcd ?_;rw[hbind];refine ZBe (ZE5 S.nocell (λy hy=>by rw[ZBk.mp hy]; exact S.par) (λh' hns hsb=>⟨lim.fresh _ hsb,?_⟩) S.kind);show codeAny _ _ (.expr body (ZD9 qual scope s.heap.objs.size p (.ref c) clos)) _ _;have hvs:∃wv:List V,names.length=wv.length/\(∀(i:Nat) (y:Str) (v':V),names[i]?=Z y->wv[i]?=Z v'->∃a o u',clos.lookup y=Z a/\s.heap.get? a=Z o/\o.data=.cell (Z u')/\RelV v' u')/\Zt K (Zbi Cs F) cs wv:=by
  have step:∀n,n<=cs.length->∃wv:List V,wv.length=n/\∀(i:Nat) (y:Str) (d:PyData) (v':V),names[i]?=Z y->cs[i]?=Z d->wv[i]?=Z v'->(∃a o u',clos.lookup y=Z a/\s.heap.get? a=Z o/\o.data=.cell (Z u')/\RelV v' u')/\Rep K (Zbi Cs F) d v':=by
   intro n
   induction n with
   | zero=>exact λ_=>⟨[],rfl,λi y d v' _ _ h=>by simp at h⟩
   | succ n ih =>
    intro hn;obtain⟨wv,l1,l2⟩:=ih (by omega);have hy:n<names.length:=by omega
    have hd:n<cs.length:=by omega
    obtain⟨a,o,u',v',q1,q2,q3,q4,q5⟩:=h8 n names[n] cs[n] (ZBu hy) (ZBu hd);refine⟨wv++[v'],by rw[ZBv,l1]; rfl,λi y d v2 g1 g2 g3=>?_⟩
    by_cases hi:i<n
    ·rw[ZBX (by omega)]at g3
     exact l2 i y d v2 g1 g2 g3
    ·have hin:i=n:=by
      have:=(ZBr.mp g3).1;rw[ZBv,l1]at this;have:i<n+1:=this;omega
     subst hin;rw[ZBQ (by omega),l1,Nat.sub_self]at g3;rw[ZBu hy]at g1;rw[ZBu hd]at g2;cases g1; cases g2; cases g3;refine⟨⟨a,o,u',q1,Zcp (e0.hok a _ (sub _ _ q2)),q3,q4⟩,?_⟩;refine(Rep0.cut (λb ob z t=>?_) q5).up;rw[Zas λhb=>by obtain⟨ob',v,w1,_,_⟩:=hCo b hb;rw[w1]at z; cases z; cases t];exact z
  obtain⟨wv,l1,l2⟩:=step cs.length (ZBl _);refine⟨wv,by omega,λi y v' g1 g3=>?_,by omega,λi d v' g2 g3=>?_⟩
  ·have hi:=(ZBr.mp g3).1
   exact(l2 i y cs[i] v' g1 (ZBu (by omega)) g3).1
  ·have hi:=(ZBr.mp g3).1
   exact(l2 i names[i] d v' (ZBu (by omega)) g2 g3).2
 obtain⟨wv,wl,wc,wr⟩:=hvs;have cutF:∀b o,F b=Z o->te o=ZGI->Zbi Cs F b=Z o:=λb ob z t=>by rw[Zas λhb=>by obtain⟨ob',v,w1,_,_⟩:=hCo b hb;rw[w1]at z; cases z; cases t];exact z
 have r0':Rep K (Zbi Cs F) d0 v0:=(Rep.cutF cutF r0 20 hnf0).up;have sub1:Zq (Zbi Cs F) (Zbi Cs H):=λb o e=>by obtain⟨hb,e⟩:=Ziz e;rw[Zas hb]; exact sub _ _ e
 have nt1:NoT (Zbi Cs F):=λb o e=>nt b o (Ziz e).2;have tb1:Tb (Zbi Cs H):=tb.cut e0.hok λa ha=>by obtain⟨o,v,q1,q2,_⟩:=hCo a ha;exact⟨o,v,sub _ _ q1,q2⟩
 have I:=ZuB (qual:=qual) (f:=p) (cd:=.ref c) (tk:=s.toks+1) S hr.hd e1 h4 h5 (λy a e=>by obtain⟨o,v,q1,q2,q3⟩:=hCo a ((hCm a).mpr ⟨y,e⟩);exact⟨Zih ((hCm a).mpr ⟨y,e⟩),o,v,q3,q2⟩) ru0 wl wc hns hsb;have a0:At K (Zbi Cs F) (Zbi Cs H) (Zbi Cs F) (Zbi Cs H) ((d0::cs).map λd=>Z (HM.B.pl d)) (Z v0::wv.map Z):=by
  have:=ZgZ (N:=x::names) sub1 tb1 nt1 (Zt.cons r0' wr) (by rw[ZBy,ZBy]; omega);have e3:HM.Ze9 (x::names).length (d0::cs)=(d0::cs).map λd=>Z (HM.B.pl d):=by unfold HM.Ze9;rw[ZBy,ZBy,show names.length+1-(cs.length+1)=0 by omega];exact ZBW _
  have e4:L2.start (x::names) (v0::wv)=Z v0::wv.map Z:=by unfold L2.start;rw[ZBy,ZBy,show names.length+1-(wv.length+1)=0 by omega];exact ZBW _
  rw[e3,e4]at this;exact this
 refine PySem.W.kla_codeExpr (ZCH (hbody qual p (.ref c) clos A outer s (Zbi Cs H) (hr.deeper _) _ _ hap [] _ _ _ (λv' H'=>∃F',Ext (Zbi Cs F) (Zbi Cs H) F' H'/\Rep K F' d v') I ⟨_,_,_,a0,λv' F' H' x' q'=>⟨F',x',q'⟩⟩) (λu' s' hq=>?_) λe s' hq=>ZCb hq);obtain⟨v',H',I',ru',F',x',q'⟩:=hq;have un:Un (frs outer) [] (Zbi Cs H) H' s.heap s'.heap:=I'.base;have nfs:∀a∈Cs,a ∉ frs outer:=λa ha hb=>hCn a ha (e0.frf a hb);have kc:∀a∈Cs,∃o,H a=Z (Zbu a o)/\F a=Z (Zbu a o)/\s'.heap.get? a=Z o/\H' a=Z_:=λa ha=>by obtain⟨o,v,q1,q2,q3⟩:=hCo a ha;exact⟨o,sub _ _ q1,q1,un.keep a o q3 (Zih ha) (nfs a ha) (by simp),un.free a o q3 (Zih ha) (by simp)⟩
 have out:∀{b:Addr} {o:HO},H b=Z o->te o=ZGI->b ∉ Cs:=λ{b o} e t hb=>by rw[hCt b hb o e]at t; cases t
 have outN:∀{b:Addr},H b=Z_->b ∉ Cs:=λ{b} e hb=>hCn b hb e;have outT:∀{b:Addr} {ps:Array Value},H b=Z (.tbl ps)->b ∉ Cs:=λ{b ps} e hb=>by obtain⟨o,q,_⟩:=kc b hb;rw[e]at q; cases q
 refine⟨v',ZhZ Cs H H',I'.os,I'.bare,⟨λb o e n hb hx=>?_,λb o e n hb hx=>?_,λb o e n hx=>?_,un.there,λb xs e=>?_,λb o u e=>?_,λb ps e=>?_⟩,HOk.put I'.hok (λa ha=>by obtain⟨_,_,_,_,q⟩:=kc a ha; exact q) (λa ha u e=>?_),ru',kk v' (ZhZ Cs F F') (ZhZ Cs H H') ⟨λb o e=>?_,λb o e=>?_,λb o e=>?_,λb o e=>?_,λt=>?_,λn b o e=>?_⟩ (q'.mono λb o e=>?_)⟩
 ·exact un.keep b o e (none1 b n) hb hx
 ·exact un.slot b o e (none1 b n) hb hx
 ·rw[Zbt (outN n)]; exact un.free b o e (none1 b n) hx
 ·have hb:=out e rfl
  rw[Zbt hb]; exact un.tups b xs (by rw[Zas hb]; exact e)
 ·have hb:=out e rfl
  rw[Zbt hb]; exact un.frzs b o u (by rw[Zas hb]; exact e)
 ·have hb:=outT e
  rw[Zbt hb]; exact un.tbls b ps (by rw[Zas hb]; exact e)
 ·obtain⟨o,q1,_,q3,_⟩:=kc a ha
  rw[q1]at e; cases e;exact⟨o,rfl,q3⟩
 ·by_cases hb:b∈Cs
  ·rw[Zfn hb]; exact e
  ·rw[Zbt hb]; exact x'.ff b o (by rw[Zas hb]; exact e)
 ·by_cases hb:b∈Cs
  ·exact .of (by rw[Zfn hb]; exact e)
  ·exact(x'.hh b o (by rw[Zas hb]; exact e)).cong (Zbt hb)
 ·by_cases hb:b∈Cs
  ·rw[Zfn hb]at e ⊢; exact sub _ _ e
  ·rw[Zbt hb]at e ⊢; exact x'.sub _ _ e
 ·by_cases hb:b∈Cs
  ·rw[Zfn hb]at e; exact .inl e
  ·rw[Zbt hb]at e
   rcases x'.new b o e with q | q
   ·exact .inl (Ziz q).2
   ·refine .inr ?_
    unfold Fre at q ⊢;rw[Zas hb]at q;exact q
 ·exact(x'.tab tb1).keep λa o e _=>by rw[Zbt λhb=>by obtain⟨_,_,_,_,q⟩:=kc a hb;rw[e]at q; cases q];exact e
 ·by_cases hb:b∈Cs
  ·rw[Zfn hb]at e; exact n b o e
  ·rw[Zbt hb]at e; exact x'.nts nt1 b o e
 ·rw[Zbt λhb=>by
   obtain⟨_,_,_,_,q⟩:=kc b hb;rw[x'.sub _ _ e]at q; cases q]
  exact e
end
end
section
variable[FX]
theorem ZsQ{a b:Int}{cv:Value}(l:List Value)(h:TriplesOk l):∀(pos:Pos) (c:Value),ZFl pos (l++[rawInt a,rawInt b,cv])=Z c->ZFl pos l=Z c\/c=cv:=by
 fun_induction TriplesOk l with
 | case1 =>
  intro pos c e;simp only[ZDk,ZFl,rawInt]at e;split at e
  ·cases e; exact .inr rfl
  ·cases e
 | case2 x t y u z rest ih =>
  intro pos c e;simp only[ZFY,ZFl]at e ⊢;split at e
  ·rename_i hq
   rw[if_pos hq];exact .inl e
  ·rename_i hq
   rw[if_neg hq];exact ih h pos c e
 | case3=>exact h.elim
def BMod(base:Heap)(mg:Str->Option Value):Prop:=∃bm o,mg "__builtins__" = Z (.ref bm)/\bm≠ZFI/\bm≠ZBT/\base.get? bm=Z o/\o.cls=.type "module"/\o.dict=Z ZFI/\o.data=.plain
structure Zse(X:Cx)(t:Nat)(params:Arguments)(body:Expr)(scope:Scope)(names:List Str)(is:List Nat):Prop where
 code:∃c P,X.env.code=.ref c/\ZCM X.K c P=ZGH/\(P,X.env.qual ++ "<lambda>")∈FX.tl/\∀q,(P,q)∈FX.tl->q=X.env.qual ++ "<lambda>"
 bm:BMod X.base X.mg
 dflt:defaultsOf params X.env=([],[])
 len:is.length=names.length
 at_:∀(j i:Nat) (x:Str),is[j]?=Z i->names[j]?=Z x->X.N[i]?=Z x/\X.env.scope.names.lookup x=Z .cell
 cells:∀y∈scope.names,y.2=.free->X.env.scope.names.lookup y.1=Z .cell
 free:∀x∈names,(x,ZDE)∈scope.names
 own:∀x,X.fn x=ZGH
 good:∀F p cs,Clo X.K F p params body scope names cs->FX.fv t cs F p
section
variable{X:Cx}{t:Nat}{params:Arguments}{body:Expr}{scope:Scope}{names:List Str}{is:List Nat}{pos lpos p:Pos}
structure Made(X:Cx)(params:Arguments)(body:Expr)(scope:Scope)(H H':Hp)(q:Addr)(clos:List (Str × Addr)):Prop where
 ex:∃(pm ctv:Value) (c:Addr) (oc:Obj),H' q=Z (Zbu q (ZE7 "<lambda>" (X.env.qual ++ "<lambda>") params body scope clos pm c ctv))/\H' c=Z (Zbu c oc)/\Zm1 oc (X.env.qual ++ "<lambda>")
 hh:ZaI H H'
 tb:Tb H'
theorem Zv9(L:Zse X t params body scope names is)(I:Inv X pins σ H s)(tb:Tb H)(hcl:closureFor scope X.env=pure clos) :
  wpAny (model X.prog X.w) X.A (eval (.Lambda params body scope lpos) X.env) (λu s'=>∃q H',u=.ref q/\Inv X pins σ H' s'/\Made X params body scope H H' q clos) X.xe s:=by
 obtain⟨c,P,hc,hh,hm,hu⟩:=L.code;obtain⟨ps,hP,ht,hg⟩:=tb P _ hm;have gP:s.heap.get? P=Z (ZEa ps):=I.hok P _ hP;have Ns:=I.mod.glob.keeps I.bk;have CH:PySem.W.CodeHd s.heap c P:=ZGz I.kIn hh;obtain⟨bm,ob,b1,b2,b3,b4,b5,b6,b7⟩:=L.bm;have gb:=I.bk _ _ b4;have hbP:bm≠P:=λz=>by rw[z,gP]at gb; cases gb; cases b5
 have hgP:ZBT≠P:=λz=>by obtain⟨o,es,ep,e,hd,_⟩:=Ns;rw[z,gP]at e; cases e; cases hd
 have BA:s.heap.BuiltinsAt X.mg P:=⟨bm,ob,b1,b2,b3,hbP,gb,b5,b6,b7⟩;refine PySem.W.kla_eval L.dflt ?_;cases hq:ZFl lpos ps.toList with
 | some cv =>
  obtain⟨a,oc,rfl,h1,h2⟩:=hg lpos cv hq;refine PySem.W.kla_makeFunctionHit hcl I.ok.glob Ns hc CH gP ht hq BA λctv h' tk hk hz=>?_;generalize hob:ZE7 "<lambda>" (X.env.qual ++ "<lambda>") params body scope clos ((X.mg "__name__").getD .none) a ctv=fo;have hn:H h'.objs.size=Z_:=I.hok.fresh hz;have hk2:∀b o,s.heap.get? b=Z o->(h'.push fo).get? b=Z o:=λb o e=>ZBg _ (hk b o e);have gq:(h'.push fo).get? h'.objs.size=Z fo:=by rw[<-hob]; exact ZBw _ rfl
  refine⟨h'.objs.size,upd H h'.objs.size (Zbu h'.objs.size fo),rfl,?_,⟨_,ctv,a,oc,by rw[ZE,<-hob],?_,h2⟩,.of (Zlh hn),tb.same (Zlh hn)⟩
  ·subst hob
   exact I.laid (t':=tk) hk2 hz (Zko gq)
  ·rw[ZA (ZaA h1 hn)]; exact h1
 | none =>
  refine PySem.W.kla_makeFunction hcl I.ok.glob Ns hc CH gP ht hq hgP BA λc' ctv h' tk hx hge hlt hrec htab=>?_;generalize hob:ZE7 "<lambda>" (X.env.qual ++ "<lambda>") params body scope clos ((X.mg "__name__").getD .none) c' ctv=fo;generalize hps:ps++#[rawInt lpos.line,rawInt lpos.col,ZB2 c']=ps2 at htab;obtain⟨c2,oc,vs,tq,e2,goc,d1,d2⟩:=hrec;cases e2;have hcn:H c'=Z_:=I.hok.fresh hge;have hqn:H h'.objs.size=Z_:=I.hok.fresh (ZCh hge (ZDh hlt));have hcq:c'≠h'.objs.size:=ZBA hlt;have hcP:c'≠P:=λz=>by rw[z,hP]at hcn; cases hcn
  have hqP:h'.objs.size≠P:=λz=>by rw[z,hP]at hqn; cases hqn
  have gq:(h'.push fo).get? h'.objs.size=Z fo:=by rw[<-hob]; exact ZBw _ rfl
  have gc:(h'.push fo).get? c'=Z oc:=ZBg _ goc;have gP2:(h'.push fo).get? P=Z (ZEa ps2):=ZBg _ htab;have hk2:∀b o,b≠P->s.heap.get? b=Z o->(h'.push fo).get? b=Z o:=λb o hb e=>ZBg _ (hx b o hb e);generalize hH':upd (upd (upd H P (.tbl ps2)) c' (Zbu c' oc)) h'.objs.size (Zbu h'.objs.size fo)=H';have aq:H' h'.objs.size=Z (Zbu h'.objs.size fo):=by rw[<-hH',ZE]
  have ac:H' c'=Z (Zbu c' oc):=by rw[<-hH',ZA hcq,ZE]
  have aP:H' P=Z (.tbl ps2):=by rw[<-hH',ZA (ZCn hqP),ZA (ZCn hcP),ZE]
  have ao:∀b,b≠h'.objs.size->b≠c'->b≠P->H' b=H b:=λb n1 n2 n3=>by rw[<-hH',ZA n1,ZA n2,ZA n3]
  have at1:∀b o,H b=Z o->b≠P->H' b=Z o:=λb o e n=>by rw[ao b (ZaA e hqn) (ZaA e hcn) n]; exact e
  have nP:∀b o,H b=Z o->(∀ps,o≠.tbl ps)->b≠P:=λb o e n z=>by rw[z,hP]at e; cases e; exact n _ rfl
  have old:∀b o,s.heap.get? b=Z o->b≠h'.objs.size/\b≠c':=λb o e=>by have hb:=ZBt e;exact⟨ZBA (ZBK hb (ZCh hge (ZDh hlt))),ZBA (ZBK hb hge)⟩
  have hokN:HOk X.prog X.w H' (h'.push fo):=λb o e=>by
   by_cases n1:b=h'.objs.size
   ·subst n1; rw[aq]at e; cases e; exact Zko gq
   ·by_cases n2:b=c'
    ·subst n2; rw[ac]at e; cases e; exact Zko gc
    ·by_cases n3:b=P
     ·subst n3; rw[aP]at e; cases e; exact gP2
     ·rw[ao b n1 n2 n3]at e
      refine(I.hok b o e).stay (λd u hd z=>hk2 d u (λy=>?_) z) (λd z=>at1 d _ z (nP d _ z λ_ y=>by cases y)) λd xs z=>at1 d _ z (nP d _ z λ_ y=>by cases y);rcases hd with y2 | y2
      ·exact n3 (y2▸y)
      ·exact nP d _ y2 (λ_ q=>by cases q) y
  have un:Un X.fs [] H H' s.heap (h'.push fo):=by
   refine⟨λb o e n hb hx=>?_,λb o e n hb hx=>?_,λb o e n hx=>?_,λb o e hx=>?_,λb xs e=>at1 b _ e (nP b _ e λ_ y=>by cases y),λb o u e=>at1 b _ e (nP b _ e λ_ y=>by cases y),λb pp e=>?_⟩
   ·exact hk2 b o (λz=>by rw[z,hP]at n; cases n) e
   ·exact⟨o.slots,hk2 b o (λz=>by rw[z,hP]at n; cases n) e⟩
   ·obtain⟨n1,n2⟩:=old b o e
    rw[ao b n1 n2 (λz=>by rw[z,hP]at n; cases n)]; exact n
   ·by_cases n3:b=P
    ·exact⟨_,by rw[n3]; exact gP2⟩
    ·exact⟨o,hk2 b o n3 e⟩
   ·by_cases n3:b=P
    ·subst n3
     rw[hP]at e; cases e;exact⟨_,by rw[aP,<-hps]⟩
    ·exact⟨#[],by rw[at1 b _ e n3]; simp⟩
  refine⟨h'.objs.size,H',rfl,?_,⟨_,ctv,c',oc,by rw[aq,<-hob],ac,vs,tq,d1,d2⟩,λb o e=>?_,λT q hT=>?_⟩
  ·exact I.un (t':=tk) un hokN
  ·by_cases n3:b=P
   ·subst n3
    rw[hP]at e; cases e;exact⟨_,aP⟩
   ·exact .of (at1 b o e n3)
  ·by_cases n3:T=P
   ·subst n3
    obtain rfl:=hu q hT;refine⟨ps2,aP,?_,λpos' cc hcc=>?_⟩
    ·rw[<-hps,Array.toList_append]
     exact TriplesOk_snoc _ _ _ _ ht
    ·rw[<-hps,Array.toList_append]at hcc
     rcases ZsQ _ ht _ _ hcc with e | e
     ·obtain⟨a,o,q1,q2,q3⟩:=hg pos' cc e
      exact⟨a,o,q1,at1 a _ q2 (nP a _ q2 λ_ y=>by cases y),q3⟩
     ·exact⟨c',oc,e,ac,vs,tq,d1,d2⟩
   ·obtain⟨ps',w1,w2,w3⟩:=tb T q hT
    refine⟨ps',at1 T _ w1 n3,w2,λpos' cc hcc=>?_⟩;obtain⟨a,o,q1,q2,q3⟩:=w3 pos' cc hcc;exact⟨a,o,q1,at1 a _ q2 (nP a _ q2 λ_ y=>by cases y),q3⟩
theorem Zo8{r:HM.Env}:∀{is:List Nat} {cs:List PyData},HM.Zl6 is r=Z cs->cs.length=is.length/\∀(j i:Nat),is[j]?=Z i->∃d,cs[j]?=Z d/\r[i]?=Z (Z (.pl d))
 | [],cs,h=>by cases h; exact⟨rfl,λj i e=>by simp at e⟩
 | i::is,cs,h=>by
  unfold HM.Zl6 at h;split at h
  ·rename_i d hd
   obtain⟨cs',h1,h2⟩:=ZBc.mp h;subst h2;obtain⟨l,k⟩:=Zo8 h1;refine⟨by rw[ZBy,ZBy,l],λj i' e=>?_⟩;cases j with
   | zero=>cases e; exact⟨d,rfl,hd⟩
   | succ j=>exact k j i' e
  ·cases h
def Zfk(F H:Hp):Hp:=λb=>match H b with
 | some (.ext φ)=>Z (.ext φ)
 | _=>F b
theorem ZiW(h:H a=Z (Zbu a o)):Zfk F H a=Z (Zbu a o):=by unfold Zfk Zbu at *;rw[h]
theorem Zlo{o:HO}(h:Zfk F H b=Z o):(H b=Z o/\te o=ZGH)\/F b=Z o:=by
 unfold Zfk at h;split at h
 ·rename_i φ e
  cases h;exact .inl ⟨e,rfl⟩
 ·exact .inr h
theorem Zxf(s:Zq F H){o:HO}(h:F b=Z o):Zfk F H b=Z o:=by have h2:=s b o h;unfold Zfk;rw[h2];cases o<;>first | rfl | exact h
theorem ZlK{k:Nat}{M:List PyData->Option PyData}{e:Expr}{fa:HM.EF}(C:Callee X.prog X.w X.K X.mg X.base k x M)(hr:Zav k X.A)(L:Zse X t params body scope names is)(ha:XE X e fa)(hg:Gl X x:=by rfl)(hdb:(x==("__debug__":Str))=ZGI:=by decide)
  (he:ZBp [e,.Lambda params body scope lpos] X.env=(ZGI,eval e X.env)::ZBp [.Lambda params body scope lpos] X.env:=by rfl) (he2:ZBp [.Lambda params body scope lpos] X.env=[(ZGI,eval (.Lambda params body scope lpos) X.env)]:=by rfl)
  (hpl:(backTo pos (ZBp [.Lambda params body scope lpos] X.env)).any (·.1)=ZGI:=by rfl):XE X (.Call (.Name x p) [e,.Lambda params body scope lpos] [] pos) (HM.Zfo M t is fa):=by
 intro r d hd;unfold HM.Zfo at hd;split at hd
 case h_2=>cases hd
 rename_i d1 hd1;split at hd
 case h_2=>cases hd
 rename_i cs hcs;split at hd
 case isFalse=>cases hd
 rename_i hnc;split at hd
 case h_2=>cases hd
 rename_i d' hM;split at hd
 case isFalse=>cases hd
 rename_i hnd;cases hd;obtain⟨fa',fd,ps,hl,FN,hm,hk,hb⟩:=C.ex;intro pins s σ H Q I ⟨F0,H0,F,at_,kk⟩;obtain⟨clos,hcl,hc1,hc2⟩:=Zf5 (scope:=scope) (env:=X.env) λy hy hf=>I.ok.has _ (.inl (L.cells y hy hf));refine ZDa (ZmY I hg hm ?_ hdb);have lamPE:PE X (.Lambda params body scope lpos) λσ' H' Q'=>Tb H'/\∀q H2,Made X params body scope H' H2 q clos->Q' (.ref q) H2:=λpins' s' σ' H' Q' I' ⟨tb',k'⟩=>thn (Zv9 L I' tb' hcl) λu s2 ⟨q,H2,e1,I2,m⟩=>by subst e1; exact⟨.ref q,H2,I2,rfl,k' q H2 m⟩
 refine ZGC (h₀:=X.base) I.ok.mod.kin hk (thn (ZaL (ha r d1 hd1) (ZaL lamPE Zca he2) he pos pins s σ H (λvs H2=>∃v1 F1 H1 q,vs=[v1,.ref q]/\Ext F H F1 H1/\Rep X.K F1 d1 v1/\Made X params body scope H1 H2 q clos) I
  ⟨F0,H0,F,at_,λv F1 H1 x1 r1=>⟨at_.tbx x1,λq H2 m=>⟨v,F1,H1,q,rfl,x1,r1,m⟩⟩⟩) λus s2 ⟨vs,H2,I2,rv,v1,F1,H1,q,ev,x1,r1,m⟩=>⟨I2.kIn,?_⟩) he hpl
 subst ev;have at1:=at_.grow x1;have tb1:=at_.tbx x1;have nt1:=at_.ntx x1;generalize hCs:cellsOf clos=Cs;have hCm:∀a,a∈Cs↔∃y,clos.lookup y=Z a:=λa=>by rw[<-hCs]; exact Zny
 have hCc:∀a∈Cs,∃y o v,X.env.cells.lookup y=Z a/\s2.heap.get? a=Z o/\o.data=.cell v/\H2 a=Z_:=λa ha=>by obtain⟨y,e⟩:=(hCm a).mp ha;have e1:=hc1 y a e;obtain⟨v,o,h1,h2⟩:=I2.cell y a e1;exact⟨y,o,v,e1,h1,h2,I2.freeC y a e1⟩
 generalize hG:(λa:Addr=>(s2.heap.get? a).map (Zbu a))=G;have hGo:∀{a:Addr} {o:Obj},s2.heap.get? a=Z o->G a=Z (Zbu a o):=λ{a o} e=>by rw[<-hG]; show ZCJ _ _=_; rw[e]; rfl
 generalize hH3:ZhZ Cs G H2=H3;have h3in:∀{a:Addr},a∈Cs->∃o v,H3 a=Z (Zbu a o)/\s2.heap.get? a=Z o/\o.data=.cell v:=λ{a} ha=>by obtain⟨y,o,v,_,g1,g2,_⟩:=hCc a ha;exact⟨o,v,by rw[<-hH3,Zfn ha]; exact hGo g1,g1,g2⟩
 have h3out:∀{a:Addr},a ∉ Cs->H3 a=H2 a:=λ{a} ha=>by rw[<-hH3,Zbt ha]
 have s23:Zq H2 H3:=λb o z=>by rw[h3out λhb=>by obtain⟨_,_,_,_,_,_,g⟩:=hCc b hb;rw[g]at z; cases z];exact z
 have cge:∀a∈Cs,X.s₀.heap.objs.size<=a:=λa ha=>by obtain⟨y,_,_,e1,_⟩:=hCc a ha;exact I.ok.cab y a (L.own y) e1
 have hok3:HOk X.prog X.w H3 s2.heap:=by rw[<-hH3];refine HOk.put I2.hok (λa ha=>by obtain⟨_,_,_,_,_,_,g⟩:=hCc a ha; exact g) λa ha u e=>?_;obtain⟨y,o,v,_,g1,g2,_⟩:=hCc a ha;rw[hGo g1]at e; cases e;exact⟨o,rfl,g1⟩
 have E2:=I2.env0;have cfr:∀b∈frs X.stack,b ∉ Cs:=λb hb hc=>by
  obtain⟨y,o,v,e1,g1,g2,_⟩:=hCc b hc;rcases ZBq.mp (I2.stkSub b hb)with z | z
  ·exact I2.cne y b e1 z
  ·obtain⟨_,o',ho',_⟩:=I.ok.funs.mem z
   exact absurd (ZBK (ZBt ho') (cge b hc)) (ZC1 _)
 have E3:Zfp X.prog X.w X.K X.mg X.base X.A X.stack s2 H3:=⟨E2.frames,E2.mod,λb o z=>⟨(E2.bs b o z).1,by rw[h3out λhb=>absurd (ZBK (ZBt z) (ZCh I.ok.bsz (cge b hb))) (ZC1 _)];exact(E2.bs b o z).2⟩,E2.bsz,E2.funs,λb hb=>by rw[h3out (cfr b hb)]; exact E2.frf b hb,hok3,E2.bare⟩;have s12:Zq F1 H2:=λb o z=>m.hh.ntb (x1.sub b o z) (nt1 b o z);have s13:Zq F1 H3:=s12.trans s23;have ff:Zq F1 (Zfk F1 H3):=λb o z=>Zxf s13 z;have s33:Zq (Zfk F1 H3) H3:=λb o z=>by
  rcases Zlo z with⟨w,_⟩ | w
  ·exact w
  ·exact s13 b o w
 have nt3:NoT (Zfk F1 H3):=λb o z=>by
  rcases Zlo z with⟨w1,w2⟩ | w
  ·unfold Zfk at z
   split at z
   ·cases z; rfl
   ·exact nt1 b o z
  ·exact nt1 b o w
 have tb3:Tb H3:=m.tb.same s23;obtain⟨pm,ctv,c,oc,m1,m2,m3⟩:=m.ex;obtain⟨cl1,cl2⟩:=Zo8 hcs;have clo:Clo X.K (Zfk F1 H3) q params body scope names cs:=by
  refine⟨_,pm,ctv,c,oc,clos,ZiW (s23 _ _ m1),ZiW (s23 _ _ m2),m3,λy z a g1 g2=>I.ok.inj y z a (hc1 y a g1) (hc1 z a g2),hc2,λy a g=>?_,by rw[cl1,L.len],λj y dj g1 g2=>?_⟩
  ·obtain⟨o,v,w1,w2,w3⟩:=h3in ((hCm a).mpr ⟨y,g⟩)
   exact⟨o,v,ZiW w1,w3⟩
  ·have hj:j<is.length:=by rw[L.len]; exact(ZBr.mp g1).1
   obtain⟨dj',g3,g4⟩:=cl2 j is[j] (ZBu hj);rw[g2]at g3;cases g3;obtain⟨hN,hkind⟩:=L.at_ j is[j] y (ZBu hj) g1;obtain⟨v,w1,w2⟩:=at1.plain g4;obtain⟨mm,_,hloc⟩:=I2.loc;obtain⟨u,ru,lk⟩:=hloc is[j] y v hN w1 (.inr (.inl hkind));have hfr:=hc2 _ (L.free y (ZBN g1)) rfl;obtain⟨a,hal⟩:=ZBM.mp hfr;rcases lk with⟨k1,_⟩ | ⟨_,a',k1,o,k2,k3⟩
   ·rw[show X.env.kindOf y=Z .cell from hkind]at k1; cases k1
   ·rw[hc1 y a hal]at k1
    cases k1;obtain⟨o',v',z1,z2,z3⟩:=h3in ((hCm a).mpr ⟨y,hal⟩);rw[k2]at z2;cases z2;refine⟨a,o,u,v,hal,ZiW z1,k3,ru,Rep.cutF (λb ob z _=>ff b ob z) w2 20 ?_⟩;exact ZBj.mp hnc dj (ZBN g2)
 have fv:=L.good _ _ _ clo;have hlen:=hl _ _ hM;refine ZFJ (ZDi (FN.run X.A X.stack s2 H3 ⟨us,[]⟩ us [v1,.ref q] (λv H4=>∃F4,Ext (Zfk F1 H3) H3 F4 H4/\Rep X.K F4 d v) E0 hr E3 (by
  have:=hb s2 us I2.kIn (by rw[ZBW,<-rv.length]; exact hlen)
  rwa [ZBW]at this) rv ⟨Zfk F1 H3,_,d,hlen,s33,tb3,nt3,.cons (r1.mono ff) (.one (.fn fv)),hM,λv F4 H4 x4 q4=>⟨F4,x4,q4⟩⟩) λrs s4 hq=>?_)
 cases rs with
 | error e=>exact ZCb hq
 | ok fl =>
  cases fl with
  | next=>exact ZCb hq
  | brk=>exact ZCb hq
  | cont=>exact ZCb hq
  | ret u =>
   obtain⟨v,H4,os,bare,un,hok4,ru,F4,x4,q4⟩:=hq;have c4:∀{a:Addr},a∈Cs->∃o v,H4 a=Z (Zbu a o)/\s2.heap.get? a=Z o/\s4.heap.get? a=Z o/\o.data=.cell v:=λ{a} ha=>by obtain⟨o,v,w1,w2,w3⟩:=h3in ha;have w4:H4 a=Z (Zbu a o):=x4.hh.ntb w1 rfl;exact⟨o,v,w4,w2,Zcp (hok4 a _ w4),w3⟩
   have out4:∀{b:Addr} {o:HO},H2 b=Z o->b ∉ Cs:=λ{b o} z hb=>by obtain⟨_,_,_,_,_,_,g⟩:=hCc b hb;rw[g]at z; cases z
   generalize hF5:(λb:Addr=>match F4 b with | some o=>if te o=ZGH then F1 b else Z o | none=>Z_)=F5;have f5:∀{b:Addr} {o:HO},F5 b=Z o->(F4 b=Z o/\te o=ZGI)\/F1 b=Z o:=λ{b o} z=>by
    rw[<-hF5]at z;dsimp only at z;split at z
    ·rename_i o' w
     split at z
     ·exact .inr z
     ·rename_i n
      cases z;exact .inl ⟨w,by simpa using n⟩
    ·cases z
   have f5a:∀{b:Addr} {o:HO},F4 b=Z o->te o=ZGI->F5 b=Z o:=λ{b o} z n=>by rw[<-hF5]; dsimp only; rw[z]; dsimp only; rw[if_neg (by rw[n]; simp)]
   have f5b:∀{b:Addr} {o:HO},F1 b=Z o->F5 b=Z o:=λ{b o} z=>by
    have w:=x4.ff b o (ff b o z)
    by_cases n:te o=ZGH
    ·rw[<-hF5]; dsimp only; rw[w]; dsimp only; rw[if_pos n]; exact z
    ·exact f5a w (by simpa using n)
   have sub5:Zq F5 (Zbi Cs H4):=λb o z=>by
    rcases f5 z with⟨w,n⟩ | w
    ·rw[Zas λhb=>by
      obtain⟨_,_,g,_⟩:=c4 hb;rw[x4.sub b o w]at g; cases g; cases n]
     exact x4.sub b o w
    ·rw[Zas (out4 (s12 b o w))]
     exact x4.sub b o (x4.ff b o (ff b o w))
   refine I2.after ⟨v,Zbi Cs H4,os,bare,⟨λb o e n hb hx=>?_,λb o e n hb hx=>?_,λb o e n hx=>?_,un.there,λb xs e=>?_,λb o w e=>?_,λb pp e=>?_⟩,HOk.cut hok4 (λa ha o e=>?_),ru,kk v F5 (Zbi Cs H4) (x1.trans ⟨λb o z=>f5b z,λb o z=>?_,sub5,λb o z=>?_,λtb=>?_,λ_ b o z=>?_⟩) ((Rep.cutF (λb o z n=>f5a z n) q4 20 hnd).up)⟩
   ·by_cases hc:b∈Cs
    ·obtain⟨o',_,_,w2,w3,_⟩:=c4 hc
     rw[e]at w2; cases w2; exact w3
    ·exact un.keep b o e (by rw[h3out hc]; exact n) hb hx
   ·exact un.slot b o e (by rw[h3out (cfr b hb)]; exact n) hb hx
   ·by_cases hc:b∈Cs
    ·exact Zih hc
    ·rw[Zas hc]; exact un.free b o e (by rw[h3out hc]; exact n) hx
   ·rw[Zas (out4 e)]; exact un.tups b xs (s23 _ _ e)
   ·rw[Zas (out4 e)]; exact un.frzs b o w (s23 _ _ e)
   ·rw[Zas (out4 e)]; exact un.tbls b pp (s23 _ _ e)
   ·obtain⟨o',_,g,_⟩:=c4 ha
    rw[g]at e; cases e; rfl
   ·-- tracked things stay
    have z2:=m.hh b o z;have key:∀{u:HO},H2 b=Z u->Zdm (Zbi Cs H4) b u:=λ{u} w=>(x4.hh b u (s23 b u w)).cong (Zas (out4 w));cases o<;>first | exact key z2 | (obtain⟨pp,w⟩:=z2; exact(show ∃ps',_ from key w))
   ·rcases f5 z with⟨w,n⟩ | w
    ·rcases x4.new b o w with y | y
     ·rcases Zlo y with⟨_,y2⟩ | y2
      ·rw[n]at y2; cases y2
      ·exact .inl y2
     ·refine .inr ?_
      have hcb:b ∉ Cs:=λhb=>by
       obtain⟨o',_,g,_⟩:=h3in hb;rcases y with y | ⟨xs,_,y⟩
       ·rw[g]at y; cases y
       ·rw[g]at y; cases y
      rcases y with y | ⟨xs,y1,y2⟩
      ·rw[h3out hcb]at y
       exact .inl (m.hh.free y)
      ·rw[h3out hcb]at y2
       cases w1:H1 b with
       | none=>exact .inl w1
       | some u =>
        have:=m.hh.back w1 y2 λ_ q=>by cases q
        subst this;exact .inr ⟨xs,y1,w1⟩
    ·exact .inl w
   ·refine(x4.tab tb3).cut hok4 λa ha=>?_
    obtain⟨o,v',g1,_,_,g4⟩:=c4 ha;exact⟨o,v',g1,g4⟩
   ·rcases f5 z with⟨w,_⟩ | w
    ·exact x4.nts nt3 b o w
    ·exact nt1 b o w
end
end
end HP
namespace HP
open PySem
open Sem (wp)
open AutoSeq1 (wpAny_loadPart')
variable{it:Addr}{A:Around}{items:Array Value}{i:Nat}{prog:Program}{Q:Value->Shared->Prop}{w:World}
section
variable{prog:Program}{w:World}{A:Around}{E:Value->Shared->Prop}{s:Shared}
theorem ZuU{t:Addr}{x:Value}(hit:s.heap.IsTupleIter it t i)(ht:s.heap.IsTuple t items)(hx:items[i]?=Z x)(hQ:∀h',h'.IsTupleIter it t (i+1)->ZC5 it s.heap h'->Q x { s with heap:=h' }):wpAny (model prog w) A (ZDL (.ref it)) Q E s:=by obtain⟨⟨o,ho,hc,hd⟩,⟨ot,hot,_,nt,hdt⟩⟩:=And.intro (id hit) ht;unfold ZDL;refine ZBa (wpAny_callSpecial?_slot (name:=ZBY "__next__") hit.typeIs F.slot_tuple_iterator_next (ZCj F.slot_tuple_iterator_next hit.typeIs F.entry_tuple_iterator_next ?_ (F.args_tuple_iterator_next_1 _)));show wpAny _ _ (field (.ref it) 0 >>= _) _ _ s; refine ZBa (ZEj ho hd (x:=.ref t) rfl ?_); show wpAny _ _ (if(ZB2 t==ZCf)=ZGH then _ else _) _ _ s; rw[if_neg (λz=>by cases z)];show wpAny _ _ (field (.ref it) 1 >>= _) _ _ s; refine ZBa (ZEj ho hd (x:=.int i 0) rfl ?_); show wpAny _ _ (seqItems? (.ref t) >>= _) _ _ s; refine ZBa (ZEz hot hdt ?_); simp only[ZCd,hx];exact ZBa (ZDN ho hd (by simp) (ZBe ⟨x,rfl,ZBe (hQ _ ⟨_,ZCk _ ho (ZD7 (ZCA hd _)),(ZEH ..).trans hc,by rw[ZCA hd]; simp[rawInt]⟩ (ZCi ..))⟩))
theorem Zxh{t:Addr}(hh:A.handled=Z_)(hit:s.heap.IsTupleIter it t i)(ht:s.heap.IsTuple t items)(hx:items[i]?=Z_)(hE:∀h' e,Heap.ExtBut it s.heap h'->(∃o,h'.get? e=Z o/\o.cls=.type "StopIteration")->E (.ref e) { s with heap:=h' }):wpAny (model prog w) A (ZDL (.ref it)) Q E s:=by
 obtain⟨⟨o,ho,hc,hd⟩,⟨ot,hot,_,nt,hdt⟩⟩:=And.intro (id hit) ht;unfold ZDL;refine ZBa (wpAny_callSpecial?_slot (name:=ZBY "__next__") hit.typeIs F.slot_tuple_iterator_next (ZCj F.slot_tuple_iterator_next hit.typeIs F.entry_tuple_iterator_next ?_ (F.args_tuple_iterator_next_1 _)));show wpAny _ _ (field (.ref it) 0 >>= _) _ _ s; refine ZBa (ZEj ho hd (x:=.ref t) rfl ?_); show wpAny _ _ (if(ZB2 t==ZCf)=ZGH then _ else _) _ _ s; rw[if_neg (λz=>by cases z)];show wpAny _ _ (field (.ref it) 1 >>= _) _ _ s; refine ZBa (ZEj ho hd (x:=.int i 0) rfl ?_); show wpAny _ _ (seqItems? (.ref t) >>= _) _ _ s; refine ZBa (ZEz hot hdt ?_); simp only[ZCd,hx];refine ZBa (ZE6 (ZBa (ZDN ho hd (by simp) ?_))); show wpAny _ _ (newExc (.type "StopIteration") [] >>= _) _ _ _; refine ZBa ?_; simp only[newExc,newTuple];refine ZBa (ZBV (ZBa (m:=ZD8 _ _) (ZFj (a:=ZCf) (by first | rfl | (simp only[ZD8]; rfl)) (ZBV ?_ (by size_fits)))) (by size_fits))
 simp only[raiseNew]; refine ZBa (wpAny_handled ?_); first | rw[show A.in1.handled=Z_ from hh] | rw[hh]
 exact ZBa (ZBe (wpAny_throw (hE _ _ (((ZCi ..).extBut.push _).push _) ⟨_,ZBw _ rfl,rfl⟩)))
end
theorem Znw(hh:A.handled=Z_)(it t:Addr)(hne:t≠it)(items:Array Value):Draws prog w A it [it,t] items.size (λi v=>items[i]?=Z v) (λi h=>h.IsTupleIter it t i/\h.IsTuple t items) where
 live:=λ_ _ st=>let ⟨o,ho,_⟩:=st.1; ⟨o,ho⟩
 frame:=λ_ _ _ ⟨⟨o,ho,r⟩,o2,ho2,r2⟩ hk=>⟨⟨o,hk it (by simp) o ho,r⟩,o2,hk t (by simp) o2 ho2,r2⟩
 item:=λi s Q E hi st hQ=>ZuU st.1 st.2 (x:=items[i]) (by simp[hi]) λh' a b=>hQ _ h' s.toks (by simp[hi]) ⟨a,st.2.extBut b.extBut hne⟩ b
 done:=λs Q E st hE=>Zxh hh st.1 st.2 (by simp) hE
theorem Zra(l:Addr)(items:Array Value)(n:Nat)(dct:Option Addr)(sl:Array (Option Value)):Meets (Builtin.«enumerate.__new__» ⟨[.type "enumerate",.ref l],[]⟩) (λ_ R s=>s.heap.get? l=Z { cls:=.type "tuple",dict:=dct,data:=.seq items n,slots:=sl } /\
  R (.ok (.ret (.ref (s.heap.push { cls:=.type "tuple_iterator",data:=.fields #[.ref l,.int 0 0] }).objs.size))) { s with heap:=(s.heap.push { cls:=.type "tuple_iterator",data:=.fields #[.ref l,.int 0 0] }).push { cls:=.type "enumerate",data:=.fields #[.none,.bool ZGI,.ref s.heap.objs.size,rawInt 0,.none,.none] } }) :=
 .of_wp λprog w A R s h=>by
  cases s with
  | mk hp g d tk os =>
  obtain⟨hl,h⟩:=h; have hsub:=sub_enumerate;have hL:Heap.IsTuple (Shared.heap ⟨hp,g,d,tk,os⟩) l items:=⟨_,hl,rfl,n,rfl⟩
  wp_walk using wpAny_loadPart' hl
  refine wpAny_stack_any λst=>ZBe ?_;split
  ·rename_i c _ _ _ _ _
   cases(c==ZDg "enumerate")<;>(wp_walk using wpAny_loadPart' hl,ZEr hL; exact⟨_,rfl,h⟩)
  ·wp_walk using wpAny_loadPart' hl,ZEr hL; exact⟨_,rfl,h⟩
theorem ZsT{E:Value->Shared->Prop}{s:Shared}{l:Addr}(hL:s.heap.IsTuple l items)
  (h:∀h',IsEnum h' (s.heap.objs.size+1) s.heap.objs.size 0 .none->h'.IsTupleIter s.heap.objs.size l 0->h'.objs.size=s.heap.objs.size+2->(∀b o,s.heap.get? b=Z o->h'.get? b=Z o)->Q (.ref (s.heap.objs.size+1)) { s with heap:=h' }):wpAny (model prog w) A (call (.type "enumerate") [.ref l]) Q E s:=by
 obtain⟨⟨c,dct,dt,sl⟩,hl,hc,n,hd⟩:=hL; replace hc:c=.type "tuple":=hc; replace hd:dt=.seq items n:=hd; subst hc hd;refine callType_new F.called_enumerate (by decide) (F.typeCall_enumerate_1 _) (F.newCall_enumerate_1 _) (λobj=>F.args_object_init_2 obj _) F.entry_enumerate_new (Zra l items n dct sl) ⟨hl,?_⟩;generalize hG:s.heap.push { cls:=.type "tuple_iterator",data:=.fields #[.ref l,.int 0 0] }=g;have hz:g.objs.size=s.heap.objs.size+1:=by rw[<-hG]; exact ZDd ..
 show _/\_;rw[hz];have he:IsEnum (g.push { cls:=.type "enumerate",data:=.fields #[.none,.bool ZGI,.ref s.heap.objs.size,rawInt 0,.none,.none] }) (s.heap.objs.size+1) s.heap.objs.size 0 .none:=by rw[<-hz]; exact ZBw g rfl
 exact⟨⟨_,he,rfl⟩,h _ he ⟨_,ZBg _ (by rw[<-hG]; exact ZBw _ rfl),rfl,rfl⟩ (by rw[ZDd,hz]) λb o x=>ZBg _ (by rw[<-hG]; exact ZBg _ x)⟩
end HP
namespace HP
open PySem PySem.Spec PyProof.Rows L2
variable{a c f:Addr}{A:Around}{body:Expr}{fd:FuncData}{base:Heap}{F H:Hp}{tabs:List (Addr × Addr)}{outer:List Env}{N names:List Str}{P:Program}{K:ZBd}{scope:Scope}{s:Shared}{st:Stmt}{qual x:Str}{mg:Str->Option Value}{w:World}
section
structure ZpI(K:ZBd)(x qual:Str)(st:Stmt)(f:Addr)(fd:FuncData)(c:Addr):Prop where
 ex:∃(oc:Value) (od:Option Addr) (kV doc pm:Value) (an:Option Addr) (ct:Value) (osl:Array (Option Value)),
  fd=ZCK x qual (Zcg st) (ZaS st) (Ze st) .none kV doc pm an (.ref c) ct/\K.lookup f=Z ⟨oc,od,.func fd,osl⟩/\ZDq K (.ref c) qual=ZGH
 kp:ZCO K (.ref f)=ZGH
theorem Zw0{oc:Value}{od an:Option Addr}{osl:Array (Option Value)}{kV doc pm ct:Value}(l:K.lookup f=Z ⟨oc,od,.func (ZCK x qual (Zcg st) (ZaS st) (Ze st) .none kV doc pm an (.ref c) ct),osl⟩)
  (h:ZDq K (.ref c) qual=ZGH) (k:ZCO K (.ref f)=ZGH):ZpI K x qual st f (ZCK x qual (Zcg st) (ZaS st) (Ze st) .none kV doc pm an (.ref c) ct) c:=⟨⟨oc,od,kV,doc,pm,an,ct,osl,rfl,l,h⟩,k⟩
section
variable[FX]
theorem Zmc{k:Nat}{ps:List Str}{g:HM.SF}(Fn:ZpI K x qual st f fd c)(S:Zr N ps (Ze st))(hm:mg x=Z (.ref f))(hb:Binds K fd ps [])
  (body:∀(A:Around) (outer:List Env) (s:Shared) (H:Hp) (E:XK),Zav k (A.deeper (envOfC qual (Ze st) s.heap.objs.size f (.ref c)))->XSs (Zf8 CX0 P w K mg base N qual (Ze st) f (.ref c) A outer s H E).nox (ZaS st) g) :
  Callee P w K mg base (k+1) x (HM.fnOf ps.length N.length g):=by
 have hpl:ps.length<=N.length:=by have:=congrArg ZB7 S.pre; rw[ZB1]at this; omega
 refine⟨f,fd,ps,λds d h=>?_,?_,hm,Fn.kp,hb⟩
 ·unfold HM.fnOf at h
  split at h
  ·assumption
  ·cases h
 ·obtain⟨oc,od,kV,doc,pm,an,ct,osl,rfl,lk,hcd⟩:=Fn.ex
  refine Zwn lk hcd S (λvs H Q E h=>by obtain⟨_,_,_,h,_⟩:=h; exact h) λA outer s H vs Q E hr h=>?_;obtain⟨F,ds,d,hl,sub,tb,nt,q,hM,kk⟩:=h;unfold HM.fnOf at hM;split at hM
  ·rename_i hds
   have a0:=ZgZ (N:=N) sub tb nt q (by omega);split at hM
   ·rename_i r hr'
    cases hM;exact⟨_,(body A outer s H E hr _ _ hr').nox,F,H,F,a0,λσ F' H' a'=>kk .non F' H' a'.ext .non⟩
   ·rename_i d' hr'
    cases hM;exact⟨_,(body A outer s H E hr _ _ hr').nox,F,H,F,a0,λv F' H' x q=>kk v F' H' x q⟩
   ·cases hM
  ·cases hM
def Zom(N:List Str)(sc scope:Scope)(names:List Str)(is:List Nat):Bool :=
 decide (is.length=names.length)&&(is.zip names).all (λq=>decide (N[q.1]?=Z q.2)&&decide (sc.names.lookup q.2=Z .cell))&&scope.names.all (λy=>decide (y.2≠.free)||decide (sc.names.lookup y.1=Z .cell))&&names.all λx=>decide ((x,ZDE)∈scope.names)
theorem Zqt{X:Cx}{t:Nat}{params:Arguments}{sc:Scope}{is:List Nat}{T:Addr}{q:Str}(ck:Zom N sc scope names is=ZGH)(h1:ZCM X.K c T=ZGH)(h2:(T,q)∈FX.tl)(h3:∀q',(T,q')∈FX.tl->q'=q)(bm:BMod X.base X.mg)
  (good:∀F p cs,Clo X.K F p params body scope names cs->FX.fv t cs F p) (hN:X.N=N:=by rfl) (hs:X.env.scope=sc:=by rfl) (hc:X.env.code=.ref c:=by rfl) (hq:X.env.qual ++ "<lambda>" = q:=by rfl) (hd:defaultsOf params X.env=([],[]):=by rfl) (ho:∀x,X.fn x=ZGH:=by exact λ_=>rfl) :
  Zse X t params body scope names is:=by
 unfold Zom at ck;rw[ZBx,ZBx,ZBx]at ck;obtain⟨⟨⟨k1,k2⟩,k3⟩,k4⟩:=ck;refine⟨⟨c,T,hc,h1,by rw[hq]; exact h2,λq' z=>by rw[hq]; exact h3 q' z⟩,bm,hd,of_decide_eq_true k1,λj i x e1 e2=>?_,λy hy hf=>?_,λx hx=>?_,ho,good⟩
 ·have:(i,x)∈is.zip names:=ZBN (i:=j) (by rw[List.getElem?_zip_eq_some]; exact⟨e1,e2⟩)
  have:=ZBj.mp k2 _ this;rw[ZBx]at this;rw[hN,hs];exact⟨of_decide_eq_true this.1,of_decide_eq_true this.2⟩
 ·have:=ZBj.mp k3 y hy
  rw[ZCq]at this;rw[hs];rcases this with z | z
  ·exact absurd hf (of_decide_eq_true z)
  ·exact of_decide_eq_true z
 ·exact of_decide_eq_true (ZBj.mp k4 x hx)
theorem ZmO(Fn:Fun K x qual st f fd)(hm:mg x=Z (.ref f))(ha:mg x=Z (.ref a))(e0:Zfp P w K mg base A outer s H):ZGE a s.heap:=by rw[hm]at ha;cases ha;obtain⟨oc,od,kV,doc,pm,an,cdv,ct,osl,rfl,lk,hcd⟩:=Fn.ex;have KX:K.In s.heap:=e0.mod.kin.keeps λb o e=>(e0.bs b o e).1;exact⟨_,_,_,_,KX _ _ lk⟩
theorem ZlB{k:Nat}{M:List PyData->Option PyData}(C:Callee P w K mg base k x M)(ha:mg x=Z (.ref a))(e0:Zfp P w K mg base A outer s H)(sub:Zq F H)
  {us:List Value} {vs:List V} {ds:List PyData} {d:PyData} {Q:VK} (hr:Zav k A) (tb:Tb H) (nt:NoT F) (rv:Vals vs us) (rs:Zt K F ds vs) (hM:M ds=Z d) (kk:∀v F' H',Ext F H F' H'->Rep K F' d v->Q v H') :
  codeAny (model P w) A (.call (.ref a) ⟨us,[]⟩) (CR CX0 outer P w H s Q E0) s:=by
 obtain⟨f,fd,ps,hl,FN,hm,hk,hb⟩:=C.ex;rw[hm]at ha;cases ha;have KX:K.In s.heap:=e0.mod.kin.keeps λb o e=>(e0.bs b o e).1;have hlen:vs.length=ps.length:=by rw[<-rs.1]; exact hl _ _ hM
 refine FN.run A outer s H ⟨us,[]⟩ us vs Q E0 hr e0 ?_ rv ⟨F,ds,d,hlen,sub,tb,nt,rs,hM,kk⟩;have:=hb s us KX (by rw[ZBW,<-rv.length]; exact hlen)
 rwa [ZBW]at this
end
def Zog(tabs:List Addr)(H:Hp):Prop:=(∀b,H b=Z_\/(∃o xs,H b=Z (.frz o (.lst xs)))\/H b=Z (.tbl #[]))/\∀T∈tabs,H T=Z (.tbl #[])
theorem ZtD{mb:Str->Option Value}{k:Nat}{fa:Addr}{sp:Sp}{s₁:Shared}{vs:List Value}{ns:List Int}
  (hT:∀q∈tabs,ZCM K q.1 q.2=ZGH/\K.lookup q.2=Z_/\s₁.heap.get? q.2=Z (ZEa #[]))
  (KX:K.In s₁.heap) (hns:s₁.heap.Ns ZBT mg) (hb:s₁.heap.Ns ZFI mb) (hbb:∀x:Str,x ≠ "__name__"->mb x=ZCg x) (hlim:s₁.heap.NoLimit) (hg:s₁.gens=#[])
  (ha:s₁.heap.get? a=Z { cls:=.type "list",data:=.seq vs.toArray }) (hi:IntsAre vs ns) (hl:ns.length<=sizeLine) (hr:Zav k callerA)
  (hbm:PyProof.Rows.BMain s₁.heap mg) (F:∀base:Heap,K.In base->base.Ns ZBT mg->BMod base mg->ZdH P w K mg base CX0 k fa fd [x] sp) (hbind:∀(s:Shared) (u:Value),BindsTo s fd ⟨[u],[]⟩ [(x,u)])
  (hsp:∀H:Hp,Zog (tabs.map (·.2)) H->SqL K H a (ns.map V.int)->sp [.ref a] H (λv _=>v=.bl ZGH) λ_ _ _=>False) :
  codeAny (model P w) callerA (.call (.ref fa) ⟨[.ref a],[]⟩) (λr s'=>r=.ok (.ret (.bool ZGH))/\OldK s₁.heap s'.heap/\s'.os=s₁.os/\AllBare s'.gens) s₁:=by
 have rv:=Zns hi;have lenV:=hi.length;have tne:∀q∈tabs,q.2≠a:=λq hq z=>by have:=(hT q hq).2.2;rw[z,ha]at this; cases this
 have core:∀oS:Option HO,(oS=Z_\/∃o xs,oS=Z (.frz o (.lst xs)))->(∀H:Hp,H a=oS->SqL K H a (ns.map V.int))->(∀H:Hp,∀u,oS=Z u->Zab P w H s₁.heap a u)->(oS≠Z_->K.lookup a=Z_) ->
   codeAny (model P w) callerA (.call (.ref fa) ⟨[.ref a],[]⟩) (λr s'=>r=.ok (.ret (.bool ZGH))/\OldK s₁.heap s'.heap/\s'.os=s₁.os/\AllBare s'.gens) s₁:=by
  intro oS hO hS hok0 hK;generalize hH:(λb:Addr=>if b=a then oS else if b∈tabs.map (·.2)then Z (HO.tbl #[])else Z_)=H;have Ha:H a=oS:=by rw[<-hH]; exact if_pos rfl
  have Ht:∀T∈tabs.map (·.2),H T=Z (.tbl #[]):=λT hT'=>by obtain⟨q,hq,e⟩:=ZBh.mp hT';rw[<-hH];show(if T=a then oS else if T∈tabs.map (·.2)then Z (HO.tbl #[])else Z_)=_;rw[if_neg (by rw[<-e]; exact tne q hq),if_pos hT']
  have Hc:∀b u,H b=Z u->(b=a/\oS=Z u)\/(b∈tabs.map (·.2)/\u=.tbl #[]):=λb u e=>by
   rw[<-hH]at e;dsimp only at e;split at e
   ·rename_i h; exact .inl ⟨h,e⟩
   ·split at e
    ·rename_i h; cases e; exact .inr ⟨h,rfl⟩
    ·cases e
  have tget:∀T∈tabs.map (·.2),s₁.heap.get? T=Z (ZEa #[])/\K.lookup T=Z_/\∃c,ZCM K c T=ZGH:=λT hT'=>by obtain⟨q,hq,e⟩:=ZBh.mp hT';subst e;exact⟨(hT q hq).2.2,(hT q hq).2.1,q.1,(hT q hq).1⟩
  have hok:HOk P w H s₁.heap:=λb u e=>by
   rcases Hc b u e with⟨rfl,e'⟩ | ⟨h,rfl⟩
   ·exact hok0 H u e'
   ·exact(tget b h).1
  have base_of:∀{b:Addr} {o:Obj},s₁.heap.get? b=Z o->H b=Z_->(ZhU s₁.heap H).get? b=Z o:=λe n=>Zvo e n;have noA:∀{b:Addr} {o:Obj} {es:Array DictEntry} {ep:Nat},s₁.heap.get? b=Z o->o.data=.dict es ep->H b=Z_:=λ{b o es ep} e d=>by
   cases q:H b with
   | none=>rfl
   | some u =>
    rcases Hc b u q with⟨rfl,_⟩ | ⟨h,_⟩
    ·rw[ha]at e; cases e
     have d':Data.seq vs.toArray _=Data.dict es ep:=d;cases d'
    ·rw[(tget b h).1]at e; cases e; cases d
  have nsK:∀{b:Addr} {m:Str->Option Value},s₁.heap.Ns b m->(ZhU s₁.heap H).Ns b m:=λ{b m} ⟨o,es,ep,e,d,r⟩=>⟨o,es,ep,base_of e (noA e d),d,r⟩;have hKb:K.In (ZhU s₁.heap H):=λb o e=>base_of (KX b o e) (by
   cases q:H b with
   | none=>rfl
   | some u =>
    rcases Hc b u q with⟨rfl,e'⟩ | ⟨h,_⟩
    ·rw[hK (by rw[e']; simp)]at e; cases e
    ·rw[(tget b h).2.1]at e; cases e)
  have hM:Mod K mg (ZhU s₁.heap H):=⟨hKb,nsK hns,⟨mb,nsK hb,hbb⟩,let ⟨mc,h1,h2⟩:=hlim; ⟨mc,nsK h1,h2⟩⟩;have e0:Zfp P w K mg (ZhU s₁.heap H) callerA [] s₁ H:=⟨rfl,hM,λb o e=>Zxb e,ZE4 (ZuC _ _),trivial,λb hb=>absurd (show b∈([]:List Addr) from hb) (by simp),hok,.of_eq hg⟩;have hOT:Zog (tabs.map (·.2)) H:=⟨λb=>by
   cases q:H b with
   | none=>exact .inl rfl
   | some u =>
    rcases Hc b u q with⟨_,e'⟩ | ⟨_,rfl⟩
    ·rcases hO with z | ⟨o,xs,z⟩
     ·rw[z]at e'; cases e'
     ·rw[z]at e'; cases e'; exact .inr (.inl ⟨o,xs,rfl⟩)
    ·exact .inr (.inr rfl),Ht⟩
  have hBM:BMod (ZhU s₁.heap H) mg:=by
   obtain⟨bm,ob,b1,b2,b3,b4,b5,b6⟩:=hbm;refine⟨bm,ob,b1,b2,λz=>?_,base_of b3 ?_,b4,b5,b6⟩
   ·obtain⟨o,es,ep,e,d,_⟩:=hns
    rw[z,e]at b3; cases b3; rw[b6]at d; cases d
   ·cases q:H bm with
    | none=>rfl
    | some u =>
     rcases Hc bm u q with⟨z,_⟩ | ⟨h,_⟩
     ·rw[z,ha]at b3; cases b3; exact absurd (show(ZDg "list":Value)=.type "module" from b4) (by decide)
     ·rw[(tget bm h).1]at b3; cases b3; cases b4
  refine ZDi ((F _ hKb (nsK hns) hBM).run callerA [] s₁ H ⟨[.ref a],[]⟩ [.ref a] [.ref a] _ _ hr e0 (hbind s₁ (.ref a)) (.cons rfl .nil) (hsp H hOT (hS H Ha))) λr s' h=>?_;cases r with
  | error e=>exact ZCb h
  | ok fl =>
   cases fl with
   | next=>exact ZCb h
   | brk=>exact ZCb h
   | cont=>exact ZCb h
   | ret u =>
    obtain⟨v,H',os,bare,un,hok',r',q⟩:=h;have q':v=.bl ZGH:=q;subst q';obtain rfl:u=Value.bool ZGH:=r';refine⟨rfl,⟨λb o e=>?_,λb o e=>un.there b o e (by simp)⟩,os,bare⟩;cases q:H b with
    | none=>exact .inl (un.keep b o e q (by intro z; exact absurd (show b∈([]:List Addr) from z) (by simp)) (by simp))
    | some u =>
     rcases Hc b u q with⟨rfl,e'⟩ | ⟨h,rfl⟩
     ·rcases hO with z | ⟨ob,xs,z⟩
      ·rw[z]at e'; cases e'
      ·rw[z]at e'; cases e'
       have z2:=un.frzs _ ob _ q;obtain⟨e1,_⟩:=hok _ _ q;obtain⟨e2,_⟩:=hok' _ _ z2;rw[e]at e1; cases e1;exact .inl e2
     ·obtain⟨g1,_,c,g3⟩:=tget b h
      rw[g1]at e; cases e;obtain⟨more,z2⟩:=un.tbls b _ q;have z3:s'.heap.get? b=Z { cls:=.none,data:=.fields (#[]++more) }:=hok' b _ z2;refine .inr (.inl ⟨((ZGz KX g3).tab g1).isCodeTable,rfl,#[],more,rfl,z3⟩)
 cases hk:K.lookup a with
 | some o=>have e:=KX a o hk;rw[ha]at e;cases e;exact core Z_ (.inl rfl) (λH _=>.inr ⟨_,vs.toArray,_,hk,rfl,rfl,rfl,by rw[ZBs,lenV]; exact hl,by simpa using rv⟩) (λH u z=>by cases z) λz=>absurd rfl z
 | none=>refine core (Z (.frz { cls:=.type "list",data:=.seq vs.toArray } (.lst (ns.map V.int)))) (.inr ⟨_,_,rfl⟩) (λH e=>.inl (.inr ⟨_,e⟩)) (λH u z=>?_) λ_=>hk;cases z;exact⟨ha,by rw[ZBb]; exact hl,vs,_,rv,ha⟩
theorem Zv8{l:ZGc}{n k:Nat}{q:Program}{loose:List Str}{XP:(Str->Option Value)->Heap->Prop}{YP:World->Heap->Prop}{d:DefRec}{K:Params->ZBd}{sp:World->Sp}
  (hn:l.most=Z n) (hn2:n<=sizeLine) (hdf:d.params.defaults=[]) (hr:Zav k callerA)
  (hY:∀(w:World) (h:Heap),YP w h->(K w.params).In h) (hYT:∀(w:World) (h:Heap),YP w h->∀q∈tabs,h.get? q.2=Z (ZEa #[]))
  (hT:∀(w:World),∀q∈tabs,ZCM (K w.params) q.1 q.2=ZGH/\(K w.params).lookup q.2=Z_)
  (F:∀(w:World) (mg:Str->Option Value) (fa:Addr) (h:Heap),(K w.params).In h->h.Ns ZBT mg->mg d.name=Z (.ref fa) ->
   ∃fd:FuncData,(∀(s:Shared) (u:Value),BindsTo s fd ⟨[u],[]⟩ [(x,u)]) /\
    ∀base:Heap,(K w.params).In base->base.Ns ZBT mg->BMod base mg->ZdH l.prog w (K w.params) mg base CX0 k fa fd [x] (sp w))
  (hsp:∀(w:World) (H:Hp) (a:Addr) (ns:List Int),ns.length<=n->Zog (tabs.map (·.2)) H->SqL (K w.params) H a (ns.map V.int)->sp w [.ref a] H (λv _=>v=.bl ZGH) λ_ _ _=>False) :
  PySem.W.WalkO q loose XP YP l.row.toRowW d [] (λf vs=>PySem.call f vs):=by
 refine Att.Zq7 hn hdf λw s₀ s₁ mg mb fa o pm cd doc a vs ns G Y ho hd hcd hmg hobj hints hlen hg=>?_;have KX:=hY w _ Y;obtain⟨fd,hb,hF⟩:=F w mg fa _ KX G.T.g hmg;exact ZtD (λq hq=>⟨(hT w q hq).1,(hT w q hq).2,hYT w _ Y q hq⟩) KX G.T.g G.T.b G.T.builtins G.T.nolimit hg hobj hints (ZCh hlen hn2) hr G.T.bmain hF hb λH hO hS=>hsp w H a ns hlen hO hS
end
section
def ZzM:Stmt->Option (Arguments × Expr × Scope)
 | .Return (Z (.Call _ [_,.Lambda a b s _] _ _)) _=>Z (a,b,s)
 | .Assign _ (.Call _ [_,.Lambda a b s _] _ _) _=>Z (a,b,s)
 | _=>Z_
def Zm2(st:Stmt):Arguments × Expr × Scope:=((ZaS st).findSome? ZzM).getD default
abbrev Zsb(st:Stmt):Arguments:=(Zm2 st).1
abbrev ZmX(st:Stmt):Expr:=(Zm2 st).2.1
abbrev Zf6(st:Stmt):Scope:=(Zm2 st).2.2
theorem Ztv{p:Addr}{params:Arguments}{cs:List PyData}
  (C:Clo K F p params body scope names cs) (e0:Zfp P w K mg base A outer s H) (sub:Zq F H):ZGE p s.heap:=by
 obtain⟨qual,pm,ctv,c,oc,clos,h1,_⟩:=C.ex;exact⟨_,_,_,_,Zcp (e0.hok p _ (sub _ _ h1))⟩
section
variable[FX]
theorem ZyY{K:ZBd}{M:List PyData->Option PyData}{H:Hp}{a:Addr}{ns:List Int}{tabs:List Addr}(hO:Zog tabs H)(ht:∀T q,(T,q)∈FX.tl->T∈tabs)(hS:SqL K H a (ns.map V.int))(hM:M [.list (HM.ofInts ns)]=Z (.bool ZGH)) :
  spD K 1 M [.ref a] H (λv _=>v=.bl ZGH) λ_ _ _=>False:=by
 refine⟨Zck H,[.list (HM.ofInts ns)],.bool ZGH,rfl,ZfU,λT q hT=>⟨#[],hO.2 T (ht T q hT),trivial,λpos c hc=>by cases hc⟩,.drop,.one (Rep.drop (.lst hS (ZfQ (K:=K) (F:=H) ns).1 (ZfQ ns).2)),hM,λv F1 H1 _ r=>r.bool_inv⟩
end
end
section
variable[FX]
section
variable{X:Cx}{a b:Expr}{fa fb:HM.EF}{pos:Pos}
def ZzO(K:ZBd):R2:=λv w H Q=>∃p q xs ys,v=.ref p/\w=.ref q/\SqT K H p xs/\SqT K H q ys/\xs.length+ys.length<=sizeLine/\(xs=[]->Q w H)/\(xs≠[]->ys=[]->Q v H)/\(xs≠[]->ys≠[]->∀z,H z=Z_->Q (.ref z) (upd H z (.tup (xs++ys))))
theorem Zxx:OpR X (ZDO .Add) (ZzO X.K):=by
 intro pins s σ H x y v u Q I rx ry ⟨p,q,xs,ys,e1,e2,hp,hq,hz,q0,q1,q2⟩
 by_cases hx:xs=[]
 ·subst e1 e2
  obtain rfl:v=ZB2 p:=rx;obtain rfl:u=ZB2 q:=ry;obtain⟨its,r1,p1,_⟩:=I.tuple hp;obtain⟨its2,r2,p2,_⟩:=I.tuple hq;obtain⟨⟨cls,dd,data,sl⟩,ho,hc,n,hd⟩:=id p1;obtain⟨⟨cls2,dd2,data2,sl2⟩,ho2,hc2,n2,hd2⟩:=id p2;simp only at hc hd hc2 hd2;subst hc hd hc2 hd2;have e0:its=[]:=by rw[hx]at r1; cases r1; rfl
  exact ZFR ⟨_,ho,rfl⟩ ⟨_,ho2,rfl⟩ ZFS seq_tuple_add ZEL ZEB (ZEq _ _)
   (tuple_addW0 p q its.toArray its2.toArray n n2 dd dd2 sl sl2 (by simp[e0])) ⟨ho,ho2,⟨.ref q,H,I,rfl,q0 hx⟩⟩
 ·exact ZwF pins s σ H x y v u Q I rx ry ⟨p,q,xs,ys,e1,e2,hp,hq,hx,hz,λz=>by rw[<-e1]; exact q1 hx z,λz=>q2 hx z⟩
theorem Zfd(ha:XE X a fa)(hb:XE X b fb):XE X (.BinOp a .Add b pos) (HM.ZdE fa fb):=by
 intro r d h;unfold HM.ZdE at h;split at h
 case h_2=>cases h
 rename_i xs hx;split at h
 case h_2=>cases h
 rename_i ys hy;split at h
 case isFalse=>cases h
 rename_i hlt;cases h;refine PE.imp (Zmi Zxx (ha r _ hx) (hb r _ hy)) λσ H Q ⟨F0,H0,F,at_,k⟩=>?_;refine⟨F0,H0,F,at_,λv F1 H1 x1 r1=>⟨F0,H0,F1,at_.grow x1,λw F2 H2 x2 r2=>?_⟩⟩;have r1':=r1.mono x2.ff;obtain⟨l,vs,e1,h1,s1⟩:=Zia r1';obtain⟨l',us,e2,h2,s2⟩:=Zia r2;have e3:=s1.1;have e4:=s2.1;have hz:xs.length+ys.length<1000000:=hlt;have e5:(1000000:Nat)<=sizeLine:=by decide
 refine⟨l,l',vs,us,e1,e2,ZdG h1 x2.sub,ZdG h2 x2.sub,by omega,λz=>?_,λ_ z=>?_,λ_ _ p hp=>?_⟩
 ·rw[z]at e3
  exact k _ F2 H2 (x1.trans x2) (by rw[ZCD e3,ZDk]; exact r2)
 ·rw[z]at e4
  exact k _ F2 H2 (x1.trans x2) (by rw[ZCD e4,ZBW]; exact r1')
 ·have rc:=s1.append s2
  exact k _ (upd F2 p (.tup (vs++us))) _ ((x1.trans x2).lay hp) (.tup ZE rc.1 (rc.mono (Zq.upd' (x2.sub.free hp))).2)
end
end
section
variable[FX]
section
variable{X:Cx}{a b c e:Expr}{fa fb fc:HM.EF}{f:HM.AF}{pos p:Pos}{es:List Expr}
theorem Zsn(s:Zq F H):Zq (Zck F) (Zck H):=NoT.drop.sub (λb o e=>s b o (ZfU b o e))
theorem Zs9{k:Nat}{ap:HM.AP}(C:ZcH X.prog X.w X.K X.mg X.base k ap)(hr:Zav k X.A)(i:Nat)(ha:XAL X (e::es) f)(hN:X.N[i]?=Z x:=by rfl)
  (hv:Vis X.env.scope x:=by first | exact ZBZ rfl | exact ZBC (ZBZ rfl) | exact ZBC (ZBC rfl)) (hd:(x==("__debug__":Str))=ZGI:=by decide) (hcd:(x==("__classdict__":Str))=ZGI:=by decide)
  (he:ZBp (e::es) X.env=(ZGI,eval e X.env)::ZBp es X.env:=by rfl) (hpl:(backTo pos (ZBp es X.env)).any (·.1)=ZGI:=by rfl):XE X (.Call (.Name x p) (e::es) [] pos) (HM.Zgw ap i f):=by
 intro r d h;unfold HM.Zgw at h;split at h
 case h_2=>cases h
 rename_i d0 hs;split at h
 case h_2=>cases h
 rename_i t cs hu;split at h
 case h_2=>cases h
 rename_i ds hds;split at h
 case h_2=>cases h
 rename_i z hz;split at h
 case isFalse=>cases h
 rename_i ht;cases h;obtain rfl:=Zpj hu;intro pins s σ H Q I ⟨F0,H0,F1,at_,kk⟩;obtain⟨v,h1,h2⟩:=at_.plain hs;obtain⟨q,rfl,fv⟩:=h2.fn_inv;refine ZDa (thn (Zb9 hN hv hd hcd pins s σ H (λv' H'=>v'=.ref q/\H'=H) I ⟨_,h1,rfl,rfl⟩) λu s1 ⟨v',H1,I1,r1,e1,e2⟩=>?_);subst e1 e2;obtain rfl:u=ZB2 q:=r1;refine ZGF (C.fn fv I1.env0 at_.sub) (thn (ha.pa r ds hds pos pins s1 σ H1 (λvs H2=>∃F2,Ext F1 H1 F2 H2/\Zt X.K H2 ds vs) I1 ⟨F0,H0,F1,at_,λvs F2 H2 x2 q2=>⟨F2,x2,q2⟩⟩) λus s2 ⟨vs,H2,I2,r2,F2,x2,q2⟩=>?_) he hpl;have fv2:=FX.mono (FX.drop (FX.mono fv x2.ff)) (Zsn x2.sub);refine⟨C.fn fv2 I2.env0 ZfU,ZFJ (ZDi (C.run fv2 I2.env0 ZfU hr (at_.tbx x2) .drop r2 q2.drop' hz λv F' H' x3 q3=>kk v (ZbX F2 H') H' (x2.trans (Ext.forget x2.sub (at_.ntx x2) x3).tups) (Zts x3.sub 400 ht q3)) λrs s' hq=>?_)⟩;cases rs with
 | error e=>exact ZCb hq
 | ok fl =>
  cases fl with
  | ret u=>exact I2.after hq
  | next=>exact ZCb hq
  | brk=>exact ZCb hq
  | cont=>exact ZCb hq
end
end
end HP
namespace HP
open PySem PySem.W PyProof.Rows
end HP
namespace HP
open PySem PySem.Spec PyProof.Rows L2
section
variable[FX]
end
section
variable[FX]
end
section
variable[FX]
end
end HP
namespace HT
open PySem PySem.Spec PyProof.Rows L2
section
variable{prog:Program}{w:World}{A:Around}{E:Value->Shared->Prop}{s:Shared}
theorem Zjh{t sl:Addr}{items:Array Value}{vl vu:Value}{lo hi:Option Int}{Q:Value->Shared->Prop}(ht:IsTup s.heap t items)(hs:s.heap.IsSliceOf sl vl vu .none)(pl:IsPart vl lo)(pu:IsPart vu hi)
  (hw:sIx items.size 0 lo=0/\sIx items.size items.size hi=items.size)
  (h:Q (.ref t) s):wpAny (model prog w) A (getItem (.ref t) (.ref sl)) Q E s:=by
 have hj:sIx items.size items.size hi<=items.size:=Zuk _ _ (ZBl _) hi;obtain⟨os,hos,hcs,hds⟩:=id hs;have hTs:s.TypeIs (.ref sl) "slice":=⟨os,hos,hcs⟩;unfold getItem
 try with_reducible refine ZCm ?_
 first | refine ZBa (ZBe ?_) | skip
 refine ZBa (wpAny_sequenceKey ht.typeIs (by decide) ?_);refine ZBa (wpAny_callSpecial?_slot (name:=ZBY "__getitem__") ht.typeIs ZCw
  (ZCj ZCw ht.typeIs entry_tuple_getitem ?_ (args_tuple_getitem _ _)))
 show wpAny _ _ (ZFs (.ref t) >>= _) _ _ s;refine ZBa (tupleItemsOf_ ht ?_);refine ZBa (ZE0 hTs ?_);rw[if_pos (by decide)];refine ZBa (Zg3 hs pl pu ?_);have hyes:(((sIx items.size 0 lo:Nat):Int)==0&&(1:Int)==1&&(sIx items.size items.size hi-sIx items.size 0 lo)==items.size)=ZGH:=by rw[hw.1,hw.2];simp
 show wpAny _ _ (if(((sIx items.size 0 lo:Nat):Int)==0&&(1:Int)==1&&(sIx items.size items.size hi-sIx items.size 0 lo)==items.size)=ZGH then _ else _) _ _ s;rw[if_pos hyes];refine ZBa (m:=ZFz _) ?_;unfold ZFz;refine ZBa (ZE0 ht.typeIs (ZBe ?_));rw[if_pos (show(ZDg "tuple" == ZDg "tuple")=ZGH by decide)];refine ZBa (ZE6 ?_);exact ZBe ⟨_,rfl,ZBe h⟩
end
end HT
namespace HP
open PySem PySem.Spec PyProof.Rows L2
variable{X:Cx}{F H:Hp}{σ:L2.St}{pins:List (Addr × Obj)}{fp:List Addr}{elts:List Expr}{ns:List Int}{ds:List PyData}{kt:Nat}{K:ZBd}{s:Shared}
section
section
variable{X:Cx}{a:Expr}{fa:HM.EF}{pos:Pos}
def ZAy(K:ZBd):V->Option Int->Option Int->Hp->VK->Prop:=λx lo hi H Q=>∃a xs,x=.ref a/\SqT K H a xs/\(HT.sIx xs.length 0 lo=0/\HT.sIx xs.length xs.length hi=xs.length)/\Q (.ref a) H
theorem ZxE:SlR X (ZAy X.K):=by
 intro pins s σ H x v vl vu lo hi sl Q I rx hs pl pu h;obtain⟨a,xs,rfl,hx,hw,q⟩:=h;cases rx;obtain⟨its,r,ht,hz⟩:=I.tuple hx;have hlen:its.toArray.size=xs.length:=by rw[ZBs]; exact r.length.symm
 refine⟨"tuple",_,ZCw.lookup,ht.typeIs,?_⟩;exact HT.Zjh ht hs pl pu (by rw[hlen]; exact hw) ⟨.ref a,H,I,rfl,q⟩
variable[FX]
theorem Zdo{lo hi:Option Expr}{fl fh:Option HM.EF}{p2:Pos}(ha:XE X a fa)(hl:XO X lo fl)(hh:XO X hi fh):XE X (.Subscript a (.Slice lo hi Z_ p2) pos) (HM.ZbV fa fl fh):=by
 intro r d h;unfold HM.ZbV at h;split at h
 case h_2=>cases h
 rename_i xs hx;split at h
 case h_2=>cases h
 rename_i l hl';split at h
 case h_2=>cases h
 rename_i u hu';cases h;refine PE.imp (Zpu (Zyc.or ZxE) (ha r _ hx) (hl r _ hl') (hh r _ hu')) λσ H Q ⟨F0,H0,F,at_,k⟩=>?_;refine⟨F0,H0,F,at_,λv F1 H1 x1 r1=>⟨F0,H0,F1,at_.grow x1,λF2 H2 x2=>⟨F0,H0,F2,(at_.grow x1).grow x2,λF3 H3 x3=>?_⟩⟩⟩;have x23:=x2.trans x3;have r1':=r1.mono x23.ff;obtain⟨l',vs,e1,hq,rs⟩:=Zia r1'
 by_cases hw:HM.sIx xs.length 0 l=0/\HM.sIx xs.length xs.length u=xs.length
 ·refine .inr ⟨l',vs,e1,ZdG hq x3.sub,by rw[<-rs.1]; exact hw,?_⟩
  have e:HM.cutD xs l u=xs:=by unfold HM.cutD;rw[hw.1,hw.2];simp
  rw[e]at k;rw[<-e1];exact k _ F3 H3 (x1.trans x23) r1'
 ·refine .inl ⟨l',vs,e1,ZdG hq x3.sub,by rw[<-rs.1]; exact hw,λl2 hl2=>?_⟩
  have rc:Zt X.K F3 (HM.cutD xs l u) (Zh1 vs l u):=by unfold HM.cutD Zh1;rw[<-rs.1];exact(rs.drop _).take _
  exact k _ (upd F3 l2 (.tup (Zh1 vs l u))) _ ((x1.trans x23).lay hl2) (.tup ZE rc.1 (rc.mono (Zq.upd' (x3.sub.free hl2))).2)
end
end
section
variable[FX]
def Ite(K:ZBd)(a:Addr):It :=
 ⟨λi H=>∃xs x,SqT K H a xs/\xs[i]?=Z x,λi H y H'=>∃T x,H T=Z_/\y=.ref T/\(∀xs,SqT K H a xs->xs[i]?=Z x)/\H'=upd H T (.tup [.int (i:Int),x]),λi H=>∃xs,SqT K H a xs/\xs.length=i⟩
omit [FX]in
theorem ZnC{h':Heap}{t':Nat}(I:Inv X pins σ H s)(k:∀b o,b ∉ fp->s.heap.get? b=Z o->h'.get? b=Z o)(hf:∀b∈fp,Zf1 X pins H b):Inv X pins σ H { s with heap:=h',toks:=t' }:=by
 refine I.step (g':=s.gens) (d':=s.drawn) (ch:=fp) (λb hb=>⟨(hf b hb).2.2.2.1,(hf b hb).2.1,(hf b hb).2.2.2.2.1,(hf b hb).2.2.2.2.2⟩) (λb o _ _ hc e _=>k b o hc e) (λb o _ _ hc e _=>⟨o.slots,k b o hc e⟩) (λ_ _ _ _ n=>n) (λb o hc e=>⟨o,k b o hc e⟩) (λ_ _ e=>e) (λ_ _ _ e=>e) (λb ps e=>⟨#[],by rw[e]; simp⟩) (λm hm=>?_) (λb u e=>?_) I.bare
 ·obtain⟨o,es,ep,ho,r⟩:=hm; exact⟨o,es,ep,k _ o (λz=>(hf _ z).2.1 rfl) ho,r⟩
 ·refine(I.hok b u e).stay (λc v hc q=>k c v (λz=>?_) q) (λ_ q=>q) λ_ _ q=>q
  rcases hc with y | y
  ·subst y; rw[(hf _ z).1]at e; cases e
  ·rw[(hf c z).1]at y; cases y
omit [FX]in
theorem ZtB{P:Program}{w:World}{pt:Pos}(a e it:Addr)(hei:e≠it):Turn P w K (.Tuple elts kt pt) (Ite K a) [e,it] e (λi h=>(∃old,IsEnum h e it (i:Int) old)/\h.IsTupleIter it a i) where
 mem:=by simp
 obj:=λi h st b hb=>by
  rcases ZBq.mp hb with rfl | hb
  ·obtain⟨⟨old,he⟩,_⟩:=st; exact⟨_,he,λv z=>by cases z⟩
  ·rw[ZBk.mp hb]; obtain⟨_,o,ho,hc,hd⟩:=st; exact⟨o,ho,λv z=>by rw[hd]at z; cases z⟩
 keep:=λi h h' ⟨⟨old,he⟩,o,ho,r⟩ k=>⟨⟨old,k e (by simp) _ he⟩,o,k it (by simp) o ho,r⟩
 item:=by
  intro X hP hw hK hc i pins s σ H E I hf st hg;subst hP hw hK;obtain⟨⟨old,he⟩,hit⟩:=st;obtain⟨xs,x,hq,hx⟩:=hg;obtain⟨its,rv,p,hz⟩:=I.tuple hq;obtain⟨u,hu,ru⟩:=rv.get hx;have hp:s.heap.IsTuple a its.toArray:=p;have hai:a≠it:=by
   rintro rfl
   obtain⟨o,ho,hcl,_⟩:=hit;obtain⟨o2,ho2,hcl2,_⟩:=hp;rw[ho]at ho2; cases ho2; rw[hcl]at hcl2; exact absurd hcl2 (by decide)
  have hae:e≠a:=by
   rintro rfl
   obtain⟨o2,ho2,hcl2,_⟩:=hp;rw[he]at ho2; cases ho2; exact absurd (show ZDg "enumerate" = ZDg "tuple" from hcl2) (by decide)
  have D:=Znw (prog:=X.prog) (w:=X.w) (A:=X.A.in1) (I.ok.hd hc) it a hai its.toArray;have hlt:i<its.length:=(ZBr.mp hu).1;have hes:e<s.heap.objs.size:=ZBt he;have his:it<s.heap.objs.size:=by obtain⟨o,ho,_⟩:=hit; exact ZBt ho
  refine wpAny_pyNext_enum_itemD D he ⟨hit,hp⟩ (by simpa using hlt) hei (by simp[hei,hae]) λy h' tk hP ho hs' hT hsz hk=>⟨_,rfl,wpAny_letOwnedTupleGo_enum ho λh2 he2 hs2=>?_⟩;have ey:y=u:=by
   have:its.toArray[i]?=Z u:=by simpa using hu
   rw[this]at hP; exact(ZCa hP).symm
  subst ey;have hn:H s.heap.objs.size=Z_:=I.hok.fresh (ZBl _);have IL:Inv X pins σ (upd H s.heap.objs.size (.tup [.int (i:Int),x])) { s with heap:=s.heap.push { cls:=.type "tuple",data:=.seq #[.int i tk,y] },toks:=s.toks }:=I.laid (λb ob q=>ZBg _ q) (ZBl _) ⟨by show 2<=sizeLine; decide,[.int i tk,y],.cons ⟨tk,rfl⟩ (.cons ru .nil),ZF6 _ _⟩;have I2:Inv X pins σ (upd H s.heap.objs.size (.tup [.int (i:Int),x])) { s with heap:=h2,toks:=tk+1 }:=ZnC (s:={ s with heap:=s.heap.push { cls:=.type "tuple",data:=.seq #[.int i tk,y] },toks:=s.toks }) (fp:=[e,it]) IL (λb o hb q=>by
   have h1:b≠e:=λz=>hb (by simp[z]);have h3:b≠it:=λz=>hb (by simp[z]);show h2.get? b=Z o;rw[hs2.2 b h1]
   by_cases eb:b=s.heap.objs.size
   ·subst eb
    have:(s.heap.push { cls:=.type "tuple",data:=.seq #[.int i tk,y] }).get? s.heap.objs.size=Z { cls:=.type "tuple",data:=.seq #[.int i tk,y] }:=ZBw _ rfl;rw[show(Z o:Option Obj)=_ from q.symm.trans this];exact hT
   ·exact hk b o h1 h3 (by rw[<-ZD4 _ _ _ eb]; exact q)) λb hb=>by
    obtain⟨f0,f1,f2,f3,f4,f5⟩:=hf b hb;refine⟨?_,f1,f2,f3,f4,f5⟩;rw[ZA]
    ·exact f0
    ·rcases ZBq.mp hb with rfl | hb
     ·exact ZBA hes
     ·rw[ZBk.mp hb]; exact ZBA his
  refine⟨.ref s.heap.objs.size,_,I2,rfl,⟨_,x,hn,rfl,λys hy=>by rw[I.tuple_inj hy hq]; exact hx,rfl⟩,⟨⟨_,by simpa using he2⟩,?_⟩,λb hb=>?_⟩
  ·obtain⟨⟨o,ho',r⟩,_⟩:=hs'
   exact⟨o,(hs2.2 it hei.symm).trans ho',r⟩
  ·rw[ZA]
   ·exact(hf b hb).1
   ·rcases ZBq.mp hb with rfl | hb
    ·exact ZBA hes
    ·rw[ZBk.mp hb]; exact ZBA his
 done:=by
  intro X hP hw hK hc i pins s σ H E I hf st hg;subst hP hw hK;obtain⟨⟨old,he⟩,hit⟩:=st;obtain⟨xs,hq,hx⟩:=hg;obtain⟨its,rv,p,hz⟩:=I.tuple hq;have hp:s.heap.IsTuple a its.toArray:=p;have hl:=rv.length;have hai:a≠it:=by
   rintro rfl
   obtain⟨o,ho,hcl,_⟩:=hit;obtain⟨o2,ho2,hcl2,_⟩:=hp;rw[ho]at ho2; cases ho2; rw[hcl]at hcl2; exact absurd hcl2 (by decide)
  have D:=Znw (prog:=X.prog) (w:=X.w) (A:=X.A.in1) (I.ok.hd hc) it a hai its.toArray;have en:i=its.toArray.size:=by simp; omega
  subst en;exact wpAny_pyNext_enum_endD D he ⟨hit,hp⟩ λh' eb=>⟨rfl,ZnC (t':=s.toks) (fp:=[e,it]) I (λb o hb q=>eb b o (λz=>hb (by simp[z])) q) hf⟩
 self:=λ_ _ _ _ _ ⟨⟨_,he⟩,_⟩ h=>wpAny_pyIter_enum he h
omit [FX]in
theorem Zru:∀(ds:List PyData) (k i:Nat) (d:PyData),(HM.ZiB k ds)[i]?=Z d->∃x,ds[i]?=Z x/\d=.tuple [.int ((k+i:Nat):Int),x]
 | [],_,_,_,h=>by cases h
 | x::ds,k,0,d,h=>by cases h; exact⟨x,rfl,rfl⟩
 | x::ds,k,i+1,d,h=>by obtain⟨y,h1,h2⟩:=Zru ds (k+1) i d h;exact⟨y,h1,by rw[h2,show k+1+i=k+(i+1) by omega]⟩
omit [FX]in
theorem ZpO:∀(ds:List PyData) (k:Nat),(HM.ZiB k ds).length=ds.length
 | [],_=>rfl
 | _::ds,k=>congrArg (·+1) (ZpO ds (k+1))
theorem ZvG{a:Addr}{vs:List V}(h:SqT K F a vs)(r:Zt K F ds vs):ItE K (Ite K a) (HM.ZiB 0 ds) F:=by
 intro F' H s1 s2;have hq:SqT K H a vs:=ZdG h (s1.trans s2);refine⟨λi d hd=>?_,vs,hq,by rw[ZpO,r.1]⟩;obtain⟨x,hx,rfl⟩:=Zru ds 0 i d hd;obtain⟨v,h1,h2⟩:=r.get hx;refine⟨⟨vs,v,hq,h1⟩,λy H' ⟨T,z,hn,ey,hz,eH⟩=>?_⟩;subst ey eH;have:=hz vs hq;rw[h1]at this;cases this;have hs:=(Ext.refl s2).tups.sub;refine⟨_,(Ext.refl hs).lay hn,.tup ZE rfl ?_⟩;have hT:ZbX F' H T=Z_:=hs.free hn;have hr:Zt K (upd (ZbX F' H) T (.tup [.int (i:Int),v])) [.int ((0+i:Nat):Int),x] [.int (i:Int),v]:=by rw[Nat.zero_add];exact .cons (.int _) (.one ((h2.mono (s1.trans (Zdb s2))).mono (Zq.upd' hT)))
 exact hr.2
theorem Zws{a:Expr}{f:HM.EF}{p pos:Pos}{pt:Pos}(hm:X.mg "enumerate" = Z_)(ha:XE X a f)(hg:Gl X "enumerate":=by rfl)(hs:ZBp [a] X.env=[(ZGI,eval a X.env)]:=by rfl):XIE X (.Tuple elts kt pt) (.Call (.Name "enumerate" p) [a] [] pos) (HM.Zol f):=by
 intro r ds h;unfold HM.Zol at h;split at h
 ·rename_i xs hx
  cases h;intro pins s σ H R I ⟨F0,H0,F,at_,k⟩;have hxa:=Zb ha (Zf (X:=X)) hs;refine Call_ (Zid I hg hm boot_enumerate (ZEc (thn (hxa.pa r [.tuple xs] (by show(match f r with | some x=>_ | none=>_)=_; rw[hx]; rfl) pos pins s σ H (λvs H1=>∃F1,Ext F H F1 H1/\Zt X.K F1 [.tuple xs] vs) I ⟨F0,H0,F,at_,λvs F' H' x q=>⟨F',x,q⟩⟩) λus s1 ⟨vs,H1,I1,r1,F1,x1,q1⟩=>?_) hs rfl));obtain⟨v,rfl,rv⟩:∃v,vs=[v]/\Rep X.K F1 (.tuple xs) v:=by
   obtain⟨e,hh⟩:=q1
   match vs,e with
   | [v],_=>exact⟨v,rfl,hh 0 _ v rfl rfl⟩
  obtain⟨l,ws,rfl,hq,rs⟩:=Zia rv;obtain⟨u,rfl,ru⟩:=vals1 r1;cases ru;obtain⟨its,_,pt1,_⟩:=I1.tuple (ZdG hq x1.sub);refine ZsT (items:=its.toArray) pt1 λh' he hi hsz hk=>wpAny_pyIter_enum he ?_;refine⟨_,[s1.heap.objs.size+1,s1.heap.objs.size],_,_,H1,rfl,I1.kept (t':=s1.toks) hk,ZtB l _ _ (Nat.succ_ne_self _),⟨⟨_,he⟩,hi⟩,λb hb=>?_,k _ F1 H1 x1 (ZvG hq rs)⟩;rcases ZBq.mp hb with rfl | hb
  ·exact I1.fpOk (ZGh _) (I1.hok.fresh (ZGh _))
  ·rw[ZBk.mp hb]; exact I1.fpOk (ZBl _) (I1.hok.fresh (ZBl _))
 ·cases h
section
variable{X:Cx}{N:List Str}{scope:Scope}{x x2:Str}{px px2 pt:Pos}{kt:Nat}{elt iter:Expr}{ifs:List Expr}{pos:Pos}{fi:HM.IF}{fc:HM.TF}{fe:HM.EF}
theorem Zou(i:Nat){y:Str}{py spos:Pos}(hN:X.N.Nodup)(hxe:X.xe=λ_ _=>False)(hcalm:X.calm=ZGH)(T:ZdT X N scope [x,x2])(hi:XIE X (.Tuple [.Name x px,.Name x2 px2] kt pt) iter fi)(hc:∀cl C s H ex,XTs (ZY X N scope cl C s H ex) ifs fc)(he:∀cl C s H ex,XE (ZY X N scope cl C s H ex) elt fe)
  (hiy:X.N[i]?=Z y:=by rfl) (hy:X.env.scope.names.lookup y=Z .local:=by rfl) (hsw:ZDM (.ListComp elt [⟨.Tuple [.Name x px,.Name x2 px2] kt pt,iter,ifs,0⟩] scope pos) (Z (.Name y py)) spos.line X.env=pure ZGH:=by rfl)
  (hs:∀x,ZC2 iter X.env x=pure x:=by intro _; rfl):XS X (.Assign [.Name y py] (.ListComp elt [⟨.Tuple [.Name x px,.Name x2 px2] kt pt,iter,ifs,0⟩] scope pos) spos) (HM.Z8 i (HM.Zc2 fi fc fe)):=by
 rw[ZrI];exact ZkN i hN hxe hcalm T (Zug T) hi hc he hiy hy hsw hs
end
section
variable{X:Cx}{a b:Expr}{ga gb:HM.BF}{pos:Pos}
def ZzV(K:ZBd):R2:=λx y H Q=>∃l b xs zs,x=.ref l/\y=.ref b/\SqL K H l xs/\SqL K H b zs/\xs.length+zs.length<=sizeLine/\∀p,H p=Z_->Q (.ref p) (upd H p (.lst (xs++zs)))
omit [FX]in
theorem ZxL:OpR X (ZDO .Add) (ZzV X.K):=by intro pins s σ H x y v u Q I rx ry h;obtain⟨l,b,xs,zs,rfl,rfl,hH,hB,hz,q⟩:=h;cases rx;cases ry;obtain⟨its,r,⟨⟨c1,d1,t1,s1⟩,n1,e1,k1,k2,k3⟩,_⟩:=I.list hH;obtain⟨its2,r2,⟨⟨c2,d2,t2,s2⟩,n2,e2,m1,m2,m3⟩,_⟩:=I.list hB;simp only at k1 k2 k3 m1 m2 m3;subst k1 k3 m1 m3;have hl1:=r.length;have hl2:=r2.length;refine ZFR ⟨_,e1,rfl⟩ ⟨_,e2,rfl⟩ noFill_list_add seq_list_add PySem.F.slot_list_add PySem.F.entry_list_add (PySem.F.args_list_add_2 _ _) (list_addW l b its.toArray its2.toArray n1 n2 d1 d2 s1 s2 (by rw[ZBs,ZBs]; omega)) ⟨e1,e2,?_⟩;rw[show its.toArray++its2.toArray=(its++its2).toArray by simp];exact⟨.ref _,_,I.lnew (t':=s.toks) (r.append r2) (by rw[ZBv]; omega),rfl,q _ I.fresh⟩
theorem Zwt(ha:XB X a ga)(hb:XB X b gb):XF X (.BinOp a .Add b pos) (HM.ZsK ga gb):=by
 intro r d h;unfold HM.ZsK at h;split at h
 ·rename_i x hx
  split at h
  ·rename_i xs hxs
   split at h
   ·rename_i y hy
    split at h
    ·rename_i ys hys
     split at h
     ·rename_i hz
      cases h;refine PE.imp (Zmi ZxL (ha r _ hx) (hb r _ hy)) λσ H Q ⟨F0,H0,F,at_,k⟩=>?_;refine⟨F0,H0,F,at_,λv F1 H1 x1 ⟨fp,r1⟩=>⟨F0,H0,F1,at_.grow x1,λw F2 H2 x2 ⟨fq,r2⟩=>?_⟩⟩;obtain⟨l1,vs1,rfl,hq1,q1⟩:=ZdC x2.sub (r1.mono x2.ff λ_ _ _ z=>x2.hh _ _ z) hxs;obtain⟨l2,vs2,rfl,hq2,q2⟩:=ZdC x2.sub r2 hys;refine⟨_,_,_,_,rfl,rfl,hq1,hq2,?_,λl hl=>Zet (P:=λv _ H'=>Q v H') (x1.trans x2) (q1.append q2) hl k⟩;have e1:=q1.1;have e2:=q2.1;have e3:(1000000:Nat)<=sizeLine:=by decide
      unfold HM.big at hz;omega
     ·cases h
    ·cases h
   ·cases h
  ·cases h
 ·cases h
end
end
section
section
variable{prog:Program}{w:World}{A:Around}{E:Value->Shared->Prop}{s:Shared}{l:Addr}{xs:Array (Int × Tok)}{Q:Value->Shared->Prop}
theorem ZlH{items:Array Value}(hl:s.heap.IsTuple l items)(h:(Shared.heap { s with heap:=s.heap.push { cls:=.type "tuple_iterator",data:=.fields #[.ref l,.int 0 0] } }).IsTupleIter s.heap.objs.size l 0/\(s.heap.push { cls:=.type "tuple_iterator",data:=.fields #[.ref l,.int 0 0] }).IsTuple l items->(∀b∈[s.heap.objs.size,l],b<(s.heap.push { cls:=.type "tuple_iterator",data:=.fields #[.ref l,.int 0 0] }).objs.size)->l≠s.heap.objs.size->(∀h':Heap,(∀b o,b ∉ [s.heap.objs.size]->(s.heap.push { cls:=.type "tuple_iterator",data:=.fields #[.ref l,.int 0 0] }).get? b=Z o->h'.get? b=Z o)->∀b o,s.heap.get? b=Z o->h'.get? b=Z o)->Q (.ref s.heap.objs.size) { s with heap:=s.heap.push { cls:=.type "tuple_iterator",data:=.fields #[.ref l,.int 0 0] } }):wpAny (model prog w) A (pyIter (.ref l)) Q E s:=by
 have hlt:l<s.heap.objs.size:=by obtain⟨_,e,_⟩:=hl; exact ZBt e
 refine ZEr hl (h ⟨⟨_,ZBw _ rfl,rfl,rfl⟩,hl.push _⟩ (λb hb=>?_) (ZBA hlt) λh' hk b o e=>hk b o (λhm=>?_) (ZBg _ e))
 ·rw[ZDd]
  rcases ZBq.mp hb with e | hb
  ·rw[e]; exact ZDs _
  ·rw[ZBk.mp hb]; exact ZDI hlt
 ·have:=ZBt e; rw[ZBk.mp hm]at this; exact absurd this (ZC1 _)
theorem Zw8(hh:A.handled=Z_)(hl:s.heap.IsTuple l (ZCU xs))(hne:0<xs.size)(h:∀v h' tk,(ZCU xs)[argBest (λi j=>decide (numAt xs i > numAt xs j)) (xs.size-1)]?=Z v->(∀b o,s.heap.get? b=Z o->h'.get? b=Z o)->Q v { s with heap:=h',toks:=tk }):wpAny (model prog w) A (call (.builtin "max") [.ref l]) Q E s :=
 call_max_walk (ZlH hl λst hfp hlI old=>⟨_,_,_,_,_,_,_,rfl,Walks.tuple (A:=A.in1) hh _ l hlI (ZCU xs),st,hfp,by simpa [ZCU]using hne,CmpOf.ints_gt (numAt xs) (λ_ _=>ZD2),λv h' tk hP hk=>h v h' tk (by simpa [ZCU]using hP) (old h' hk)⟩)
theorem ZxC(hh:A.handled=Z_)(hl:s.heap.IsTuple l (ZCU xs))(hne:0<xs.size)(h:∀v h' tk,(ZCU xs)[argBest (λi j=>decide (numAt xs i<numAt xs j)) (xs.size-1)]?=Z v->(∀b o,s.heap.get? b=Z o->h'.get? b=Z o)->Q v { s with heap:=h',toks:=tk }):wpAny (model prog w) A (call (.builtin "min") [.ref l]) Q E s :=
 call_min_walk (ZlH hl λst hfp hlI old=>⟨_,_,_,_,_,_,_,rfl,Walks.tuple (A:=A.in1) hh _ l hlI (ZCU xs),st,hfp,by simpa [ZCU]using hne,CmpOf.ints_lt (numAt xs) (λ_ _=>ZD2),λv h' tk hP hk=>h v h' tk (by simpa [ZCU]using hP) (old h' hk)⟩)
theorem ZwR(hh:A.handled=Z_)(hl:s.heap.IsTuple l (ZCU xs))(h:∀h' tk t',(∀b o,s.heap.get? b=Z o->h'.get? b=Z o)->Q (.int (preSum (numAt xs) xs.size) t') { s with heap:=h',toks:=tk }):wpAny (model prog w) A (call (.builtin "sum") [.ref l]) Q E s :=
 call_sum_walkG (ZlH hl λst hfp hlI old=>⟨_,_,_,_,_,_,numAt xs,rfl,Walks.tuple (A:=A.in1) hh _ l hlI (ZCU xs),st,hfp,(λ_ _=>ZD2),λh' tk t' hk=>by have:=h h' tk t' (old h' hk); simpa [ZCU]using this⟩)
end
variable[FX]
section
variable{X:Cx}{a:Expr}{fa:HM.EF}{p pos:Pos}
theorem ZlE{q:Addr}(I:Inv X pins σ H s)(hq:SqT X.K H q (ns.map V.int)):∃xs:Array (Int × Tok),s.heap.IsTuple q (ZCU xs)/\ns=xs.toList.map (·.1):=by obtain⟨its,rv,pl,hz⟩:=I.tuple hq;have hi:=ZcL rv;obtain⟨xs,e⟩:=hi.allInts.items;have pl:s.heap.IsTuple q its.toArray:=pl;rw[e]at pl;exact⟨xs,pl,by rw[<-hi.numsOf,<-ZFy,<-e]⟩
theorem Zuv(hc:X.calm=ZGH):ZaO X (.builtin "max") (λxs H Q=>∃(p:Addr) (ns:List Int),xs=[.ref p]/\SqT X.K H p (ns.map V.int)/\0<ns.length/\∀M,M∈ns->(∀a,a∈ns->a<=M)->Q (.int M) H):=by
 intro pins s σ H xs us Q I r h;obtain⟨p,ns,rfl,hq,hne,q⟩:=h;obtain⟨u,rfl,rx⟩:=vals1 r;cases rx;obtain⟨xs,hl,hns⟩:=ZlE I hq;rw[hns,ZBb,ZBB]at hne;refine Zw8 (I.ok.hd hc) hl hne λv h' tk hv hk=>?_;obtain⟨t,rfl⟩:=ZD2 hv;obtain⟨h1,h2⟩:=argBest_gt (numAt xs) (xs.size-1);refine⟨.int _,H,I.kept (t':=tk) hk,⟨t,rfl⟩,q _ ?_ λa ha=>?_⟩
 ·rw[hns,ZEW]; exact getD_mem (by rw[ZBb,ZBB]; omega)
 ·rw[hns]at ha; obtain⟨j,hj,rfl⟩:=mem_getD ha; rw[ZBb,ZBB]at hj; rw[<-ZEW]; exact h2 j (by omega)
theorem ZtJ(hc:X.calm=ZGH):ZaO X (.builtin "min") (λxs H Q=>∃(p:Addr) (ns:List Int),xs=[.ref p]/\SqT X.K H p (ns.map V.int)/\0<ns.length/\∀M,M∈ns->(∀a,a∈ns->M<=a)->Q (.int M) H):=by
 intro pins s σ H xs us Q I r h;obtain⟨p,ns,rfl,hq,hne,q⟩:=h;obtain⟨u,rfl,rx⟩:=vals1 r;cases rx;obtain⟨xs,hl,hns⟩:=ZlE I hq;rw[hns,ZBb,ZBB]at hne;refine ZxC (I.ok.hd hc) hl hne λv h' tk hv hk=>?_;obtain⟨t,rfl⟩:=ZD2 hv;obtain⟨h1,h2⟩:=argBest_lt (numAt xs) (xs.size-1);refine⟨.int _,H,I.kept (t':=tk) hk,⟨t,rfl⟩,q _ ?_ λa ha=>?_⟩
 ·rw[hns,ZEW]; exact getD_mem (by rw[ZBb,ZBB]; omega)
 ·rw[hns]at ha; obtain⟨j,hj,rfl⟩:=mem_getD ha; rw[ZBb,ZBB]at hj; rw[<-ZEW]; exact h2 j (by omega)
theorem ZtM(hc:X.calm=ZGH):ZaO X (.builtin "sum") (λxs H Q=>∃(p:Addr) (ns:List Int),xs=[.ref p]/\SqT X.K H p (ns.map V.int)/\Q (.int ns.sum) H):=by intro pins s σ H xs us Q I r h;obtain⟨p,ns,rfl,hq,q⟩:=h;obtain⟨u,rfl,rx⟩:=vals1 r;cases rx;obtain⟨xs,hl,hns⟩:=ZlE I hq;refine ZwR (I.ok.hd hc) hl λh' tk t' hk=>?_;rw[hns]at q;refine⟨.int _,H,I.kept hk,⟨_,rfl⟩,?_⟩;rw[preSum_eq,ZDv (by simp)];exact q
theorem Zj4{v:V}(sub:Zq F H)(hns:HM.Zap ds=Z ns)(r:Zam K F H (.pl (.tuple ds)) v fp):∃l,v=.ref l/\SqT K H l (ns.map V.int):=by
 cases r with
 | pl rr=>obtain⟨l,vs,e1,hq,rs⟩:=Zia rr;rw[Zco hns rs]at hq;exact⟨l,e1,ZdG hq sub⟩
theorem Zwu(hm:X.mg "max" = Z_)(hc:X.calm=ZGH)(ha:XE X a fa)(hg:Gl X "max":=by rfl)(hs:ZBp [a] X.env=[(ZGI,eval a X.env)]:=by rfl):XE X (.Call (.Name "max" p) [a] [] pos) (HM.Zms fa):=by
 intro r d h;unfold HM.Zms at h;split at h
 ·rename_i ds hx
  split at h
  ·rename_i ns hns
   obtain⟨m,h1,h2⟩:=ZBc.mp h;subst h2;have hb:HM.bOf fa r=Z (.pl (.tuple ds)):=by unfold HM.bOf; rw[hx]; rfl
   refine PE.imp (ZbT (Zuv hc) hg hm ZpS (Zc5 (Zaf ha) hb hs) (he:=hs)) λσ H Q ⟨F0,H0,F,at_,k⟩=>⟨F0,H0,F,at_,λv fp F1 H1 x1 r1=>?_⟩;obtain⟨l,e1,hq⟩:=Zj4 x1.sub hns r1;obtain⟨m1,m2⟩:=ZDB.mp h1;refine⟨l,ns,by rw[e1],hq,ZEO m1,λM k1 k2=>?_⟩;have:M=m:=ZGa (m2 M k1) (k2 m m1);subst this;exact k _ F1 H1 x1 (.int _)
  ·cases h
 ·cases h
theorem Zwv(hm:X.mg "min" = Z_)(hc:X.calm=ZGH)(ha:XE X a fa)(hg:Gl X "min":=by rfl)(hs:ZBp [a] X.env=[(ZGI,eval a X.env)]:=by rfl):XE X (.Call (.Name "min" p) [a] [] pos) (HM.Zmo fa):=by
 intro r d h;unfold HM.Zmo at h;split at h
 ·rename_i ds hx
  split at h
  ·rename_i ns hns
   obtain⟨m,h1,h2⟩:=ZBc.mp h;subst h2;have hb:HM.bOf fa r=Z (.pl (.tuple ds)):=by unfold HM.bOf; rw[hx]; rfl
   refine PE.imp (ZbT (ZtJ hc) hg hm Zpg (Zc5 (Zaf ha) hb hs) (he:=hs)) λσ H Q ⟨F0,H0,F,at_,k⟩=>⟨F0,H0,F,at_,λv fp F1 H1 x1 r1=>?_⟩;obtain⟨l,e1,hq⟩:=Zj4 x1.sub hns r1;obtain⟨m1,m2⟩:=ZCt.mp h1;refine⟨l,ns,by rw[e1],hq,ZEO m1,λM k1 k2=>?_⟩;have:M=m:=ZGa (k2 m m1) (m2 M k1);subst this;exact k _ F1 H1 x1 (.int _)
  ·cases h
 ·cases h
theorem Zww(hm:X.mg "sum" = Z_)(hc:X.calm=ZGH)(ha:XE X a fa)(hg:Gl X "sum":=by rfl)(hs:ZBp [a] X.env=[(ZGI,eval a X.env)]:=by rfl):XE X (.Call (.Name "sum" p) [a] [] pos) (HM.Zmk fa):=by
 intro r d h;unfold HM.Zmk at h;split at h
 ·rename_i ds hx
  split at h
  ·rename_i ns hns
   cases h;have hb:HM.bOf fa r=Z (.pl (.tuple ds)):=by unfold HM.bOf; rw[hx]; rfl
   refine PE.imp (ZbT (ZtM hc) hg hm Zuo (Zc5 (Zaf ha) hb hs) (he:=hs)) λσ H Q ⟨F0,H0,F,at_,k⟩=>⟨F0,H0,F,at_,λv fp F1 H1 x1 r1=>?_⟩;obtain⟨l,e1,hq⟩:=Zj4 x1.sub hns r1;exact⟨l,ns,by rw[e1],hq,k _ F1 H1 x1 (.int _)⟩
  ·cases h
 ·cases h
end
end
end HP
namespace HM
open PySem
variable{i:Int}{ds:List D}{n:Nat}
theorem Zct{α:Type}{c:TF}{e:EF}{r:Env}(g:α->D)(p:α->Bool)(f:α->D):∀(xs:List α),(∀x∈xs,c (Z (.pl (g x))::r)=Z (p x))->(∀x∈xs,p x=ZGH->e (Z (.pl (g x))::r)=Z (f x))->ZaP c e r (xs.map g)=Z ((xs.filter p).map f)
 | [],_,_=>rfl
 | x::xs,h1,h2=>by
  have ih:=Zct g p f xs (λy hy=>h1 y (ZBi _ hy)) (λy hy=>h2 y (ZBi _ hy));have hc:=h1 x (ZBf ..);rw[ZBn];unfold ZaP;rw[hc];cases hp:p x with
  | true=>have he:=h2 x (ZBf ..) hp;dsimp only;rw[he];dsimp only;rw[ih,ZF3 hp];rfl
  | false=>dsimp only;rw[ih,ZF4 (by simp[hp])]
theorem ZaY{α:Type}{e:EF}{r:Env}(g:α->D)(f:α->D)(xs:List α)(h:∀x∈xs,e (Z (.pl (g x))::r)=Z (f x)):ZaP ZW e r (xs.map g)=Z (xs.map f):=by rw[Zct g (λ_=>ZGH) f xs (λ_ _=>rfl) λx hx _=>h x hx,ZCG.mpr λ_ _=>rfl]
theorem Zks{α:Type}{i:Nat}{body:SF}(g:α->D)(P:List α->Env->Prop)(xs:List α)(r:Env)(h0:P [] r)
  (hs:∀pre x post r,xs=pre++x::post->P pre r->∃r',body (r.set i (Z (.pl (g x))))=Z (.nx r')/\P (pre++[x]) r'):∃r',Zbm i body (xs.map g) r=Z (.nx r')/\P xs r':=by
 have key:∀(post pre:List α) (r:Env),xs=pre++post->P pre r->∃r',Zbm i body (post.map g) r=Z (.nx r')/\P xs r':=by
  intro post
  induction post with
  | nil=>intro pre r e h; rw[ZBW]at e; subst e; exact⟨r,rfl,h⟩
  | cons x post ih=>intro pre r e h;obtain⟨r1,h1,h2⟩:=hs pre x post r e h;obtain⟨r2,h3,h4⟩:=ih (pre++[x]) r1 (by rw[e,ZC3]; rfl) h2;refine⟨r2,?_,h4⟩;rw[ZBn];unfold Zbm;rw[h1];exact h3
 exact key xs [] r rfl h0
def ZyE{α S:Type}(q:S->α->Bool)(step:S->α->S):S->List α->Bool
 | _,[]=>ZGH
 | s,x::xs=>q s x&&ZyE q step (step s x) xs
abbrev dI(i:Int):D:=ZBO i
abbrev dN(k:Nat):D:=ZBO (k:Int)
theorem ZiS(ns:List Int):ofInts ns=ns.map dI:=rfl
theorem Zat(n:Nat):Zc4 0 n=(ZBm n).map dN:=by unfold Zc4;refine ZCF λk _=>?_;show ZBO (0+(k:Int))=ZBO (k:Int);rw[Int.zero_add]
theorem ZcR(ns:List Int):Zap (ns.map dI)=Z ns:=by
 induction ns with
 | nil=>rfl
 | cons n ns ih=>show(Zap (ns.map dI)).map (n::·)=_; rw[ih]; rfl
theorem Zfa(bs:List Bool):Zfb (bs.map λb=>ZCl b)=Z bs:=by
 induction bs with
 | nil=>rfl
 | cons b bs ih=>show(Zfb (bs.map λb=>ZCl b)).map (b::·)=_; rw[ih]; rfl
abbrev tupI(ns:List Int):D:=ZBL (ns.map dI)
theorem ZdQ{j:Nat}{d:D}(h:ds[j]?=Z d):atD ds (j:Int)=Z d:=by have hj:j<ds.length:=(ZBr.mp h).1;unfold atD ixN;rw[if_pos (by omega),if_pos (by omega)];simpa using h
theorem Zkp{d:D}(h0:0<=i)(h:ds[i.toNat]?=Z d):atD ds i=Z d:=by
 have e:i=((i.toNat:Nat):Int):=by omega
 rw[e]; exact ZdQ (by simpa using h)
@[simp] theorem ZA7(d:D)(r:List D):atD (d::r) 0=Z d:=ZdQ (j:=0) rfl
@[simp] theorem ZA3(a d:D)(r:List D):atD (a::d::r) 1=Z d:=ZdQ (j:=1) rfl
@[simp] theorem ZA4(a b d:D)(r:List D):atD (a::b::d::r) 2=Z d:=ZdQ (j:=2) rfl
@[simp] theorem ZA6(a b c d:D)(r:List D):atD (a::b::c::d::r) 3=Z d:=ZdQ (j:=3) rfl
@[simp] theorem ZA2(a b c e d:D)(r:List D):atD (a::b::c::e::d::r) 4=Z d:=ZdQ (j:=4) rfl
theorem ZAW(i j:Int)(h:(ZS i||ZS j)=ZGH):Za0 (.int i) (.int j)=Z (.int (i*j)):=by show(if ZS i||ZS j then Z (ZBO (i*j))else Z_)=_;rw[if_pos h]
@[simp] theorem ZAT:ZS 7=ZGH:=rfl
@[simp] theorem ZAd:ZS 11=ZGH:=rfl
@[simp] theorem Zz5:ZS 13=ZGH:=rfl
@[simp] theorem ZAb:ZS 17=ZGH:=rfl
@[simp] theorem ZAa:ZS 19=ZGH:=rfl
@[simp] theorem ZAc:ZS 23=ZGH:=rfl
@[simp] theorem ZAl:ZS 29=ZGH:=rfl
@[simp] theorem Zz8:ZS 31=ZGH:=rfl
@[simp] theorem ZAg:ZS 37=ZGH:=rfl
@[simp] theorem ZAi:ZS 41=ZGH:=rfl
@[simp] theorem ZAj:ZS 43=ZGH:=rfl
@[simp] theorem Zz4:ZS 47=ZGH:=rfl
@[simp] theorem ZAh:ZS 53=ZGH:=rfl
@[simp] theorem ZAe:ZS 59=ZGH:=rfl
@[simp] theorem Zz7:ZS 61=ZGH:=rfl
@[simp] theorem ZAk:ZS 67=ZGH:=rfl
@[simp] theorem Zz6:ZS 71=ZGH:=rfl
@[simp] theorem ZAf:ZS 73=ZGH:=rfl
@[simp] theorem Zzp:ZS 48271=ZGH:=rfl
@[simp] theorem ZAu:ZS 2=ZGH:=rfl
@[simp] theorem ZAV:ZS 3=ZGH:=rfl
@[simp] theorem ZAn:ZS 5=ZGH:=rfl
theorem Zkg(h1:-1000000000<i)(h2:i<1000000000):ZS i=ZGH:=by
 unfold ZS;have:i.natAbs<18446744073709551616:=by omega
 exact ZEd.mpr this
theorem ZdX(h:n<1000000):okR (n:Int)=ZGH:=ZEd.mpr (by omega)
@[simp] theorem ZzY(i:Int):Zcn (.int i)=ZGH:=rfl
@[simp] theorem Zzu(i:Bool):Zcn (.bool i)=ZGH:=rfl
@[simp] theorem Zzv:Zcn .none=ZGH:=rfl
@[simp] theorem ZAY(i j:Int):ZEx (.int i) (.int j)=(i==j):=rfl
structure Wk where
 many:Nat
 deeds:List (List (List Int))
 looks:List (List Int)
 beg:List Int
 goal:List Int
noncomputable def Z0 (dd:List (List Int)):D:=.tuple (dd.map tupI)
def Wk.d(w:Wk):D:=.tuple [.int w.many,.tuple (w.deeds.map Z0),.tuple (w.looks.map tupI),tupI w.beg,tupI w.goal]
def Cr(n:Nat)(c:List Int):Prop:=c.Pairwise (· < ·)/\∀x∈c,0<=x/\x<(n:Int)
structure Wk.Ok(w:Wk):Prop where
 m1:2<=w.many
 m2:w.many<=5
 d1:1<=w.deeds.length
 d2:w.deeds.length<=3
 dl:∀dd∈w.deeds,dd.length=w.many
 dc:∀dd∈w.deeds,∀c∈dd,Cr w.many c
 l2:w.looks.length<=3
 ll:∀l∈w.looks,l.length=w.many
 lc:∀l∈w.looks,∀x∈l,0<=x/\x<=9
 b1:w.beg≠[]
 bc:Cr w.many w.beg
 g1:w.goal≠[]
 gc:Cr w.many w.goal
theorem Cr.len:∀{c:List Int},Cr n c->c.length<=n:=by
 have key:∀(c:List Int) (l:Int),c.Pairwise (· < ·)->(∀x∈c,l<=x/\x<(n:Int))->(c.length:Int)<=max 0 ((n:Int)-l):=by
  intro c
  induction c with
  | nil=>intro l _ _; simp; omega
  | cons x c ih=>intro l hp hb;have h1:=hb x (ZBf ..);have h2:=ih (x+1) (ZB5.mp hp).2 λy hy=>⟨by have:=(ZB5.mp hp).1 y hy; omega,(hb y (ZBi _ hy)).2⟩;rw[ZBy];omega
 intro c h;have:=key c 0 h.1 h.2;omega
theorem sortI_perm(ns:List Int):(sortI ns).Perm ns:=ZEl ns _
theorem ZvM(ns:List Int):(sortI ns).Pairwise (·<=·):=by have h:=ZED (le:=λa b:Int=>decide (a<=b)) (λa b c h1 h2=>by simp at *; omega) (λa b=>by simp; omega) ns;exact h.imp λh=>by simpa using h
theorem Zk2:∀{ns:List Int},ns.Pairwise (·<=·)->ns.Nodup->ns.Pairwise (· < ·)
 | [],_,_=>.nil
 | n::ns,h,hn=>by obtain⟨h1,h2⟩:=ZB5.mp h;obtain⟨n1,n2⟩:=ZB4.mp hn;refine ZB5.mpr ⟨λx hx=>?_,Zk2 h2 n2⟩;have:=h1 x hx;have:n≠x:=λe=>n1 (e▸hx);omega
theorem ZiE{ns:List Int}(hn:ns.Nodup)(hb:∀x∈ns,0<=x/\x<(n:Int)):Cr n (sortI ns) :=
 ⟨Zk2 (ZvM ns) ((sortI_perm ns).nodup_iff.mpr hn),λx hx=>hb x ((sortI_perm ns).mem_iff.mp hx)⟩
theorem ZiM(ns:List Int)(h:ns.length<64):ZfD (ns.map dI)=Z ((sortI ns).map dI):=by unfold ZfD;rw[if_pos (by rw[ZBb]; exact h),ZcR];rfl
theorem ZfT:∀(ns acc:List Int) (x:Int),x∈dedup acc ns↔x∈acc\/x∈ns
 | [],acc,x=>by simp[dedup]
 | n::ns,acc,x=>by
  unfold dedup;split
  ·rename_i h
   have h':n∈acc:=by simpa using h
   rw[ZfT ns acc x]
   constructor
   ·rintro (h | h)
    ·exact .inl h
    ·exact .inr (ZBi _ h)
   ·rintro (h | h)
    ·exact .inl h
    ·rcases ZBq.mp h with e | e
     ·exact .inl (e▸h')
     ·exact .inr e
  ·rw[ZfT ns _ x,ZBI,ZBk,ZBq]
   constructor
   ·rintro ((h | h) | h)
    ·exact .inl h
    ·exact .inr (.inl h)
    ·exact .inr (.inr h)
   ·rintro (h | h | h)
    ·exact .inl (.inl h)
    ·exact .inl (.inr h)
    ·exact .inr h
theorem ZfH:∀(ns acc:List Int),acc.Nodup->(dedup acc ns).Nodup
 | [],acc,h=>h
 | n::ns,acc,h=>by
  unfold dedup;split
  ·exact ZfH ns acc h
  ·rename_i hc
   have hc':n ∉ acc:=by simpa using hc
   refine ZfH ns _ ?_;rw[ZDn];exact⟨h,by simp,λa ha b hb=>by simp at hb; subst hb; exact λe=>hc' (e▸ha)⟩
end HM
namespace HG
open PySem HM
variable{l s:Int}{ds:List D}{c ls:List Int}{m n:Nat}{w:Wk}
section
def Zjl:SF :=
 (Zs (sIf (tOr (tV (Zi5 (Zc 0) .bool)) (Zde (tV (Zi5 (Zc 0) .int)))) (ZC (eC (.bool ZGI))) ZaN)
  (ZC (Zec gLe gLe (Zc 1) (Zc 0) (Zc 2))))
def ZaC:List D->Option D:=fnOf 3 3 Zjl
def Zne:SF :=
 (ZC (ZhQ (Zi5 (Zc 0) .tuple) (Zec gLe gLe (Zc 1) (Zaz (Zo 0)) (Zc 2))))
def Zaw:List D->Option D:=fnOf 3 3 Zne
def ZaD:SF :=
 (Zs (sIf (Zde (tV (Zm ZaC (Za (Zc 3) (Za (Zc 2) (Za (op2 Zm3 (Zc 1) (eC (.int 1))) Zi)))))) (ZC (eC (.bool ZGI))) ZaN)
  (ZT 2 (op2 Z9 (Zc 3) (eC (.int 1)))))
def ZeK:SF :=
 (Zs (sIf (Zde (tV (Zi5 (Zc 0) .tuple))) (ZC (eC (.bool ZGI))) ZaN)
  (Zs (ZT 2 (eC (.int 0)))
  (Zs (ZbS 3 (Zaa (bOf (Zc 0))) ZaD)
  (ZC (eC (.bool ZGH))))))
def Zai:List D->Option D:=fnOf 2 4 ZeK
def Zik:SF :=
 (ZC (ZhQ (Zm Zaw (Za (Zc 0) (Za (Zc 1) (Za (Zc 1) Zi)))) (ZiN (ZP (Zaa (bOf (Zc 0))) ZW (Zm Zai (Za (Zc 0) (Za (Zc 2) Zi)))))))
def ZcM:List D->Option D:=fnOf 2 2 Zik
def Zil:SF :=
 (ZC (ZhQ (Zm Zaw (Za (Zc 0) (Za (Zc 1) (Za (Zc 1) Zi)))) (ZiN (ZP (Zaa (bOf (Zc 0))) ZW (Zm ZaC (Za (Zc 0) (Za (eC (.int 0)) (Za (eC (.int 9)) Zi))))))))
def ZcN:List D->Option D:=fnOf 2 2 Zil
def Zjm:SF :=
 (ZC (ZhQ (Zm Zaw (Za (Zc 0) (Za (eC (.int 1)) (Za (eC (.int 5)) Zi)))) (ZiN (ZP (Zaa (bOf (Zc 0))) ZW (Zm ZcM (Za (Zc 0) (Za (Zc 2) Zi)))))))
def Zdp:List D->Option D:=fnOf 2 2 Zjm
def Zjn:SF :=
 (ZC (ZhQ (Zm Zaw (Za (Zc 0) (Za (eC (.int 0)) (Za (eC (.int 4)) Zi)))) (ZiN (ZP (Zaa (bOf (Zc 0))) ZW (Zm ZcN (Za (Zc 0) (Za (Zc 2) Zi)))))))
def Zdq:List D->Option D:=fnOf 2 2 Zjn
def ZkP:SF :=
 (ZC (ZhQ (Zm Zai (Za (Zc 0) (Za (Zc 1) Zi))) (op2 gGt (Zaz (Zo 0)) (eC (.int 0)))))
def Zd5:List D->Option D:=fnOf 2 2 ZkP
def Zjo:SF :=
 (Zs (sIf (tOr (Zde (tV (Zm Zaw (Za (Zc 0) (Za (eC (.int 5)) (Za (eC (.int 5)) Zi)))))) (Zde (tV (Zm ZaC (Za (eIx (Zo 0) (eC (.int 0))) (Za (eC (.int 1)) (Za (eC (.int 8)) Zi))))))) (ZC (eC (.bool ZGI))) ZaN)
  (Zs (ZT 1 (eIx (Zo 0) (eC (.int 0))))
  (Zs (sIf (tOr (Zde (tV (Zm Zdp (Za (eIx (Zo 0) (eC (.int 1))) (Za (Zc 1) Zi))))) (Zde (tV (Zm Zdq (Za (eIx (Zo 0) (eC (.int 2))) (Za (Zc 1) Zi)))))) (ZC (eC (.bool ZGI))) ZaN)
  (ZC (ZhQ (Zm Zd5 (Za (eIx (Zo 0) (eC (.int 3))) (Za (Zc 1) Zi))) (Zm Zai (Za (eIx (Zo 0) (eC (.int 4))) (Za (Zc 1) Zi))))))))
def Zdr:List D->Option D:=fnOf 1 2 Zjo
def ZkQ:SF :=
 (ZC (eIx (Zo 0) (eC (.int 1))))
def Zbc:List D->Option D:=fnOf 1 1 ZkQ
def ZkR:SF :=
 (ZC (eIx (Zo 0) (eC (.int 2))))
def Zbd:List D->Option D:=fnOf 1 1 ZkR
def ZlL:SF :=
 (Zs (sIf (Zde (tV (Zm Zdr (Za (Zc 0) Zi)))) Zkb ZaN)
  (ZC (Zc 0)))
def Zbr:List D->Option D:=fnOf 1 1 ZlL
def ZgD:SF :=
 (Zs (sIf (Zde (tV (Zm Zai (Za (Zc 1) (Za (Zaz (bOf (Zm Zbd (Za (Zc 0) Zi)))) Zi))))) Zkb ZaN)
  (ZC (Zc 1)))
def Zbh:List D->Option D:=fnOf 2 2 ZgD
def ZlM:SF :=
 (ZC (Z2 (ZP (Zaa (bOf (Zc 1))) ZW (eIx (bOf (eIx (bOf (Zm Zbd (Za (Zc 1) Zi))) (Zc 0))) (Zc 3)))))
def ZeL:List D->Option D:=fnOf 3 3 ZlM
def Zh6:SF :=
 (Zs (ZT 3 (eIx (bOf (Zm Zbc (Za (Zc 0) Zi))) (Zc 2)))
  (ZC (ZiN (ZP (Zaa (bOf (Zc 1))) ZW (op2 gGt (Zaz (bOf (eIx (Zo 4) (Zc 0)))) (eC (.int 0)))))))
def Zcy:List D->Option D:=fnOf 3 4 Zh6
def Zi8:SF :=
 (ZC (eOf (ZP (ZbI (Zaz (bOf (Zm Zbc (Za (Zc 0) Zi))))) (tV (Zm Zcy (Za (Zc 1) (Za (Zc 2) (Za (Zc 0) Zi))))) (Zc 0))))
def ZcW:List D->Option D:=fnOf 2 2 Zi8
def ZeM:SF :=
 (Zh2 4 (Zc 6) (eC (.bool ZGH)))
def ZeN:SF :=
 (ZbS 6 (Zaa (bOf (eIx (Zo 3) (Zc 5)))) ZeM)
def Znf:SF :=
 (Zs (ZT 3 (eIx (bOf (Zm Zbc (Za (Zc 0) Zi))) (Zc 2)))
  (Zs (Z8 4 fDk)
  (Zs (ZbS 5 (Zaa (bOf (Zc 1))) ZeN)
  (ZC (Z2 (Zii (Zo 4)))))))
def ZeA:List D->Option D:=fnOf 3 7 Znf
def ZeO:SF :=
 (Zqj 3 (Zm ZeL (Za (Zc 0) (Za (Zc 1) (Za (Zc 4) Zi)))) (Zc 4))
def Zng:SF :=
 (Zs (Z8 3 Zx3)
  (Zs (ZbS 4 (Zaa (bOf (Zc 2))) ZeO)
  (ZC (eOf (ZP (Zaa (bOf (eOf (Zii (Zo 3))))) ZW (Zal (Za (Zc 0) (Za (Z2 (ZsI 4 (Zc 0))) Zi))))))))
def Zaj:List D->Option D:=fnOf 3 5 Zng
def ZkS:SF :=
 (Zs (sIf (tV (op2 gLt (Zc 1) (Zaz (Zo 0)))) (ZC (eIx (Zo 0) (Zc 1))) ZaN)
  (ZC (eC (.int 0))))
def Z3:List D->Option D:=fnOf 2 2 ZkS
def ZlN:SF :=
 (ZC (op2 Zm4 (op2 Zm4 (op2 Za0 (Zc 0) (eC (.int 48271))) (Zc 1)) (Zc 2)))
def ZL:List D->Option D:=fnOf 3 3 ZlN
def ZgE:SF :=
 (Zs (Z8 3 (ZP (ZbI (Zc 1)) (tV (op2 gLt (Zm ZL (Za (op2 Z9 (op2 Z9 (Zc 1) (op2 Za0 (op2 Za0 (eC (.int 31)) (Zc 0)) (Zc 0))) (op2 Za0 (eC (.int 7)) (Zc 0))) (Za (eC (.int 9973)) (Za (eC (.int 5)) Zi)))) (eC (.int 2)))) (Zc 0)))
  (Zs (sIf (tV (op2 gLt (Zaz (Zo 3)) (Zc 2))) (Z8 3 (Zf4 (Za (Zm ZL (Za (Zc 0) (Za (eC (.int 9967)) (Za (Zc 1) Zi)))) Zi))) ZaN)
  (ZC (Z2 (Zo 3)))))
def Zb3:List D->Option D:=fnOf 3 4 ZgE
def Zb4:SF :=
 (Zs (ZT 4 (op2 Z9 (op2 Z9 (Zc 0) (op2 Za0 (op2 Za0 (eC (.int 43)) (Zc 3)) (Zc 3))) (op2 Za0 (eC (.int 11)) (Zc 3))))
  (Zs (ZT 5 (Zm ZL (Za (Zc 4) (Za (eC (.int 9949)) (Za (eC (.int 10)) Zi)))))
  (Zs (Z8 6 (Zqs (Zm ZL (Za (Zc 4) (Za (eC (.int 9941)) (Za (Zc 1) Zi)))) (eC (.bool ZGH))))
  (Zs (sIf (tV (op2 gLt (Zc 5) (eC (.int 3)))) (Zh2 6 (Zm ZL (Za (Zc 4) (Za (eC (.int 9931)) (Za (Zc 1) Zi)))) (eC (.bool ZGH))) ZaN)
  (Zs (ZeF 2 (Z2 (Zii (Zo 6))))
  (sIf (tV (op2 gEq (Zc 5) (eC (.int 9)))) (ZsY 2 (eC (.int (-1))) (Zal Zi)) ZaN))))))
def ZkT:SF :=
 (Zs (Z8 2 (Zf4 Zi))
  (Zs (ZbS 3 (ZbI (Zc 1)) Zb4)
  (ZC (Z2 (Zo 2)))))
def Zd6:List D->Option D:=fnOf 2 7 ZkT
def Zds:SF :=
 (Zs (ZT 5 (op2 Zx1 (op2 Zm3 (Zc 4) (eC (.int 1))) (eC (.int 0))))
  (Zs (ZT 6 (op2 Zx4 (op2 Z9 (Zc 4) (eC (.int 1))) (op2 Zm3 (Zc 1) (eC (.int 1)))))
  (Zs (ZT 7 (op2 gEq (Zm ZL (Za (op2 Z9 (Zc 0) (op2 Za0 (eC (.int 17)) (Zc 4))) (Za (eC (.int 9929)) (Za (eC (.int 6)) Zi)))) (eC (.int 1))))
  (Zs (ZeF 2 (Z2 (ZiR (ZsF (Zf4 (Za (Zc 5) Zi)) (Zvm (Zf4 (Za (Zc 4) Zi)) (Zp1 (Zc 7)))))))
  (ZeF 3 (Zal (Za (Zc 6) Zi)))))))
def ZkU:SF :=
 (Zs (Z8 2 (Zf4 Zi))
  (Zs (Z8 3 (Zf4 Zi))
  (Zs (ZbS 4 (ZbI (Zc 1)) Zds)
  (ZC (Zal (Za (Z2 (Zo 2)) (Za (Z2 (Zo 3)) Zi)))))))
def Zd7:List D->Option D:=fnOf 2 8 ZkU
def ZcX:SF :=
 (Zs (ZT 7 (op2 Z9 (Zm Z3 (Za (Zc 0) (Za (op2 Z9 (op2 Z9 (Zc 1) (eC (.int 4))) (Zc 5)) Zi))) (op2 Za0 (eC (.int 71)) (Zc 5))))
  (Zs (ZT 8 (op2 Z9 (eC (.int 2)) (Zm ZL (Za (Zc 7) (Za (eC (.int 9883)) (Za (eC (.int 2)) Zi))))))
  (ZeF 6 (Z2 (ZP (ZbI (Zc 3)) ZW (Zm ZL (Za (op2 Z9 (Zc 8) (op2 Za0 (op2 Za0 (eC (.int 13)) (Zc 0)) (Zc 0))) (Za (eC (.int 9871)) (Za (Zc 9) Zi)))))))))
def Zed:SF :=
 (ZeF 4 (Zm Zd6 (Za (op2 Z9 (Zm Z3 (Za (Zc 0) (Za (op2 Z9 (op2 Z9 (Zc 1) (eC (.int 1))) (Zc 5)) Zi))) (op2 Za0 (eC (.int 61)) (Zc 5))) (Za (Zc 3) Zi))))
def Zdt:SF :=
 (Zs (ZT 2 (Zm Z3 (Za (Zc 0) (Za (Zc 1) Zi))))
  (Zs (ZT 3 (op2 Z9 (eC (.int 2)) (Zm ZL (Za (Zc 2) (Za (eC (.int 9923)) (Za (eC (.int 4)) Zi))))))
  (Zs (sIf (tV (op2 gGt (Zaz (Zo 0)) (eC (.int 63)))) (ZT 3 (op2 Z9 (eC (.int 2)) (Zm ZL (Za (Zc 2) (Za (eC (.int 9923)) (Za (eC (.int 6)) Zi)))))) ZaN)
  (Zs (Z8 4 (Zf4 Zi))
  (Zs (ZbS 5 (ZbI (op2 Z9 (eC (.int 1)) (Zm ZL (Za (Zc 2) (Za (eC (.int 9907)) (Za (eC (.int 3)) Zi)))))) Zed)
  (Zs (sIf (tV (op2 gEq (Zm ZL (Za (Zc 2) (Za (eC (.int 9901)) (Za (eC (.int 3)) Zi)))) (eC (.int 1)))) (Z8 4 (ZsF (Zkt (bOf (Zm Zd7 (Za (Zm Z3 (Za (Zc 0) (Za (op2 Z9 (Zc 1) (eC (.int 1))) Zi))) (Za (Zc 3) Zi))))) (ZvA (Zo 4) Z_ (Z (eC (.int 1)))))) ZaN)
  (Zs (Z8 6 (Zf4 Zi))
  (Zs (ZbS 5 (ZbI (Zm ZL (Za (Zc 2) (Za (eC (.int 9887)) (Za (eC (.int 4)) Zi))))) ZcX)
  (Zs (ZT 9 (Zm Zb3 (Za (Zm Z3 (Za (Zc 0) (Za (op2 Z9 (Zc 1) (eC (.int 7))) Zi))) (Za (Zc 3) (Za (eC (.int 1)) Zi)))))
  (Zs (sIf (tV (op2 gEq (Zm ZL (Za (Zc 2) (Za (eC (.int 9859)) (Za (eC (.int 3)) Zi)))) (eC (.int 1)))) (ZT 9 (Zi4 (ZbI (Zc 3)))) ZaN)
  (Zs (ZT 10 (Zm Zb3 (Za (Zm Z3 (Za (Zc 0) (Za (op2 Z9 (Zc 1) (eC (.int 8))) Zi))) (Za (Zc 3) (Za (eC (.int 1)) Zi)))))
  (ZC (Zal (Za (Zc 3) (Za (Z2 (Zo 4)) (Za (Z2 (Zo 6)) (Za (Zc 9) (Za (Zc 10) Zi))))))))))))))))))
def Zbs:List D->Option D:=fnOf 2 11 Zdt
end
section
def Zv(ns:List Int)(k:Nat):Int:=if k<ns.length then ns.getD k 0 else 0
theorem ZdY(ns:List Int)(k:Nat):Z3 [.list (ns.map dI),.int k]=Z (.int (Zv ns k)):=by
 simp[Z3,ZkS,Zv]
 by_cases h:k<ns.length
 ·have h':(k:Int)<(ns.length:Int):=by omega
  have e:atD (ns.map dI) (k:Int)=Z (.int ns[k]):=ZdQ (by simp[h]);simp[h,h',e]
 ·have h':¬(k:Int)<(ns.length:Int):=by omega
  simp[h,h']
def ZV(c p m:Int):Int:=c*48271 % p % m
theorem Zcb(c p m:Int)(hp:0<p)(hm:0<m):ZL [.int c,.int p,.int m]=Z (.int (ZV c p m)):=by simp[ZL,ZlN,hp,hm,ZV]
theorem Zau(c p m:Int)(hm:0<m):0<=ZV c p m/\ZV c p m<m:=⟨Int.emod_nonneg _ (by omega),Int.emod_lt_of_pos _ hm⟩
def crP(c:Int)(k:Nat):Bool:=decide (ZV (c+31*(k:Int)*(k:Int)+7*(k:Int)) 9973 5<2)
def crF(c:Int)(n:Nat):List Int:=((ZBm n).filter (crP c)).map λ(k:Nat)=>(k:Int)
def crV(c:Int)(n:Nat):List Int:=if(crF c n).length<1 then[ZV c 9967 n]else crF c n
theorem ZiF(n:Nat)(p:Nat->Bool):Cr n (((ZBm n).filter p).map λ(k:Nat)=>(k:Int)):=by
 refine⟨?_,λx hx=>?_⟩
 ·rw[ZEJ]
  refine List.Pairwise.imp (λ{a b} h=>?_) (List.Pairwise.filter p ZGj);omega
 ·obtain⟨k,hk,rfl⟩:=ZBh.mp hx
  have:=ZBD.mp (ZBF.mp hk).1;omega
theorem Ztp(c:Int)(n:Nat)(hn:0<n):Cr n (crV c n)/\crV c n≠[]:=by
 unfold crV;split
 ·refine⟨⟨by simp,λx hx=>?_⟩,by simp⟩
  have e:x=ZV c 9967 n:=by simpa using hx
  rw[e];have:=Zau c 9967 n (by omega);omega
 ·rename_i h
  exact⟨ZiF n _,λe=>h (by rw[e]; simp)⟩
theorem Zp8(c:Int)(n:Nat)(hn:0<n)(hb:n<1000):Zb3 [.int c,.int n,.int 1]=Z (tupI (crV c n)):=by
 have hn':(0:Int)<(n:Int):=by omega
 have key:ZaP (tV (op2 gLt (Zm ZL (Za (op2 Z9 (op2 Z9 (Zc 1) (op2 Za0 (op2 Za0 (eC (.int 31)) (Zc 0)) (Zc 0))) (op2 Za0 (eC (.int 7)) (Zc 0))) (Za (eC (.int 9973)) (Za (eC (.int 5)) Zi)))) (eC (.int 2)))) (Zc 0)
   [Z (.pl (.int c)),Z (.pl (.int n)),Z (.pl (.int 1)),Z_] (Zc4 0 n)=Z ((crF c n).map dI):=by
  rw[Zat];rw[Zct dN (crP c) dN]
  ·unfold crF
   rw[ZBz];rfl
  ·intro k hk
   have hk':=ZBD.mp hk;have s2:ZS (31*(k:Int))=ZGH:=Zkg (by omega) (by omega);simp[Zcb,crP,s2]
  ·intro k hk _
   simp
 have h1:okR (n:Int)=ZGH:=ZdX (by omega);have h2:(Zc4 0 n).length<1000000:=by rw[Zat]; simp; omega
 by_cases hl:(crF c n).length<1
 ·have hl':((crF c n).length:Int)<1:=by omega
  have hm:=Zcb c 9967 n (by decide) hn';simp[Zb3,ZgE,h1,h2,key];simp[hl',crV,hl,hm]
 ·have hl':¬((crF c n).length:Int)<1:=by omega
  simp[Zb3,ZgE,h1,h2,key];simp[hl',crV,hl]
def Zv3(c:Int)(n k:Nat):List Int :=
 let s:=c+43*(k:Int)*(k:Int)+11*(k:Int)
 if ZV s 9949 10<3/\ZV s 9941 n≠ZV s 9931 n then[ZV s 9941 n,ZV s 9931 n]else[ZV s 9941 n]
def Za9(c:Int)(n k:Nat):List Int:=if ZV (c+43*(k:Int)*(k:Int)+11*(k:Int)) 9949 10=9 then[]else sortI (Zv3 c n k)
theorem Zxk(c:Int)(n k:Nat)(hn:0<n):Cr n (Za9 c n k):=by
 unfold Za9;split
 ·exact⟨.nil,λx hx=>by simp at hx⟩
 ·unfold Zv3
  dsimp only;have b1:=Zau (c+43*(k:Int)*(k:Int)+11*(k:Int)) 9941 n (by omega);have b2:=Zau (c+43*(k:Int)*(k:Int)+11*(k:Int)) 9931 n (by omega);split
  ·rename_i h
   refine ZiE (by simp[h.2]) λx hx=>?_;simp at hx;rcases hx with e | e<;>(subst e; assumption)
  ·refine ZiE (by simp) λx hx=>?_
   simp at hx;subst hx; assumption
theorem ZvZ(n:Nat):ixN (n+1) (-1)=Z n:=by unfold ixN;rw[if_neg (by decide),if_pos (by omega)];congr 1;omega
theorem ZtI(c:Int)(n k:Nat)(rows:List D)(o4 o5 o6:Option B)(hn:0<n)(hk:k<1000)(hl:rows.length<1000) :
  ∃r5 r6 r7,Zb4 [Z (.pl (.int c)),Z (.pl (.int n)),Z (.ol rows),Z (.pl (dN k)),o4,o5,o6]=Z (.nx [Z (.pl (.int c)),Z (.pl (.int n)),Z (.ol (rows++[tupI (Za9 c n k)])),Z (.pl (dN k)),r5,r6,r7]):=by
 have hn':(0:Int)<(n:Int):=by omega
 have s2:ZS (43*(k:Int))=ZGH:=Zkg (by omega) (by omega);have hl':rows.length<1000000:=by omega
 have m1:=Zcb (c+43*(k:Int)*(k:Int)+11*(k:Int)) 9949 10 (by decide) (by decide);have m2:=Zcb (c+43*(k:Int)*(k:Int)+11*(k:Int)) 9941 n (by decide) hn';have m3:=Zcb (c+43*(k:Int)*(k:Int)+11*(k:Int)) 9931 n (by decide) hn';unfold Za9 Zv3;dsimp only;generalize ZV (c+43*(k:Int)*(k:Int)+11*(k:Int)) 9949 10=wy at *;generalize ZV (c+43*(k:Int)*(k:Int)+11*(k:Int)) 9941 n=a at *;generalize ZV (c+43*(k:Int)*(k:Int)+11*(k:Int)) 9931 n=b at *;have t1:ZfD [ZBO a]=Z ((sortI [a]).map dI):=ZiM [a] (by simp);have t2:ZfD [ZBO a,ZBO b]=Z ((sortI [a,b]).map dI):=ZiM [a,b] (by simp)
 by_cases w3:wy<3
 ·have w9:(wy==9)=ZGI:=by simp; omega
  have w9':¬wy=9:=by omega
  by_cases ab:a=b
  ·subst ab
   simp[Zb4,s2,m1,m2,m3,w3,w9,w9',putD,ZaQ,hl',t1]
  ·simp[Zb4,s2,m1,m2,m3,w3,w9,w9',putD,ab,ZaQ,hl',t2]
 ·by_cases w9:wy=9
  ·subst w9
   simp[Zb4,s2,m1,m2,putD,ZaQ,hl',t1,ZvZ]
  ·have w9':(wy==9)=ZGI:=by simp[w9]
   simp[Zb4,s2,m1,m2,w3,w9',w9,putD,ZaQ,hl',t1]
theorem Zw4(c:Int)(n:Nat)(hn:0<n)(hb:n<1000):Zd6 [.int c,.int n]=Z (Z0 ((ZBm n).map λk=>Za9 c n k)):=by
 have h1:okR (n:Int)=ZGH:=ZdX (by omega);have h2:(Zc4 0 n).length<1000000:=by rw[Zat]; simp; omega
 obtain⟨r',e1,o3,o4,o5,o6,p1⟩:=Zks (i:=3) (body:=Zb4) dN (λ(s:List Nat) r=>∃o3 o4 o5 o6,r=[Z (.pl (.int c)),Z (.pl (.int n)),Z (.ol (s.map λk=>tupI (Za9 c n k))),o3,o4,o5,o6]) (ZBm n)
  [Z (.pl (.int c)),Z (.pl (.int n)),Z (.ol []),Z_,Z_,Z_,Z_] ⟨Z_,Z_,Z_,Z_,rfl⟩ (by
   rintro s k post r hxs ⟨o3,o4,o5,o6,rfl⟩
   have hk':k<n:=ZBD.mp (by rw[hxs]; simp);have hs:s.length<n:=by have:=congrArg ZB7 hxs; simp at this; omega
   obtain⟨r5,r6,r7,e⟩:=ZtI c n k (s.map λk=>tupI (Za9 c n k)) o4 o5 o6 hn (by omega) (by simp; omega);exact⟨_,e,Z (.pl (dN k)),r5,r6,r7,by simp⟩)
 subst p1;have hl:n<1000000:=by omega
 simp[Zd6,ZkT,h1,Zat,hl,e1,Z0]
end
section
def ahV(k:Nat):Int:=if(0:Int) > (k:Int)-1 then 0 else(k:Int)-1
def beV(n k:Nat):Int:=if(n:Int)-1<(k:Int)+1 then(n:Int)-1 else(k:Int)+1
def wlV(c:Int)(k:Nat):List Int:=sortI (dedup [] (ahV k::(if ZV (c+17*(k:Int)) 9929 6=1 then[(k:Int)]else[])))
theorem Zy0(c:Int)(n k:Nat)(hk:k<n):Cr n (wlV c k):=by
 unfold wlV;have ha:0<=ahV k/\ahV k<n:=by unfold ahV; split<;>omega
 refine ZiE (ZfH _ _ (by simp)) λx hx=>?_;rw[ZfT]at hx;rcases hx with h | h
 ·simp at h
 ·rcases ZBq.mp h with e | e
  ·subst e; exact ha
  ·split at e
   ·simp at e; subst e; omega
   ·simp at e
theorem ZyX(n k:Nat)(hk:k<n):Cr n [beV n k]:=by
 have ha:0<=beV n k/\beV n k<n:=by unfold beV; split<;>omega
 exact⟨by simp,λx hx=>by simp at hx; subst hx; exact ha⟩
theorem Zur(c:Int)(n k:Nat)(ls rs:List D)(o4 o5 o6 o7:Option B)(hk:k<8)(h1:ls.length<1000)(h2:rs.length<1000) :
  ∃r4 r5 r6,Zds [Z (.pl (.int c)),Z (.pl (.int n)),Z (.ol ls),Z (.ol rs),Z (.pl (dN k)),o5,o6,o7]=Z (.nx [Z (.pl (.int c)),Z (.pl (.int n)),Z (.ol (ls++[tupI (wlV c k)])),Z (.ol (rs++[tupI [beV n k]])),Z (.pl (dN k)),r4,r5,r6]):=by
 have h1':ls.length<1000000:=by omega
 have h2':rs.length<1000000:=by omega
 have m1:=Zcb (c+17*(k:Int)) 9929 6 (by decide) (by decide);have hk8:k=0\/k=1\/k=2\/k=3\/k=4\/k=5\/k=6\/k=7:=by omega
 have l1:ZvR [if(k:Int)-1<0 then 0 else(k:Int)-1,(k:Int)]=ZGH:=by rcases hk8 with rfl | rfl | rfl | rfl | rfl | rfl | rfl | rfl<;>rfl
 have l2:ZvR [if(k:Int)-1<0 then 0 else(k:Int)-1]=ZGH:=by rcases hk8 with rfl | rfl | rfl | rfl | rfl | rfl | rfl | rfl<;>rfl
 unfold wlV;generalize ZV (c+17*(k:Int)) 9929 6=a at *
 by_cases e:a=1
 ·subst e
  simp[Zds,m1,h1',h2',ahV,beV,Zap,ZiS,l1]
 ·have e':(a==1)=ZGI:=by simp[e]
  simp[Zds,m1,h1',h2',ahV,beV,e,e',Zap,ZiS,l2]
theorem Zxa(c:Int)(n:Nat)(hb:n<=8):Zd7 [.int c,.int n]=Z (.tuple [Z0 ((ZBm n).map λk=>wlV c k),Z0 ((ZBm n).map λk=>[beV n k])]):=by
 have h1:okR (n:Int)=ZGH:=ZdX (by omega);obtain⟨r',e1,o4,o5,o6,o7,p1⟩:=Zks (i:=4) (body:=Zds) dN (λ(s:List Nat) r=>∃o4 o5 o6 o7,r=[Z (.pl (.int c)),Z (.pl (.int n)),Z (.ol (s.map λk=>tupI (wlV c k))),Z (.ol (s.map λk=>tupI [beV n k])),o4,o5,o6,o7]) (ZBm n)
  [Z (.pl (.int c)),Z (.pl (.int n)),Z (.ol []),Z (.ol []),Z_,Z_,Z_,Z_] ⟨Z_,Z_,Z_,Z_,rfl⟩ (by
   rintro s k post r hxs ⟨o4,o5,o6,o7,rfl⟩
   have hk':k<n:=ZBD.mp (by rw[hxs]; simp);have hs:s.length<n:=by have:=congrArg ZB7 hxs; simp at this; omega
   obtain⟨r5,r6,r7,e⟩:=Zur c n k (s.map λk=>tupI (wlV c k)) (s.map λk=>tupI [beV n k]) o4 o5 o6 o7 (by omega) (by simp; omega) (by simp; omega);exact⟨_,e,Z (.pl (dN k)),r5,r6,r7,by simp⟩)
 subst p1;have hl:n<1000000:=by omega
 simp[Zd7,ZkU,h1,Zat,hl,e1,Z0]
section
variable(ns:List Int)(at_:Nat)
def ZU:Nat:=(2+ZV (Zv ns at_) 9923 4).toNat
def ZbU:List (List (List Int)):=(ZBm (1+ZV (Zv ns at_) 9907 3).toNat).map λk=>(ZBm (ZU ns at_)).map λs=>Za9 (Zv ns (at_+1+k)+61*(k:Int)) (ZU ns at_) s
def ZgV:List (List (List Int)) :=
 if ZV (Zv ns at_) 9901 3=1 then[(ZBm (ZU ns at_)).map λk=>wlV (Zv ns (at_+1)) k,(ZBm (ZU ns at_)).map λk=>[beV (ZU ns at_) k]]++(ZbU ns at_).take 1 else ZbU ns at_
def Zhu(k:Nat):List Int:=(ZBm (ZU ns at_)).map λ(s:Nat)=>ZV (Zv ns (at_+4+k)+71*(k:Int)+13*(s:Int)*(s:Int)) 9871 (2+ZV (Zv ns (at_+4+k)+71*(k:Int)) 9883 2)
def Zhb:List (List Int):=(ZBm (ZV (Zv ns at_) 9887 4).toNat).map (Zhu ns at_)
def ZpE:List Int:=if ZV (Zv ns at_) 9859 3=1 then(ZBm (ZU ns at_)).map λ(k:Nat)=>(k:Int)else crV (Zv ns (at_+7)) (ZU ns at_)
def Zwk:List Int:=crV (Zv ns (at_+8)) (ZU ns at_)
def wkV:Wk:=⟨ZU ns at_,ZgV ns at_,Zhb ns at_,ZpE ns at_,Zwk ns at_⟩
theorem ZkE:2<=ZU ns at_/\ZU ns at_<=5:=by have:=Zau (Zv ns at_) 9923 4 (by decide);unfold ZU; omega
theorem ZwH:((ZU ns at_:Nat):Int)=2+ZV (Zv ns at_) 9923 4:=by have:=Zau (Zv ns at_) 9923 4 (by decide);unfold ZU; omega
theorem Zyg:(wkV ns at_).Ok:=by
 have hm:=ZkE ns at_;have hd3:=Zau (Zv ns at_) 9907 3 (by decide);have dk:∀dd∈ZbU ns at_,dd.length=ZU ns at_/\∀c∈dd,Cr (ZU ns at_) c:=by intro dd h;unfold ZbU at h;obtain⟨k,_,rfl⟩:=ZBh.mp h;refine⟨by simp,λc hc=>?_⟩;obtain⟨s,_,rfl⟩:=ZBh.mp hc;exact Zxk _ _ _ (by omega)
 have dv:∀dd∈ZgV ns at_,dd.length=ZU ns at_/\∀c∈dd,Cr (ZU ns at_) c:=by
  intro dd h;unfold ZgV at h;split at h
  ·rcases ZBI.mp h with h | h
   ·simp at h
    rcases h with rfl | rfl
    ·refine⟨by simp,λc hc=>?_⟩
     obtain⟨s,hs,rfl⟩:=ZBh.mp hc;exact Zy0 _ _ _ (ZBD.mp hs)
    ·refine⟨by simp,λc hc=>?_⟩
     obtain⟨s,hs,rfl⟩:=ZBh.mp hc;exact ZyX _ _ (ZBD.mp hs)
   ·exact dk dd (ZE8 h)
  ·exact dk dd h
 have lk:(ZbU ns at_).length=(1+ZV (Zv ns at_) 9907 3).toNat:=by unfold ZbU; simp
 have lv:1<=(ZgV ns at_).length/\(ZgV ns at_).length<=3:=by
  unfold ZgV;split
  ·simp; omega
  ·omega
 have hl4:=Zau (Zv ns at_) 9887 4 (by decide);have lo:∀l∈Zhb ns at_,l.length=ZU ns at_/\∀x∈l,0<=x/\x<=9:=by intro l h;unfold Zhb at h;obtain⟨k,_,rfl⟩:=ZBh.mp h;unfold Zhu;refine⟨by simp,λx hx=>?_⟩;obtain⟨s,_,rfl⟩:=ZBh.mp hx;have h2:=Zau (Zv ns (at_+4+k)+71*(k:Int)) 9883 2 (by decide);have h3:=Zau (Zv ns (at_+4+k)+71*(k:Int)+13*(s:Int)*(s:Int)) 9871 (2+ZV (Zv ns (at_+4+k)+71*(k:Int)) 9883 2) (by omega);omega
 have ll:(Zhb ns at_).length<=3:=by unfold Zhb; simp; omega
 have cb:=Ztp (Zv ns (at_+7)) (ZU ns at_) (by omega);have cg:=Ztp (Zv ns (at_+8)) (ZU ns at_) (by omega);have hb:ZpE ns at_≠[]/\Cr (ZU ns at_) (ZpE ns at_):=by
  unfold ZpE;split
  ·refine⟨λe=>?_,?_⟩
   ·have:=congrArg ZB7 e
    simp at this;omega
   ·have:=ZiF (ZU ns at_) λ_=>ZGH
    rwa [ZCG.mpr λ_ _=>rfl]at this
  ·exact⟨cb.2,cb.1⟩
 exact⟨hm.1,hm.2,lv.1,lv.2,λdd h=>(dv dd h).1,λdd h=>(dv dd h).2,ll,λl h=>(lo l h).1,λl h=>(lo l h).2,hb.1,hb.2,cg.2,cg.1⟩
theorem ZAK(k:Int)(h:0<=k):Z3 [.list (ns.map dI),.int k]=Z (.int (Zv ns k.toNat)):=by
 have:=ZdY ns k.toNat
 rwa [ZCr h]at this
theorem Zs5(k n:Nat)(c:Option B)(ds:List D)(o6 o7 o8 o9 o10:Option B)(hk:k<1000)(h1:ds.length<1000)(hn:0<n)(hb:n<1000) :
  Zed [Z (.pl (.list (ns.map dI))),Z (.pl (.int at_)),c,Z (.pl (.int n)),Z (.ol ds),Z (.pl (dN k)),o6,o7,o8,o9,o10] =
   Z (.nx [Z (.pl (.list (ns.map dI))),Z (.pl (.int at_)),c,Z (.pl (.int n)),Z (.ol (ds++[Z0 ((ZBm n).map λs=>Za9 (Zv ns (at_+1+k)+61*(k:Int)) n s)])),Z (.pl (dN k)),o6,o7,o8,o9,o10]):=by
 have h1':ds.length<1000000:=by omega
 have hc:=ZdY ns (at_+1+k);have e:((at_+1+k:Nat):Int)=(at_:Int)+1+(k:Int):=by omega
 rw[e]at hc;have hd:=Zw4 (Zv ns (at_+1+k)+61*(k:Int)) n hn hb;simp[Zed,hc,hd,h1']
theorem ZsP(k n:Nat)(c o4:Option B)(ls:List D)(o7 o8 o9 o10:Option B)(hk:k<1000)(h1:ls.length<1000)(hn:n=ZU ns at_) :
  ∃r7 r8,ZcX [Z (.pl (.list (ns.map dI))),Z (.pl (.int at_)),c,Z (.pl (.int n)),o4,Z (.pl (dN k)),Z (.ol ls),o7,o8,o9,o10] =
   Z (.nx [Z (.pl (.list (ns.map dI))),Z (.pl (.int at_)),c,Z (.pl (.int n)),o4,Z (.pl (dN k)),Z (.ol (ls++[tupI (Zhu ns at_ k)])),r7,r8,o9,o10]):=by
 have hb:=ZkE ns at_;have h1':ls.length<1000000:=by omega
 have hc:=ZdY ns (at_+4+k);have e:((at_+4+k:Nat):Int)=(at_:Int)+4+(k:Int):=by omega
 rw[e]at hc;have m1:=Zcb (Zv ns (at_+4+k)+71*(k:Int)) 9883 2 (by decide) (by decide);have b1:=Zau (Zv ns (at_+4+k)+71*(k:Int)) 9883 2 (by decide);have hok:okR (n:Int)=ZGH:=ZdX (by omega);have hl:n<1000000:=by omega
 unfold Zhu;rw[<-hn];generalize ZV (Zv ns (at_+4+k)+71*(k:Int)) 9883 2=mo at *;generalize Zv ns (at_+4+k)=cc at *;simp[ZcX,hc,m1,hok,h1',Zat,hl];rw[ZaY dN λ(s:Nat)=>dI (ZV (cc+71*(k:Int)+13*(s:Int)*(s:Int)) 9871 (2+mo))]
 ·refine⟨Z (.pl (.int (cc+71*(k:Int)))),Z (.pl (.int (2+mo))),?_⟩
  simp
 ·intro s hs
  have hs':=ZBD.mp hs;have s2:ZS (13*(s:Int))=ZGH:=Zkg (by omega) (by omega);have m2:=Zcb (cc+71*(k:Int)+13*(s:Int)*(s:Int)) 9871 (2+mo) (by decide) (by omega);simp[s2,m2]
theorem ZvO(h:ns.length<=63):Zbs [.list (ns.map dI),.int at_]=Z (wkV ns at_).d:=by
 have hb:=ZkE ns at_;have hmc:=ZwH ns at_;have c0:=ZdY ns at_;have c1:=ZdY ns (at_+1);have c7:=ZdY ns (at_+7);have c8:=ZdY ns (at_+8);have e1:((at_+1:Nat):Int)=(at_:Int)+1:=by omega
 have e7:((at_+7:Nat):Int)=(at_:Int)+7:=by omega
 have e8:((at_+8:Nat):Int)=(at_:Int)+8:=by omega
 rw[e1]at c1;rw[e7]at c7;rw[e8]at c8;have m4:=Zcb (Zv ns at_) 9923 4 (by decide) (by decide);have m3:=Zcb (Zv ns at_) 9907 3 (by decide) (by decide);have b3:=Zau (Zv ns at_) 9907 3 (by decide);have mw:=Zcb (Zv ns at_) 9901 3 (by decide) (by decide);have ml:=Zcb (Zv ns at_) 9887 4 (by decide) (by decide);have bl:=Zau (Zv ns at_) 9887 4 (by decide);have mb:=Zcb (Zv ns at_) 9859 3 (by decide) (by decide);have wk:=Zxa (Zv ns (at_+1)) (ZU ns at_) (by omega);have k7:=Zp8 (Zv ns (at_+7)) (ZU ns at_) (by omega) (by omega);have k8:=Zp8 (Zv ns (at_+8)) (ZU ns at_) (by omega) (by omega);have hlen:¬(63:Int)<(ns.length:Int):=by omega
 have ok3:okR (1+ZV (Zv ns at_) 9907 3)=ZGH:=ZEd.mpr (by omega);have okl:okR (ZV (Zv ns at_) 9887 4)=ZGH:=ZEd.mpr (by omega);have okm:okR ((ZU ns at_:Nat):Int)=ZGH:=ZdX (by omega);obtain⟨r1,f1,o5,q1⟩:=Zks (i:=5) (body:=Zed) dN (λ(s:List Nat) r=>∃o5,r=[Z (.pl (.list (ns.map dI))),Z (.pl (.int at_)),Z (.pl (.int (Zv ns at_))),Z (.pl (.int (ZU ns at_))),
   Z (.ol (s.map λk=>Z0 ((ZBm (ZU ns at_)).map λs=>Za9 (Zv ns (at_+1+k)+61*(k:Int)) (ZU ns at_) s))),o5,Z_,Z_,Z_,Z_,Z_]) (ZBm (1+ZV (Zv ns at_) 9907 3).toNat)
  [Z (.pl (.list (ns.map dI))),Z (.pl (.int at_)),Z (.pl (.int (Zv ns at_))),Z (.pl (.int (ZU ns at_))),Z (.ol []),Z_,Z_,Z_,Z_,Z_,Z_] ⟨Z_,rfl⟩ (by
   rintro s k post r hxs ⟨o5,rfl⟩
   have hk':=ZBD.mp (show k∈ZBm (1+ZV (Zv ns at_) 9907 3).toNat by rw[hxs]; simp);have hs:s.length<4:=by have:=congrArg ZB7 hxs; simp at this; omega
   have e:=Zs5 ns at_ k (ZU ns at_) (Z (.pl (.int (Zv ns at_)))) (s.map λk=>Z0 ((ZBm (ZU ns at_)).map λs=>Za9 (Zv ns (at_+1+k)+61*(k:Int)) (ZU ns at_) s)) Z_ Z_ Z_ Z_ Z_ (by omega) (by simp; omega) (by omega) (by omega);exact⟨_,e,Z (.pl (dN k)),by simp⟩)
 subst q1;have lks:∀(o4 o5:Option B),∃r2,Zbm 5 ZcX ((ZBm (ZV (Zv ns at_) 9887 4).toNat).map dN) [Z (.pl (.list (ns.map dI))),Z (.pl (.int at_)),Z (.pl (.int (Zv ns at_))),Z (.pl (.int (ZU ns at_))),o4,o5,Z (.ol []),Z_,Z_,Z_,Z_]=Z (.nx r2) /\
   ∃o5 o7 o8,r2=[Z (.pl (.list (ns.map dI))),Z (.pl (.int at_)),Z (.pl (.int (Zv ns at_))),Z (.pl (.int (ZU ns at_))),o4,o5,Z (.ol ((ZBm (ZV (Zv ns at_) 9887 4).toNat).map λk=>tupI (Zhu ns at_ k))),o7,o8,Z_,Z_]:=by
  intro o4 o5;refine Zks (i:=5) (body:=ZcX) dN (λ(s:List Nat) r=>∃o5 o7 o8,r=[Z (.pl (.list (ns.map dI))),Z (.pl (.int at_)),Z (.pl (.int (Zv ns at_))),Z (.pl (.int (ZU ns at_))),
   o4,o5,Z (.ol (s.map λk=>tupI (Zhu ns at_ k))),o7,o8,Z_,Z_]) (ZBm (ZV (Zv ns at_) 9887 4).toNat) _ ⟨o5,Z_,Z_,rfl⟩ ?_
  rintro s k post r hxs ⟨o5,o7,o8,rfl⟩
  have hk':=ZBD.mp (show k∈ZBm (ZV (Zv ns at_) 9887 4).toNat by rw[hxs]; simp);have hs:s.length<4:=by have:=congrArg ZB7 hxs; simp at this; omega
  obtain⟨r7,r8,e⟩:=ZsP ns at_ k (ZU ns at_) (Z (.pl (.int (Zv ns at_)))) o4 (s.map λk=>tupI (Zhu ns at_ k)) o7 o8 Z_ Z_ (by omega) (by simp; omega) rfl;exact⟨_,e,Z (.pl (dN k)),r7,r8,by simp⟩
 have n3:(1+ZV (Zv ns at_) 9907 3).toNat<1000000:=by omega
 have nl:(ZV (Zv ns at_) 9887 4).toNat<1000000:=by omega
 have nm:ZU ns at_<1000000:=by omega
 have hdk:((ZBm (1+ZV (Zv ns at_) 9907 3).toNat).map λk=>Z0 ((ZBm (ZU ns at_)).map λs=>Za9 (Zv ns (at_+1+k)+61*(k:Int)) (ZU ns at_) s))=(ZbU ns at_).map Z0:=by unfold ZbU; simp
 have hlk:((ZBm (ZV (Zv ns at_) 9887 4).toNat).map λk=>tupI (Zhu ns at_ k))=(Zhb ns at_).map tupI:=by unfold Zhb; simp
 rw[hdk]at f1;simp only[hlk]at lks;have dkl:(ZbU ns at_).length<10:=by unfold ZbU; simp; omega
 unfold wkV Wk.d ZgV ZpE Zwk;simp only
 by_cases w1:ZV (Zv ns at_) 9901 3=1
 ·have w1':(ZV (Zv ns at_) 9901 3==1)=ZGH:=by simp[w1]
  have cut:cutD ((ZbU ns at_).map Z0) Z_ (Z 1)=((ZbU ns at_).take 1).map Z0:=by unfold cutD sIx;simp
  obtain⟨r2,f2,p5,p7,p8,q2⟩:=lks (Z (.ol (Z0 ((ZBm (ZU ns at_)).map λk=>wlV (Zv ns (at_+1)) k)::Z0 ((ZBm (ZU ns at_)).map λk=>[beV (ZU ns at_) k])::List.take 1 ((ZbU ns at_).map Z0)))) o5;subst q2;have c2:min 1 (ZbU ns at_).length+1+1<1000000:=by omega
  have c3:(2:Nat)+min 1 (ZbU ns at_).length<1000000:=by omega
  by_cases w2:ZV (Zv ns at_) 9859 3=1
  ·have w2':(ZV (Zv ns at_) 9859 3==1)=ZGH:=by simp[w2]
   simp[Zbs,Zdt,c0,m4,<-hmc,hlen,m3,ok3,Zat,n3,f1,mw,w1',c1,wk,cut,w1,ml,okl,nl,f2,c7,k7,mb,w2',okm,nm,c8,k8,w2,c2,c3]
  ·have w2':(ZV (Zv ns at_) 9859 3==1)=ZGI:=by simp[w2]
   simp[Zbs,Zdt,c0,m4,<-hmc,hlen,m3,ok3,Zat,n3,f1,mw,w1',c1,wk,cut,w1,ml,okl,nl,f2,c7,k7,mb,w2',okm,nm,c8,k8,w2,c2,c3]
 ·have w1':(ZV (Zv ns at_) 9901 3==1)=ZGI:=by simp[w1]
  obtain⟨r2,f2,p5,p7,p8,q2⟩:=lks (Z (.ol ((ZbU ns at_).map Z0))) o5;subst q2
  by_cases w2:ZV (Zv ns at_) 9859 3=1
  ·have w2':(ZV (Zv ns at_) 9859 3==1)=ZGH:=by simp[w2]
   simp[Zbs,Zdt,c0,m4,<-hmc,hlen,m3,ok3,Zat,n3,f1,mw,w1',w1,ml,okl,nl,f2,c7,k7,mb,w2',okm,nm,c8,k8,w2]
  ·have w2':(ZV (Zv ns at_) 9859 3==1)=ZGI:=by simp[w2]
   simp[Zbs,Zdt,c0,m4,<-hmc,hlen,m3,ok3,Zat,n3,f1,mw,w1',w1,ml,okl,nl,f2,c7,k7,mb,w2',okm,nm,c8,k8,w2]
end
end
section
theorem Zqg{e:EF}{r:HM.Env}{f:D->D}(xs:List D)(h:∀x∈xs,e (Z (.pl x)::r)=Z (f x)):ZaP ZW e r xs=Z (xs.map f):=by
 have:=ZaY (e:=e) (r:=r) id f xs h
 rwa [List.map_id]at this
theorem Zo1(xs:List D)(p:D->Bool):Zfb (xs.map λx=>ZCl (p x))=Z (xs.map p):=by
 have:=Zfa (xs.map p)
 rwa [ZBz]at this
def Zg9(d:D)(lo hi:Int):Bool:=match d with
 | .int i=>decide (lo<=i)&&decide (i<=hi)
 | _=>ZGI
def ndD:D->Prop
 | .dict _=>False
 | _=>True
theorem Ze5(d:D)(lo hi:Int)(nd:ndD d:=by trivial):ZaC [d,.int lo,.int hi]=Z (.bool (Zg9 d lo hi)):=by
 cases d<;>first | exact nd.elim | simp[ZaC,Zjl,Zg9]
 rename_i i
 by_cases h:lo<=i<;>simp[h]
def Zdd(d:D)(lo hi:Int):Bool:=match d with
 | .tuple ds=>decide (lo<=(ds.length:Int))&&decide ((ds.length:Int)<=hi)
 | _=>ZGI
theorem ZdJ(d:D)(lo hi:Int)(nd:ndD d:=by trivial):Zaw [d,.int lo,.int hi]=Z (.bool (Zdd d lo hi)):=by
 cases d<;>first | exact nd.elim | simp[Zaw,Zne,Zdd]
 rename_i ds
 by_cases h:lo<=(ds.length:Int)<;>simp[h]
def Zcm(many:Int):Int->List D->Bool
 | _,[]=>ZGH
 | l,.int i::r=>(decide (l<=i)&&decide (i<=many-1))&&Zcm many (i+1) r
 | _,_::_=>ZGI
def Zkx(d:D)(many:Int):Bool:=match d with
 | .tuple ds=>Zcm many 0 ds
 | _=>ZGI
theorem Zrh(d:D)(many:Int):∀(ds:List D) (l:Int) (o:Option B),(∀x∈ds,ndD x) ->
  (Zcm many l ds=ZGH->∃l' o',Zbm 3 ZaD ds [Z (.pl d),Z (.pl (.int many)),Z (.pl (.int l)),o]=Z (.nx [Z (.pl d),Z (.pl (.int many)),Z (.pl (.int l')),o'])) /\
  (Zcm many l ds=ZGI->Zbm 3 ZaD ds [Z (.pl d),Z (.pl (.int many)),Z (.pl (.int l)),o]=Z (.rt (.bool ZGI)))
 | [],l,o,_=>⟨λ_=>⟨l,o,rfl⟩,λh=>by simp[Zcm]at h⟩
 | x::ds,l,o,nd=>by
  have key:=Ze5 x l (many-1) (nd x (ZBf ..));cases hx:Zg9 x l (many-1)with
  | false =>
   have e:ZaD [Z (.pl d),Z (.pl (.int many)),Z (.pl (.int l)),Z (.pl x)]=Z (.rt (.bool ZGI)):=by rw[hx]at key;simp[ZaD,key]
   have e2:Zcm many l (x::ds)=ZGI:=by cases x<;>simp[Zcm];rename_i i;simp[Zg9]at hx;intro h1 h2;exact absurd (hx h1) (by omega)
   refine⟨λh=>?_,λ_=>?_⟩
   ·rw[e2]at h; cases h
   ·unfold Zbm
    show(match ZaD [Z (.pl d),Z (.pl (.int many)),Z (.pl (.int l)),Z (.pl x)]with | some (.nx r')=>_ | some (.ct r')=>_ | some (.bk r')=>_ | some (.rt d)=>_ | none=>_)=_;rw[e]
  | true =>
   cases x with
   | int i =>
    have e:ZaD [Z (.pl d),Z (.pl (.int many)),Z (.pl (.int l)),Z (.pl (.int i))]=Z (.nx [Z (.pl d),Z (.pl (.int many)),Z (.pl (.int (i+1))),Z (.pl (.int i))]):=by rw[hx]at key;simp[ZaD,key]
    have e2:Zcm many l (.int i::ds)=Zcm many (i+1) ds:=by have:(decide (l<=i)&&decide (i<=many-1))=ZGH:=hx;simp only[Zcm,this,ZGw]
    obtain⟨a1,a2⟩:=Zrh d many ds (i+1) (Z (.pl (.int i))) λx hx=>nd x (ZBi _ hx);rw[e2];have e3:Zbm 3 ZaD (.int i::ds) [Z (.pl d),Z (.pl (.int many)),Z (.pl (.int l)),o]=Zbm 3 ZaD ds [Z (.pl d),Z (.pl (.int many)),Z (.pl (.int (i+1))),Z (.pl (.int i))]:=by show(match ZaD [Z (.pl d),Z (.pl (.int many)),Z (.pl (.int l)),Z (.pl (.int i))]with | some (.nx r')=>_ | some (.ct r')=>_ | some (.bk r')=>_ | some (.rt d)=>_ | none=>_)=_;rw[e]
    rw[e3];exact⟨a1,a2⟩
   | _=>simp[Zg9]at hx
theorem ZjI(d:D)(many:Int)(hl:∀ds,d=.tuple ds->ds.length<1000000/\∀x∈ds,ndD x)(nd:ndD d:=by trivial):Zai [d,.int many]=Z (.bool (Zkx d many)):=by
 cases d with
 | tuple ds =>
  obtain⟨hl,hn⟩:=hl ds rfl;obtain⟨a1,a2⟩:=Zrh (.tuple ds) many ds 0 Z_ hn;cases h:Zcm many 0 ds with
  | true=>obtain⟨l',o',e⟩:=a1 h;simp[Zai,ZeK,Zkx,h,hl,e]
  | false=>have e:=a2 h;simp[Zai,ZeK,Zkx,h,hl,e]
 | dict _=>exact nd.elim
 | _=>simp[Zai,ZeK,Zkx]
def small:D->Prop
 | .tuple ds=>ds.length<1000000/\∀x∈ds,ndD x
 | .dict _=>False
 | _=>True
theorem Zmu(h:(c.map dI).length<1000000):small (tupI c):=⟨h,λx hx=>by obtain⟨i,_,rfl⟩:=ZBh.mp hx; trivial⟩
theorem Zqe{d:D}(h:small d):ndD d:=by cases d<;>first | exact h.elim | trivial
theorem Zuf{d:D}(h:small d):∀ds,d=.tuple ds->ds.length<1000000/\∀x∈ds,ndD x:=by rintro ds rfl; exact h
def Zkd(d:D)(many:Int):Bool:=Zdd d many many&&(match d with | .tuple ds=>ds.all λc=>Zkx c many | _=>ZGI)
def Zmb(d:D):Prop:=match d with | .tuple ds=>ds.length<1000000/\∀x∈ds,small x | .dict _=>False | _=>True
theorem Zvc{d:D}(h:Zmb d):ndD d:=by cases d<;>first | exact h.elim | trivial
theorem ZsH(d:D)(many:Int)(hs:Zmb d):ZcM [d,.int many]=Z (.bool (Zkd d many)):=by
 have h1:=ZdJ d many many (Zvc hs);cases hr:Zdd d many many with
 | false=>rw[hr]at h1; simp[ZcM,Zik,h1,Zkd,hr]
 | true =>
  rw[hr]at h1;cases d with
  | tuple ds =>
   have hs':ds.length<1000000/\∀x∈ds,small x:=hs;simp[ZcM,Zik,h1,Zkd,hr,hs'.1];rw[Zqg (f:=λc=>.bool (Zkx c many))]
   ·simp[Zo1]
   ·intro x hx
    simp[ZjI x many (Zuf (hs'.2 x hx)) (Zqe (hs'.2 x hx))]
  | _=>simp[Zdd]at hr
def ZjP(d:D)(many:Int):Bool:=Zdd d many many&&(match d with | .tuple ds=>ds.all λc=>Zg9 c 0 9 | _=>ZGI)
theorem ZsV(d:D)(many:Int)(hs:small d):ZcN [d,.int many]=Z (.bool (ZjP d many)):=by
 have h1:=ZdJ d many many (Zqe hs);cases hr:Zdd d many many with
 | false=>rw[hr]at h1; simp[ZcN,Zil,h1,ZjP,hr]
 | true =>
  rw[hr]at h1;cases d with
  | tuple ds =>
   have hs':ds.length<1000000:=hs.1;simp[ZcN,Zil,h1,ZjP,hr,hs'];rw[Zqg (f:=λc=>.bool (Zg9 c 0 9))]
   ·simp[Zo1]
   ·intro x hx
    simp[Ze5 x 0 9 (hs.2 x hx)]
  | _=>simp[Zdd]at hr
structure Wk.V(w:Wk):Prop where
 m1:1<=w.many
 m2:w.many<=8
 d1:1<=w.deeds.length
 d2:w.deeds.length<=5
 dl:∀dd∈w.deeds,dd.length=w.many
 dc:∀dd∈w.deeds,∀c∈dd,Cr w.many c
 l2:w.looks.length<=4
 ll:∀l∈w.looks,l.length=w.many
 lc:∀l∈w.looks,∀x∈l,0<=x/\x<=9
 b1:w.beg≠[]
 bc:Cr w.many w.beg
 gc:Cr w.many w.goal
theorem Wk.Ok.v(h:w.Ok):Wk.V w:=by obtain⟨m1,m2,d1,d2,dl,dc,l2,ll,lc,b1,bc,g1,gc⟩:=h;exact⟨by omega,by omega,d1,by omega,dl,dc,by omega,ll,lc,b1,bc,gc⟩
theorem ZmJ(n:Nat):∀(c:List Int) (l:Int),c.Pairwise (· < ·)->(∀x∈c,l<=x/\x<(n:Int))->Zcm n l (c.map dI)=ZGH
 | [],_,_,_=>rfl
 | x::c,l,hp,hb=>by have h1:=hb x (ZBf ..);have ih:=ZmJ n c (x+1) (ZB5.mp hp).2 λy hy=>⟨by have:=(ZB5.mp hp).1 y hy; omega,(hb y (ZBi _ hy)).2⟩;show((decide (l<=x)&&decide (x<=(n:Int)-1))&&Zcm n (x+1) (c.map dI))=ZGH;rw[ih,decide_eq_true h1.1,decide_eq_true (show x<=(n:Int)-1 by omega)];rfl
theorem Zj1(h:Cr n c)(hn:n<1000):Zai [tupI c,.int n]=Z (.bool ZGH):=by have hl:=h.len;rw[ZjI (tupI c) n (by intro ds e; cases e; exact⟨by simp; omega,λx hx=>by obtain⟨i,_,rfl⟩:=ZBh.mp hx; trivial⟩)];show Z (ZCl (Zcm n 0 (c.map dI)))=_;rw[ZmJ n c 0 h.1 h.2]
theorem Zq8(h:Cr n c)(h0:c≠[])(hn:n<1000):Zd5 [tupI c,.int n]=Z (.bool ZGH):=by
 have h1:=Zj1 h hn;have h2:(0:Int)<(c.length:Int):=by have:=ZFe.mpr h0;omega
 simp[Zd5,ZkP,h1];exact ZFe.mpr h0
theorem Zgx(h:Wk.V w){dd:List (List Int)}(hd:dd∈w.deeds):ZcM [Z0 dd,.int w.many]=Z (.bool ZGH):=by
 have hl:=h.dl dd hd;have m2:=h.m2;rw[ZsH (Z0 dd) _ (show(dd.map tupI).length<1000000/\∀x∈dd.map tupI,small x by refine⟨by simp; omega,λx hx=>?_⟩;obtain⟨c,hc,rfl⟩:=ZBh.mp hx;have:=(h.dc dd hd c hc).len;refine Zmu ?_;simp; omega)];have e:Zkd (Z0 dd) w.many=ZGH:=by unfold Zkd Z0 Zdd;simp[hl];intro c hc;exact ZmJ w.many c 0 (h.dc dd hd c hc).1 (h.dc dd hd c hc).2
 rw[e]
theorem Zwy(h:Wk.V w){l:List Int}(hd:l∈w.looks):ZcN [tupI l,.int w.many]=Z (.bool ZGH):=by
 have hl:=h.ll l hd;have m2:=h.m2;rw[ZsV (tupI l) _ (Zmu (show(l.map dI).length<1000000 by simp; omega))];have e:ZjP (tupI l) w.many=ZGH:=by unfold ZjP Zdd;simp[hl];intro x hx;have:=h.lc l hd x hx;simp[Zg9];omega
 rw[e]
theorem allTrue(α:Type)(xs:List α):Zfb (xs.map λ_=>ZCl ZGH)=Z (xs.map λ_=>ZGH):=by
 have:=Zfa (xs.map λ_=>ZGH)
 rwa [ZBz]at this
theorem Zpo(h:Wk.V w):Zdp [.tuple (w.deeds.map Z0),.int w.many]=Z (.bool ZGH):=by
 have h1:=ZdJ (.tuple (w.deeds.map Z0)) 1 5;have d1:=h.d1;have d2:=h.d2;have e:Zdd (.tuple (w.deeds.map Z0)) 1 5=ZGH:=by simp[Zdd]; omega
 rw[e]at h1;have hl:w.deeds.length<1000000:=by omega
 simp[Zdp,Zjm,h1,hl];rw[ZaY Z0 (λ_=>.bool ZGH)]
 ·simp[allTrue]
 ·intro x hx
  simp[Zgx h hx]
theorem Zqp(h:Wk.V w):Zdq [.tuple (w.looks.map tupI),.int w.many]=Z (.bool ZGH):=by
 have h1:=ZdJ (.tuple (w.looks.map tupI)) 0 4;have d2:=h.l2;have e:Zdd (.tuple (w.looks.map tupI)) 0 4=ZGH:=by simp[Zdd]; omega
 rw[e]at h1;have hl:w.looks.length<1000000:=by omega
 simp[Zdq,Zjn,h1,hl];rw[ZaY tupI (λ_=>.bool ZGH)]
 ·simp[allTrue]
 ·intro x hx
  simp[Zwy h hx]
theorem Zpf(h:Wk.V w):Zdr [w.d]=Z (.bool ZGH):=by
 have h1:=ZdJ w.d 5 5;have e:Zdd w.d 5 5=ZGH:=by simp[Zdd,Wk.d]
 rw[e]at h1;have h2:=Ze5 (.int w.many) 1 8;have m1:=h.m1;have m2:=h.m2;have e2:Zg9 (.int w.many) 1 8=ZGH:=by simp[Zg9]; omega
 rw[e2]at h2;have h3:=Zpo h;have h4:=Zqp h;have h5:=Zq8 h.bc h.b1 (by omega);have h6:=Zj1 h.gc (by omega);unfold Wk.d at h1 ⊢;simp[Zdr,Zjo,h1,h2,h3,h4,h5,h6]
theorem Zgn(h:Wk.V w):Zbr [w.d]=Z w.d:=by simp[Zbr,ZlL,Zpf h]
theorem ZfE(w:Wk):Zbc [w.d]=Z (.tuple (w.deeds.map Z0)):=by simp[Zbc,ZkQ,Wk.d]
theorem ZfK(w:Wk):Zbd [w.d]=Z (.tuple (w.looks.map tupI)):=by simp[Zbd,ZkR,Wk.d]
theorem Zha(h:Wk.V w)(hl:Cr w.looks.length ls):Zbh [w.d,tupI ls]=Z (tupI ls):=by have l2:=h.l2;have h1:=Zj1 hl (by omega);simp[Zbh,ZgD,ZfK,h1]
end
section
def ZcS(w:Wk)(d s:Int):List Int:=(w.deeds[d.toNat]?.getD [])[s.toNat]?.getD []
def ZdV(w:Wk)(l s:Int):Int:=(w.looks[l.toNat]?.getD [])[s.toNat]?.getD 0
def Zbz(w:Wk)(c:List Int)(d:Int):Bool:=c.all λs=>decide (0<(ZcS w d s).length)
def ZbR(w:Wk)(c:List Int)(d:Int):List Int:=c.flatMap λs=>ZcS w d s
def ZD(w:Wk)(c:List Int)(d:Int):List Int:=sortI (dedup [] (ZbR w c d))
def ZN(w:Wk)(ls:List Int)(s:Int):List Int:=ls.map λl=>ZdV w l s
theorem Zrq{d:Int}(h0:0<=d)(h1:d<w.deeds.length):atD (w.deeds.map Z0) d=Z (Z0 (w.deeds[d.toNat]?.getD [])):=by
 refine Zkp h0 ?_;have h:d.toNat<w.deeds.length:=by omega
 simp[h,ZCS]
theorem ZuF(hv:Wk.V w){d:Int}(h0:0<=d)(h1:d<w.deeds.length)(h2:0<=s)(h3:s<w.many):atD ((w.deeds[d.toNat]?.getD []).map tupI) s=Z (tupI (ZcS w d s)):=by
 refine Zkp h2 ?_;have h:d.toNat<w.deeds.length:=by omega
 have hl:(w.deeds[d.toNat]?.getD []).length=w.many:=by
  have:w.deeds[d.toNat]?.getD []=w.deeds[d.toNat]:=by simp[h,ZCS]
  rw[this];exact hv.dl _ (ZCY h)
 have h':s.toNat<(w.deeds[d.toNat]?.getD []).length:=by omega
 unfold ZcS;rw[ZBG,ZBu h'];simp[ZCS,h']
theorem Ztt(hv:Wk.V w){d:Int}(h0:0<=d)(h1:d<w.deeds.length)(h2:0<=s)(h3:s<w.many):Cr w.many (ZcS w d s):=by
 have h:d.toNat<w.deeds.length:=by omega
 have e:w.deeds[d.toNat]?.getD []=w.deeds[d.toNat]:=by simp[h,ZCS]
 have hl:=hv.dl _ (ZCY h);unfold ZcS;rw[e];have h':s.toNat<(w.deeds[d.toNat]).length:=by omega
 have e2:(w.deeds[d.toNat])[s.toNat]?.getD []=(w.deeds[d.toNat])[s.toNat]:=by simp[h',ZCS]
 rw[e2];exact hv.dc _ (ZCY h) _ (ZCY h')
theorem ZwC(h0:0<=l)(h1:l<w.looks.length):atD (w.looks.map tupI) l=Z (tupI (w.looks[l.toNat]?.getD [])):=by
 refine Zkp h0 ?_;have h:l.toNat<w.looks.length:=by omega
 simp[h,ZCS]
theorem Zw1(hv:Wk.V w)(h0:0<=l)(h1:l<w.looks.length)(h2:0<=s)(h3:s<w.many):atD ((w.looks[l.toNat]?.getD []).map dI) s=Z (.int (ZdV w l s)):=by
 refine Zkp h2 ?_;have h:l.toNat<w.looks.length:=by omega
 have hl:(w.looks[l.toNat]?.getD []).length=w.many:=by
  have:w.looks[l.toNat]?.getD []=w.looks[l.toNat]:=by simp[h,ZCS]
  rw[this];exact hv.ll _ (ZCY h)
 have h':s.toNat<(w.looks[l.toNat]?.getD []).length:=by omega
 unfold ZdV;rw[ZBG,ZBu h'];simp[ZCS,h']
theorem Zsf(hv:Wk.V w)(hl:Cr w.looks.length ls)(h2:0<=s)(h3:s<w.many):ZeL [w.d,tupI ls,.int s]=Z (tupI (ZN w ls s)):=by
 have l2:=hv.l2;have hlen:=hl.len;have hb:ls.length<1000000:=by omega
 simp[ZeL,ZlM,hb];rw[ZaY dI (λl=>dI (ZdV w l s))]
 ·simp[ZN]
 ·intro l hl'
  have hb:=hl.2 l hl';simp[ZfK,ZwC hb.1 hb.2,Zw1 hv hb.1 hb.2 h2 h3]
theorem ZmV(hv:Wk.V w)(hc:Cr w.many c){d:Int}(h0:0<=d)(h1:d<w.deeds.length):Zcy [w.d,tupI c,.int d]=Z (.bool (Zbz w c d)):=by
 have m2:=hv.m2;have hlen:=hc.len;have hb:c.length<1000000:=by omega
 simp[Zcy,Zh6,ZfE,Zrq h0 h1,hb];rw[ZaY dI (λs=>.bool (decide (0<(ZcS w d s).length)))]
 ·have e:=Zfa (c.map λs=>decide (0<(ZcS w d s).length))
  rw[ZBz]at e;have e':((λb=>ZCl b)∘λs=>decide (0<(ZcS w d s).length))=λs=>ZCl (decide (0<(ZcS w d s).length)):=rfl;rw[e']at e;simp[e,Zbz]
 ·intro s hs
  have hb:=hc.2 s hs;simp[Z0,ZuF hv h0 h1 hb.1 hb.2]
def doV(w:Wk)(c:List Int):List Int:=((ZBm w.deeds.length).filter λ(d:Nat)=>Zbz w c (d:Int)).map λ(k:Nat)=>(k:Int)
theorem Zoc(hv:Wk.V w)(hc:Cr w.many c):ZcW [w.d,tupI c]=Z (.list ((doV w c).map dI)):=by
 have d2:=hv.d2;have hok:okR (w.deeds.length:Int)=ZGH:=ZdX (by omega);have hb:w.deeds.length<1000000:=by omega
 simp[ZcW,Zi8,ZfE,hok,Zat,hb];rw[Zct dN (λk:Nat=>Zbz w c k) dN]
 ·simp[doV]
 ·intro k hk
  have hk':=ZBD.mp hk;simp[ZmV hv hc (show(0:Int)<=(k:Int) by omega) (by omega)]
 ·intro k hk _
  simp
def Zcw(acc:List Int)(x:Int):List Int:=if acc.contains x then acc else acc++[x]
theorem Zgk:∀(l acc:List Int),dedup acc l=l.foldl Zcw acc
 | [],acc=>rfl
 | x::l,acc=>by
  unfold dedup;rw[ZDj];unfold Zcw;split
  ·rw[Zgk l acc]; rfl
  ·rw[Zgk l (acc++[x])]; rfl
def tru(acc:List Int):List (Ky × D):=acc.map λi=>(ZC8 i,ZCl ZGH)
theorem ZwB(acc:List Int)(x:Int):putD (tru acc) (ZC8 x) (ZCl ZGH)=tru (Zcw acc x):=by
 unfold putD Zcw tru
 by_cases h:x∈acc
 ·have e1:((acc.map λi=>((ZC8 i:Ky),ZCl ZGH)).any λp=>decide (p.1=ZC8 x))=ZGH:=by
   simp; exact h
  have e2:acc.contains x=ZGH:=by simpa using h
  rw[if_pos e1,if_pos e2,ZBz];refine ZCF λi _=>?_;simp
 ·have e1:¬((acc.map λi=>((ZC8 i:Ky),ZCl ZGH)).any λp=>decide (p.1=ZC8 x))=ZGH:=by
   simp; exact h
  have e2:¬acc.contains x=ZGH:=by simpa using h
  rw[if_neg e1,if_neg e2];simp
theorem Znl(acc:List Int)(x:Int):(Zcw acc x).length<=acc.length+1:=by unfold Zcw; split<;>simp
theorem ZpH:∀(l acc:List Int),(l.foldl Zcw acc).length<=acc.length+l.length
 | [],acc=>by simp
 | x::l,acc=>by rw[ZDj];have:=ZpH l (Zcw acc x);have:=Znl acc x;simp; omega
theorem Zt9(e0 e1 e2 e3 e5:Option B):∀(l acc:List Int) (o:Option B),acc.length+l.length<1000000 ->
  ∃o',Zbm 6 ZeM (l.map dI) [e0,e1,e2,e3,Z (.ok (tru acc)),e5,o]=Z (.nx [e0,e1,e2,e3,Z (.ok (tru (l.foldl Zcw acc))),e5,o'])
 | [],acc,o,_=>⟨o,rfl⟩
 | x::l,acc,o,h=>by
  rw[ZBy]at h;have hb:acc.length<1000000:=by omega
  have e:ZeM [e0,e1,e2,e3,Z (.ok (tru acc)),e5,Z (.pl (dI x))]=Z (.nx [e0,e1,e2,e3,Z (.ok (tru (Zcw acc x))),e5,Z (.pl (dI x))]):=by
   have hl:(tru acc).length<1000000:=by unfold tru; simp; exact hb
   simp[ZeM,hl,ZwB]
  have hd:=Znl acc x;obtain⟨o',e'⟩:=Zt9 e0 e1 e2 e3 e5 l (Zcw acc x) (Z (.pl (dI x))) (by omega);refine⟨o',?_⟩;rw[ZBn,ZDj,<-e'];unfold Zbm;show(match ZeM [e0,e1,e2,e3,Z (.ok (tru acc)),e5,Z (.pl (dI x))]with | some (.nx r')=>_ | some (.ct r')=>_ | some (.bk r')=>_ | some (.rt d)=>_ | none=>_)=_;rw[e];cases l<;>rfl
theorem Ztq{w:Wk}(hv:Wk.V w){d:Int}(h0:0<=d)(h1:d<w.deeds.length)(e1 e2:Option B):∀(c acc:List Int) (o5 o6:Option B),(∀s∈c,0<=s/\s<(w.many:Int))->acc.length+c.length*10<100000 ->
  ∃o5' o6',Zbm 5 ZeN (c.map dI) [Z (.pl w.d),e1,e2,Z (.pl (Z0 (w.deeds[d.toNat]?.getD []))),Z (.ok (tru acc)),o5,o6]=Z (.nx [Z (.pl w.d),e1,e2,Z (.pl (Z0 (w.deeds[d.toNat]?.getD []))),Z (.ok (tru ((ZbR w c d).foldl Zcw acc))),o5',o6'])
 | [],acc,o5,o6,_,_=>⟨o5,o6,rfl⟩
 | s::c,acc,o5,o6,hs,hl=>by
  rw[ZBy]at hl;have hb:=hs s (ZBf ..);have hr:=(Ztt hv h0 h1 hb.1 hb.2).len;have m2:=hv.m2;have hrl:(ZcS w d s).length<1000000:=by omega
  obtain⟨o',e⟩:=Zt9 (Z (.pl w.d)) e1 e2 (Z (.pl (Z0 (w.deeds[d.toNat]?.getD [])))) (Z (.pl (dI s))) (ZcS w d s) acc o6 (by omega);have e':ZeN [Z (.pl w.d),e1,e2,Z (.pl (Z0 (w.deeds[d.toNat]?.getD []))),Z (.ok (tru acc)),Z (.pl (dI s)),o6]=Z (.nx [Z (.pl w.d),e1,e2,Z (.pl (Z0 (w.deeds[d.toNat]?.getD []))),Z (.ok (tru ((ZcS w d s).foldl Zcw acc))),Z (.pl (dI s)),o']):=by unfold Z0 at e ⊢;simp[ZeN,ZuF hv h0 h1 hb.1 hb.2,hrl,e]
  have hf:=ZpH (ZcS w d s) acc;obtain⟨p5,p6,ih⟩:=Ztq hv h0 h1 e1 e2 c ((ZcS w d s).foldl Zcw acc) (Z (.pl (dI s))) o' (λx hx=>hs x (ZBi _ hx)) (by omega);refine⟨p5,p6,?_⟩;have ef:ZbR w (s::c) d=ZcS w d s++ZbR w c d:=rfl;rw[ef,List.foldl_append,<-ih,ZBn];show(match ZeN [Z (.pl w.d),e1,e2,Z (.pl (Z0 (w.deeds[d.toNat]?.getD []))),Z (.ok (tru acc)),Z (.pl (dI s)),o6]with | some (.nx r')=>_ | some (.ct r')=>_ | some (.bk r')=>_ | some (.rt d)=>_ | none=>_)=_;rw[e']
theorem Zzf(hv:Wk.V w)(hc:Cr w.many c){d:Int}(h0:0<=d)(h1:d<w.deeds.length):∀x∈ZbR w c d,0<=x/\x<(w.many:Int):=by intro x hx;obtain⟨s,hs,h⟩:=ZDQ.mp hx;exact(Ztt hv h0 h1 (hc.2 s hs).1 (hc.2 s hs).2).2 x h
theorem ZcI(hv:Wk.V w)(hc:Cr w.many c){d:Int}(h0:0<=d)(h1:d<w.deeds.length):Cr w.many (ZD w c d):=by refine ZiE (ZfH _ _ (by simp)) λx hx=>Zzf hv hc h0 h1 x ?_;rw[ZfT]at hx;simpa using hx
theorem Ztu(hv:Wk.V w)(hc:Cr w.many c){d:Int}(h0:0<=d)(h1:d<w.deeds.length):ZeA [w.d,tupI c,.int d]=Z (tupI (ZD w c d)):=by
 have m2:=hv.m2;have hlen:=hc.len;have hb:c.length<1000000:=by omega
 obtain⟨o5,o6,e⟩:=Ztq hv h0 h1 (Z (.pl (tupI c))) (Z (.pl (.int d))) c [] Z_ Z_ hc.2 (by simp; omega);have hl:(dedup [] (ZbR w c d)).length<64:=by have h:=(ZcI hv hc h0 h1).len;have:=(sortI_perm (dedup [] (ZbR w c d))).length_eq;unfold ZD at h;omega
 have hs:=ZiM _ hl;rw[Zgk]at hs;have ek:(tru ((ZbR w c d).foldl Zcw [])).map (λp=>ZaQ p.1)=((ZbR w c d).foldl Zcw []).map dI:=by unfold tru;rw[ZBz];rfl
 simp[ZeA,Znf,ZfE,Zrq h0 h1,hb];rw[show Z (B.ok [])=Z (B.ok (tru [])) from rfl,e];simp[ek,hs,ZD,Zgk]
end
section
abbrev Gs:=List (List Int × List Int)
abbrev Zae(k:List Int):List Ky:=k.map ZC8
def Zcc(g:Gs):List (List Ky × List D):=g.map λp=>(Zae p.1,p.2.map dI)
theorem Zer{a b:List Int}(h:Zae a=Zae b):a=b:=by
 induction a generalizing b with
 | nil=>cases b with
  | nil=>rfl
  | cons _ _=>simp at h
 | cons x a ih=>cases b with
  | nil=>simp at h
  | cons y b=>simp at h;rw[h.1,ih (by simpa using h.2)]
theorem ZmP(a b:List Int):(Zae a=Zae b)↔a=b:=⟨Zer,λh=>by rw[h]⟩
theorem Zsk(k:List Int):ZmU (k.map dI)=Z (Zae k):=by
 induction k with
 | nil=>rfl
 | cons x k ih=>show(ZmU (k.map dI)).map (ZC8 x::·)=_;rw[ih];rfl
theorem ZbF(k:List Int):ZbG (tupI k)=Z (Zae k):=Zsk k
theorem ZlA(g:Gs)(k:List Int):Zj (Zcc g) (Zae k)=(Zj g k).map λp=>p.map dI:=by
 unfold Zj Zcc;rw[ZGs];have e:((λp:List Ky × List D=>decide (p.1=Zae k))∘λp:List Int × List Int=>(Zae p.1,p.2.map dI))=λp=>decide (p.1=k):=by
  funext p
  simp only[ZET];exact decide_eq_decide.mpr (ZmP p.1 k)
 rw[e];cases g.find? λp=>decide (p.1=k)<;>rfl
theorem Zrw(g:Gs)(k:List Int):ZcF (Zcc g) (Zae k)=Zcc (ZcF g k):=by
 unfold ZcF;rw[ZlA];cases Zj g k with
 | none=>simp[Zcc]
 | some p=>rfl
theorem ZrD(k:List Int)(s:Int):∀(g:Gs),Zd2 (Zcc g) (Zae k) (dI s)=Zcc (Zd2 g k s)
 | []=>rfl
 | (x,p)::g=>by
  show Zd2 ((Zae x,p.map dI)::Zcc g) (Zae k) (dI s)=Zcc (Zd2 ((x,p)::g) k s);unfold Zd2
  by_cases h:x=k
  ·rw[if_pos (by rw[h]),if_pos h]
   simp[Zcc]
  ·rw[if_neg (λe=>h (Zer e)),if_neg h,ZrD k s g]
   rfl
def Zg2(g:Gs)(k:List Int)(s:Int):Gs:=Zd2 (ZcF g k) k s
theorem Zhe(k:List Int):Zj ([]:Gs) k=Z_:=rfl
theorem ZbZ(x:List Int)(p:List Int)(g:Gs)(k:List Int):Zj ((x,p)::g) k=if x=k then Z p else Zj g k:=by
 unfold Zj;rw[ZCc]
 by_cases h:x=k<;>simp[h]
theorem Zp4(k:List Int)(s:Int)(k':List Int):∀(g:Gs),Zj (Zd2 g k s) k'=if k=k' then(Zj g k).map (·++[s])else Zj g k'
 | []=>by simp[Zd2,Zhe]
 | (x,p)::g=>by
  unfold Zd2
  by_cases h:x=k
  ·subst h
   rw[if_pos rfl,ZbZ,ZbZ,ZbZ,if_pos rfl];split<;>rfl
  ·rw[if_neg h,ZbZ,Zp4 k s k' g,ZbZ,ZbZ,if_neg h]
   by_cases h2:x=k'
   ·subst h2
    rw[if_pos rfl,if_pos rfl,if_neg (ZCn h)]
   ·rw[if_neg h2,if_neg h2]
theorem ZlZ(x:List Int)(p:List Int)(k:List Int):∀(g:Gs),Zj (g++[(x,p)]) k=match Zj g k with | some q=>Z q | none=>if x=k then Z p else Z_
 | []=>by simp[Zhe,ZbZ]
 | (y,q)::g=>by rw[ZFY,ZbZ,ZbZ,ZlZ x p k g];split<;>rfl
theorem Zlq(g:Gs)(k k':List Int):Zj (ZcF g k) k'=if k=k' then Z ((Zj g k).getD [])else Zj g k':=by
 unfold ZcF;cases h:Zj g k with
 | some p =>
  by_cases e:k=k'
  ·subst e; rw[if_pos rfl]; exact h
  ·rw[if_neg e]
 | none =>
  show Zj (g++[(k,[])]) k'=_;rw[ZlZ]
  by_cases e:k=k'
  ·subst e; rw[if_pos rfl,if_pos rfl,h]; rfl
  ·rw[if_neg e,if_neg e]
   cases Zj g k'<;>rfl
theorem Zvh(g:Gs)(k k':List Int)(s:Int):Zj (Zg2 g k s) k'=if k=k' then Z ((Zj g k).getD []++[s])else Zj g k':=by
 unfold Zg2;rw[Zp4,Zlq,Zlq,if_pos rfl]
 by_cases e:k=k'
 ·rw[if_pos e,if_pos e]; rfl
 ·rw[if_neg e,if_neg e,if_neg e]
theorem Zpl(k:List Int)(s:Int):∀(g:Gs),(Zd2 g k s).map (·.1)=g.map (·.1)
 | []=>rfl
 | (x,p)::g=>by
  unfold Zd2;split
  ·rfl
  ·rw[ZBn,Zpl k s g]; rfl
theorem Zlr(g:Gs)(k:List Int):(Zj g k).isSome=ZGH↔k∈g.map (·.1):=by
 induction g with
 | nil=>simp[Zhe]
 | cons p g ih =>
  obtain⟨x,q⟩:=p;rw[ZbZ,ZBn,ZBq]
  by_cases h:x=k
  ·simp[h]
  ·rw[if_neg h,ih]
   constructor
   ·exact .inr
   ·rintro (e | e)
    ·exact absurd e.symm h
    ·exact e
theorem ZvD(g:Gs)(k:List Int):(ZcF g k).map (·.1)=if k∈g.map (·.1)then g.map (·.1)else g.map (·.1)++[k]:=by
 unfold ZcF;cases h:Zj g k with
 | some p=>rw[if_pos ((Zlr g k).mp (by rw[h]; rfl))]
 | none=>rw[if_neg (λm=>by have:=(Zlr g k).mpr m; rw[h]at this; cases this)];simp
theorem ZvS(g:Gs)(k:List Int)(s:Int):(Zg2 g k s).map (·.1)=if k∈g.map (·.1)then g.map (·.1)else g.map (·.1)++[k]:=by unfold Zg2;rw[Zpl,ZvD]
def Zd4(f:Int->List Int)(c:List Int):Gs:=c.foldl (λg s=>Zg2 g (f s) s) []
structure Grp(f:Int->List Int)(pre:List Int)(g:Gs):Prop where
 nd:(g.map (·.1)).Nodup
 look:∀k,Zj g k=if k∈pre.map f then Z (pre.filter λs=>f s==k)else Z_
theorem Grp.mem{f:Int->List Int}{pre:List Int}{g:Gs}(h:Grp f pre g)(k:List Int):k∈g.map (·.1)↔k∈pre.map f:=by
 rw[<-Zlr,h.look];split
 ·rename_i m; exact⟨λ_=>m,λ_=>rfl⟩
 ·rename_i m; exact⟨(λe=>by cases e),λe=>absurd e m⟩
theorem Grp.step{f:Int->List Int}{pre:List Int}{g:Gs}(h:Grp f pre g)(s:Int):Grp f (pre++[s]) (Zg2 g (f s) s):=by
 refine⟨?_,λk=>?_⟩
 ·rw[ZvS]
  split
  ·exact h.nd
  ·rename_i m
   rw[ZDn];exact⟨h.nd,by simp,λa ha b hb=>by simp at hb; subst hb; exact λe=>m (e▸ha)⟩
 ·rw[Zvh,h.look,h.look,ZBJ,List.filter_append]
  by_cases e:f s=k
  ·subst e
   have e0:f s∈pre.map f++[s].map f:=by simp
   rw[if_pos rfl,if_pos e0];have e2:[s].filter (λx=>f x==f s)=[s]:=by simp
   rw[e2];split
   ·rfl
   ·rename_i m
    have:pre.filter (λx=>f x==f s)=[]:=by rw[ZEQ];intro a ha q;exact m (ZBh.mpr ⟨a,ha,by simpa using q⟩)
    rw[this]; rfl
  ·have e2:[s].filter (λx=>f x==k)=[]:=by simp[e]
   rw[if_neg e,e2,ZBW];have e3:(k∈pre.map f++[s].map f)↔k∈pre.map f:=by
    rw[ZBI]
    constructor
    ·rintro (q | q)
     ·exact q
     ·simp at q; exact absurd q.symm e
    ·exact .inl
   by_cases q:k∈pre.map f
   ·rw[if_pos q,if_pos (e3.mpr q)]
   ·rw[if_neg q,if_neg (λz=>q (e3.mp z))]
theorem ZrS(f:Int->List Int):∀(c pre:List Int) (g:Gs),Grp f pre g->Grp f (pre++c) (c.foldl (λg s=>Zg2 g (f s) s) g)
 | [],pre,g,h=>by rw[ZBW]; exact h
 | s::c,pre,g,h=>by have:=ZrS f c (pre++[s]) _ (h.step s);rw[ZC3]at this;exact this
theorem Zgz(f:Int->List Int)(c:List Int):Grp f c (Zd4 f c):=by
 have:=ZrS f c [] [] ⟨ZDb,λk=>by simp[Zhe]⟩
 rwa [ZDk]at this
def ZB(w:Wk)(ls c:List Int):Gs:=(Ze7 ((Zd4 (ZN w ls) c).map (·.1))).map λk=>(k,c.filter λs=>ZN w ls s==k)
def Zad(p:List Int × List Int):D:=.tuple [tupI p.1,tupI p.2]
theorem ZuR(ks:List (List Int)):Zkq (ks.map tupI)=Z ks:=by
 induction ks with
 | nil=>rfl
 | cons k ks ih=>show(match Zap (k.map dI)with | some ns=>(Zkq (ks.map tupI)).map (ns::·) | none=>Z_)=_;rw[ZcR,ih];rfl
theorem Zsw(ks:List (List Int))(h:ks.length<64)(hn:ks.length<2\/∀k∈ks,k≠[]):ZfD (ks.map tupI)=Z ((Ze7 ks).map tupI):=by
 unfold ZfD;rw[if_pos (by rw[ZBb]; exact h)];cases ks with
 | nil=>simp[Zap,sortI,Ze7,ofInts]
 | cons k ks =>
  have e:Zap (ZFf tupI (k::ks))=Z_:=rfl;rw[e,ZuR];have e2:(decide ((ZFf tupI (k::ks)).length<2)||(k::ks).all λt=>!t.isEmpty)=ZGH:=by
   rw[ZCq,ZBb];rcases hn with q | q
   ·exact .inl (by simpa using q)
   ·refine .inr (ZBj.mpr λt ht=>?_)
    have:=q t ht;cases t with
    | nil=>exact absurd rfl this
    | cons _ _=>rfl
  dsimp only;rw[if_pos e2];unfold ZfN;simp only[ZiS]
theorem ZcU(ks:List (List Int)):(Ze7 ks).Perm ks:=ZEl ks _
theorem ZxI(w:Wk)(ls c:List Int)(hc:c.length<60):ZfD ((Zcc (Zd4 (ZN w ls) c)).map λp=>ZBL (p.1.map ZaQ))=Z ((Ze7 ((Zd4 (ZN w ls) c).map (·.1))).map tupI):=by
 have hg:=Zgz (ZN w ls) c;have e:((Zcc (Zd4 (ZN w ls) c)).map λp=>ZBL (p.1.map ZaQ))=((Zd4 (ZN w ls) c).map (·.1)).map tupI:=by unfold Zcc;rw[ZBz,ZBz];refine ZCF λp _=>?_;simp only[ZET];unfold Zae tupI;rw[ZBz];rfl
 rw[e];have hsub:∀k∈(Zd4 (ZN w ls) c).map (·.1),k∈c.map (ZN w ls):=λk hk=>(hg.mem k).mp hk;refine Zsw _ ?_ ?_
 ·have:(Zd4 (ZN w ls) c).map (·.1) ⊆ c.map (ZN w ls):=hsub
  have:=(ZCz hg.nd this);rw[ZBb,ZBb]at this;rw[ZBb];omega
 ·cases ls with
  | nil =>
   left
   have:(Zd4 (ZN w []) c).map (·.1) ⊆ [[]]:=λk hk=>by obtain⟨s,_,e⟩:=ZBh.mp (hsub k hk);rw[<-e];simp[ZN]
   have:=(ZCz hg.nd this);simp at this ⊢;omega
  | cons l ls =>
   right
   intro k hk e;obtain⟨s,_,e'⟩:=ZBh.mp (hsub k hk);rw[e]at e';simp[ZN]at e'
theorem Zsj(w:Wk)(ls c:List Int)(e:EF)(r:HM.Env)(h:∀k∈(Zd4 (ZN w ls) c).map (·.1),e (Z (.pl (tupI k))::r)=Z (.tuple [tupI k,.tuple ((c.filter λs=>ZN w ls s==k).map dI)])) :
  ZaP ZW e r ((Ze7 ((Zd4 (ZN w ls) c).map (·.1))).map tupI)=Z ((ZB w ls c).map Zad):=by
 rw[ZaY tupI (λk=>.tuple [tupI k,.tuple ((c.filter λs=>ZN w ls s==k).map dI)])]
 ·unfold ZB
  rw[ZBz];rfl
 ·intro k hk
  exact h k ((ZcU _).mem_iff.mp hk)
theorem ZvT(w:Wk)(ls c:List Int)(k:List Int)(hk:k∈(Zd4 (ZN w ls) c).map (·.1)):Zj (Zcc (Zd4 (ZN w ls) c)) (Zae k)=Z ((c.filter λs=>ZN w ls s==k).map dI):=by have hg:=Zgz (ZN w ls) c;rw[ZlA,hg.look,if_pos ((hg.mem k).mp hk)];rfl
theorem Zxd(f:Int->List Int)(pre:List Int)(g:Gs)(h:Grp f pre g)(k:List Int)(p:List Int)(e:Zj g k=Z p):p.length<=pre.length:=by
 rw[h.look]at e;split at e
 ·cases e; exact ZCu _ _
 ·cases e
theorem ZsS(f:Int->List Int)(pre:List Int)(g:Gs)(h:Grp f pre g):g.length<=pre.length:=by have h2:g.map (·.1) ⊆ pre.map f:=λk hk=>(h.mem k).mp hk;have:=ZCz h.nd h2;simpa using this
theorem ZnB{w:Wk}(hv:Wk.V w){ls:List Int}(hl:Cr w.looks.length ls)(e2:Option B):∀(c pre:List Int) (g:Gs) (o:Option B),Grp (ZN w ls) pre g->(∀s∈c,0<=s/\s<(w.many:Int))->pre.length+c.length<1000 ->
  ∃o',Zbm 4 ZeO (c.map dI) [Z (.pl w.d),Z (.pl (tupI ls)),e2,Z (.otl (Zcc g)),o]=Z (.nx [Z (.pl w.d),Z (.pl (tupI ls)),e2,Z (.otl (Zcc (c.foldl (λg s=>Zg2 g (ZN w ls s) s) g))),o'])
 | [],pre,g,o,_,_,_=>⟨o,rfl⟩
 | s::c,pre,g,o,hg,hb,hn=>by
  rw[ZBy]at hn;have hs:=hb s (ZBf ..);have hlen:(Zcc g).length<1000000:=by have:=ZsS _ _ _ hg;unfold Zcc;rw[ZBb]; omega
  have h1:Zj (ZcF (Zcc g) (Zae (ZN w ls s))) (Zae (ZN w ls s))=Z (((Zj g (ZN w ls s)).getD []).map dI):=by rw[Zrw,ZlA,Zlq,if_pos rfl]; rfl
  have h2:(((Zj g (ZN w ls s)).getD []).map dI).length<1000000:=by
   rw[ZBb];cases e:Zj g (ZN w ls s)with
   | none=>simp
   | some p=>have:=Zxd _ _ _ hg _ _ e;simp; omega
  have h2':((Zj g (ZN w ls s)).getD []).length<1000000:=by rwa [ZBb]at h2
  have e:ZeO [Z (.pl w.d),Z (.pl (tupI ls)),e2,Z (.otl (Zcc g)),Z (.pl (dI s))]=Z (.nx [Z (.pl w.d),Z (.pl (tupI ls)),e2,Z (.otl (Zcc (Zg2 g (ZN w ls s) s))),Z (.pl (dI s))]):=by have ek:=Zsf hv hl hs.1 hs.2;simp[ZeO,ek,ZbF,hlen,h1,h2'];rw[Zrw,ZrD];rfl
  obtain⟨o',ih⟩:=ZnB hv hl e2 c (pre++[s]) (Zg2 g (ZN w ls s) s) (Z (.pl (dI s))) (hg.step s) (λx hx=>hb x (ZBi _ hx)) (by simp; omega);refine⟨o',?_⟩;rw[ZBn,ZDj,<-ih];show(match ZeO [Z (.pl w.d),Z (.pl (tupI ls)),e2,Z (.otl (Zcc g)),Z (.pl (dI s))]with | some (.nx r')=>_ | some (.ct r')=>_ | some (.bk r')=>_ | some (.rt d)=>_ | none=>_)=_;rw[e]
theorem ZfM(hv:Wk.V w)(hl:Cr w.looks.length ls)(hc:Cr w.many c):Zaj [w.d,tupI ls,tupI c]=Z (.list ((ZB w ls c).map Zad)):=by
 have m2:=hv.m2;have hlen:=hc.len;have hb:c.length<1000000:=by omega
 obtain⟨o',e⟩:=ZnB hv hl (Z (.pl (tupI c))) c [] [] Z_ ⟨ZDb,λk=>by simp[Zhe]⟩ hc.2 (by simp; omega);have hk:=ZxI w ls c (by omega);have hg:c.foldl (λg s=>Zg2 g (ZN w ls s) s) []=Zd4 (ZN w ls) c:=rfl;rw[hg]at e;have hn:(Ze7 ((Zd4 (ZN w ls) c).map (·.1))).length<1000000:=by rw[(ZcU _).length_eq,ZBb];have:=ZsS _ _ _ (Zgz (ZN w ls) c);omega
 simp[Zaj,Zng,hb];rw[show Z (B.otl [])=Z (B.otl (Zcc [])) from rfl,e];simp[hk,hn];rw[Zsj]
 ·simp
 ·intro k hk'
  simp[ZbF,ZvT w ls c k hk']
end
section
def nbD:Nat->D->Bool
 | _,.none=>ZGH
 | _,.int _=>ZGH
 | _,.str x=>PyData.canLay0 (.str x)
 | 0,_=>ZGI
 | n+1,.list ds=>ds.all (nbD n)
 | n+1,.tuple ds=>ds.all (nbD n)
 | _,_=>ZGI
theorem Zj6(h:∀d∈ds,d.canLay0=ZGH):ZD3 ds=ZGH:=by
 induction ds with
 | nil=>rfl
 | cons d ds ih=>show(d.canLay0&&ZD3 ds)=ZGH;rw[h d (ZBf ..),ih λx hx=>h x (ZBi _ hx)];rfl
theorem Zk3(h:∀d∈ds,d.depth<=n):ZE9 ds<=n:=by
 induction ds with
 | nil=>exact ZCC _
 | cons d ds ih=>show max d.depth (ZE9 ds)<=n;have h1:=h d (ZBf ..);have h2:=ih λx hx=>h x (ZBi _ hx);omega
theorem Zj9:∀(n:Nat) (d:D),nbD n d=ZGH->d.canLay0=ZGH/\d.depth<=n
 | n,.none,_=>⟨rfl,by show 0<=n; omega⟩
 | n,.int _,_=>⟨rfl,by show 0<=n; omega⟩
 | n,.str x,h=>by refine⟨?_,by show 0<=n; omega⟩;cases n<;>exact h
 | 0,.bool _,h=>by cases h
 | 0,.list _,h=>by cases h
 | 0,.tuple _,h=>by cases h
 | 0,.dict _,h=>by cases h
 | n+1,.bool _,h=>by cases h
 | n+1,.dict _,h=>by cases h
 | n+1,.list ds,h=>by have h':ds.all (nbD n)=ZGH:=h;have hh:=ZBj.mp h';refine⟨Zj6 λd hd=>(Zj9 n d (hh d hd)).1,?_⟩;show ZE9 ds+1<=n+1;have:=Zk3 λd hd=>(Zj9 n d (hh d hd)).2;omega
 | n+1,.tuple ds,h=>by have h':ds.all (nbD n)=ZGH:=h;have hh:=ZBj.mp h';refine⟨Zj6 λd hd=>(Zj9 n d (hh d hd)).1,?_⟩;show ZE9 ds+1<=n+1;have:=Zk3 λd hd=>(Zj9 n d (hh d hd)).2;omega
theorem Zhc{d:D}(h:nbD n d=ZGH)(hn:n<=60):Zcn d=ZGH:=by obtain⟨h1,h2⟩:=Zj9 n d h;unfold Zcn;rw[h1,decide_eq_true (show d.depth<=60 by omega)];rfl
theorem Zmm(ih:∀d∈ds,∀e,(∃m,nbD m e=ZGH)->(ZEx d e=ZGH↔d=e)):∀(es:List D),(∀e∈es,∃m,nbD m e=ZGH)->(ZFA ds es=ZGH↔ds=es):=by
 induction ds with
 | nil =>
  intro es _;cases es with
  | nil=>exact⟨λ_=>rfl,λ_=>rfl⟩
  | cons e es=>exact⟨(λh=>by cases h),(λh=>by cases h)⟩
 | cons d ds ihl =>
  intro es he;cases es with
  | nil=>exact⟨(λh=>by cases h),(λh=>by cases h)⟩
  | cons e es=>show((ZEx d e&&ZFA ds es)=ZGH)↔_;rw[ZBx,ih d (ZBf ..) e (he e (ZBf ..)),ihl (λx hx=>ih x (ZBi _ hx)) es (λx hx=>he x (ZBi _ hx)),List.cons.injEq]
theorem ZwQ(h:nbD m (.list ds)=ZGH):∀d∈ds,∃m,nbD m d=ZGH:=by
 cases m with
 | zero=>cases h
 | succ m=>have h':ds.all (nbD m)=ZGH:=h;exact λd hd=>⟨m,ZBj.mp h' d hd⟩
theorem Zvp(h:nbD m (.tuple ds)=ZGH):∀d∈ds,∃m,nbD m d=ZGH:=by
 cases m with
 | zero=>cases h
 | succ m=>have h':ds.all (nbD m)=ZGH:=h;exact λd hd=>⟨m,ZBj.mp h' d hd⟩
theorem Zfu{b:Bool}(h:nbD m (.bool b)=ZGH):False:=by cases m<;>cases h
theorem Zfq{b:List (D × D)}(h:nbD m (.dict b)=ZGH):False:=by cases m<;>cases h
theorem Zm6:∀(n:Nat) (d e:D),nbD n d=ZGH->(∃m,nbD m e=ZGH)->(ZEx d e=ZGH↔d=e):=by
 intro n
 induction n with
 | zero =>
  intro d e hd ⟨m,he⟩;cases d<;>first | cases hd | skip
  all_goals cases e<;>first
   | exact(Zfu he).elim
   | exact(Zfq he).elim
   | exact⟨λ_=>rfl,λ_=>rfl⟩
   | exact⟨(λh=>by cases h),(λh=>by cases h)⟩
   | (rename_i a b; show((a==b)=ZGH)↔_; simp)
 | succ n ih =>
  intro d e hd ⟨m,he⟩;cases d with
  | bool _=>exact(Zfu hd).elim
  | dict _=>exact(Zfq hd).elim
  | list ds =>
   cases e with
   | list es=>show(ZFA ds es=ZGH)↔_;rw[Zmm (λd h e he=>ih d e (ZBj.mp (show ds.all (nbD n)=ZGH from hd) d h) he) es (ZwQ he)];simp
   | bool _=>exact(Zfu he).elim
   | dict _=>exact(Zfq he).elim
   | _=>exact⟨(λh=>by cases h),(λh=>by cases h)⟩
  | tuple ds =>
   cases e with
   | tuple es=>show(ZFA ds es=ZGH)↔_;rw[Zmm (λd h e he=>ih d e (ZBj.mp (show ds.all (nbD n)=ZGH from hd) d h) he) es (Zvp he)];simp
   | bool _=>exact(Zfu he).elim
   | dict _=>exact(Zfq he).elim
   | _=>exact⟨(λh=>by cases h),(λh=>by cases h)⟩
  | none=>cases e<;>first
   | exact(Zfu he).elim
   | exact(Zfq he).elim
   | exact⟨λ_=>rfl,λ_=>rfl⟩
   | exact⟨(λh=>by cases h),(λh=>by cases h)⟩
  | int i=>cases e<;>first
   | exact(Zfu he).elim
   | exact(Zfq he).elim
   | exact⟨(λh=>by cases h),(λh=>by cases h)⟩
   | (rename_i b; show((i==b)=ZGH)↔_; simp)
  | str i=>cases e<;>first
   | exact(Zfu he).elim
   | exact(Zfq he).elim
   | exact⟨(λh=>by cases h),(λh=>by cases h)⟩
   | (rename_i b; show((i==b)=ZGH)↔_; simp)
theorem Zxq{d e:D}(hd:nbD n d=ZGH)(he:nbD m e=ZGH)(hn:n<=60)(hm:m<=60)[Decidable (d=e)]:gEq d e=Z (.bool (decide (d=e))):=by
 unfold gEq;rw[Zhc hd hn,Zhc he hm,if_pos (by rfl)];congr 2;have h:=Zm6 n d e hd ⟨m,he⟩;cases q:ZEx d e with
 | true=>exact(decide_eq_true (h.mp q)).symm
 | false=>exact(decide_eq_false λz=>by rw[h.mpr z]at q; cases q).symm
theorem ZiC{d:D}(hd:nbD n d=ZGH)(hn:n<=60):gEq d d=Z (.bool ZGH):=by unfold gEq;rw[Zhc hd hn,(Zm6 n d d hd ⟨n,hd⟩).mpr rfl];rfl
theorem ZjY{d e:D}(hd:nbD n d=ZGH)(he:nbD m e=ZGH)(hn:n<=60)(hm:m<=60)(h:d≠e):gEq d e=Z (.bool ZGI):=by have:Decidable (d=e):=isFalse h;rw[Zxq hd he hn hm,decide_eq_false h]
theorem Zvb{d:D}(hd:nbD n d=ZGH)(hn:n<=60):gNe d d=Z (.bool ZGI):=by unfold gNe;rw[Zhc hd hn,(Zm6 n d d hd ⟨n,hd⟩).mpr rfl];rfl
theorem ZmM(n:Nat)(ns:List Int):nbD (n+1) (tupI ns)=ZGH:=by show(ns.map dI).all (nbD n)=ZGH;rw[ZBj];intro d hd;obtain⟨i,_,rfl⟩:=ZBh.mp hd;cases n<;>rfl
theorem ZAq(n:Nat)(ns:List Int):nbD (n+1) (.list (ns.map dI))=ZGH:=ZmM n ns
theorem Zuy(h:∀d∈ds,nbD n d=ZGH):nbD (n+1) (.tuple ds)=ZGH:=ZBj.mpr h
theorem ZA1(h:∀d∈ds,nbD n d=ZGH):nbD (n+1) (.list ds)=ZGH:=ZBj.mpr h
theorem ZdM(n:Nat)(i:Int):nbD n (.int i)=ZGH:=by cases n<;>rfl
theorem Zxj(n:Nat):nbD n .none=ZGH:=by cases n<;>rfl
end
section
def lkV(n:Nat)(c:Int):List Int:=((ZBm n).filter λ(k:Nat)=>decide (0<ZV (c+19*(k:Int)) 9857 4)).map λ(k:Nat)=>(k:Int)
theorem ZA0(n:Nat)(c:Int):Cr n (lkV n c):=ZiF n _
def ZA8(w:Wk)(c:List Int)(d:Int):D:=if Zbz w c d then tupI (ZD w c d)else .none
theorem Zan{d:Int}(h:d∈doV w c):0<=d/\d<w.deeds.length/\Zbz w c d=ZGH:=by unfold doV at h;obtain⟨k,hk,rfl⟩:=ZBh.mp h;obtain⟨h1,h2⟩:=ZBF.mp hk;have:=ZBD.mp h1;exact⟨by omega,by omega,h2⟩
end
end HG
namespace HG4
open PySem HM HG
def Zjp:SF :=
 (ZC (Zi4 (ZbI (Zaz (bOf (Zm Zbd (Za (Zm Zbr (Za (Zc 0) Zi)) Zi)))))))
def Zdu:List D->Option D:=fnOf 1 1 Zjp
end HG4
namespace HM
open PySem
theorem Zht{α:Type}{c:TF}{e:EF}{r:Env}(a b:α->D)(p:α->Bool)(f:α->D):∀(xs:List α),(∀x∈xs,c (Z (.pl (a x))::Z (.pl (b x))::r)=Z (p x))->(∀x∈xs,p x=ZGH->e (Z (.pl (a x))::Z (.pl (b x))::r)=Z (f x)) ->
  ZdU c e r (xs.map λx=>.tuple [a x,b x])=Z ((xs.filter p).map f)
 | [],_,_=>rfl
 | x::xs,h1,h2=>by
  have ih:=Zht a b p f xs (λy hy=>h1 y (ZBi _ hy)) (λy hy=>h2 y (ZBi _ hy));have hc:=h1 x (ZBf ..);rw[ZBn];unfold ZdU;rw[hc];cases hp:p x with
  | true=>have he:=h2 x (ZBf ..) hp;dsimp only;rw[he];dsimp only;rw[ih,ZF3 hp];rfl
  | false=>dsimp only;rw[ih,ZF4 (by simp[hp])]
theorem ZO{P:Option Out->Prop}{a b:SF}{r r':Env}(h:a r=Z (.nx r'))(k:P (b r')):P (Zs a b r):=by show P (match a r with | some (.nx r')=>b r' | some (.rt d)=>Z (.rt d) | some (.bk r')=>Z (.bk r') | some (.ct r')=>Z (.ct r') | none=>Z_);rw[h];exact k
end HM
namespace HG4
open PySem HM HG
variable{x:Int}{c:List Int}{w:Wk}
def Zcd(w:Wk)(ls c:List Int)(s:Int):List Int:=c.filter λx=>ZN w ls x==ZN w ls s
theorem Zys{n:Nat}(p:Int->Bool)(h:Cr n c):Cr n (c.filter p):=⟨h.1.filter p,λx hx=>h.2 x (ZBF.mp hx).1⟩
def alV(w:Wk):List Int:=(ZBm w.looks.length).map λ(k:Nat)=>(k:Int)
theorem Zj5(w:Wk):Cr w.looks.length (alV w):=by
 have:=ZiF w.looks.length λ_=>ZGH
 rwa [ZCG.mpr λ_ _=>rfl]at this
theorem Zg7{ls:List Int}{s:Int}:x∈Zcd w ls c s↔x∈c/\ZN w ls x=ZN w ls s:=by unfold Zcd;rw[ZBF,beq_iff_eq]
theorem Znb{d:Int}:x∈ZD w c d↔∃s∈c,x∈ZcS w d s:=by
 unfold ZD;rw[(sortI_perm _).mem_iff,ZfT];unfold ZbR;rw[ZDQ]
 constructor
 ·rintro (h | h)
  ·cases h
  ·exact h
 ·exact .inr
theorem Zqn(hv:Wk.V w):Zdu [w.d]=Z (tupI (alV w)):=by
 have l2:=hv.l2;have hok:okR (w.looks.length:Int)=ZGH:=ZdX (by omega);have hb:w.looks.length<1000000:=by omega
 simp[Zdu,Zjp,Zgn hv,ZfK,hok,Zat,hb,alV]
end HG4
namespace HM
open PySem
def ZG:Option Out->Option D
 | some (.nx _)=>Z .none
 | some (.rt d)=>Z d
 | _=>Z_
end HM
namespace HG4
open PySem HM HG
end HG4
namespace HG5
open PySem HM HG HG4
variable{L:List (List Int)}{c ls p:List Int}{m n:Nat}{w:Wk}
def Zx(w:Wk)(ls c:List Int):List (List Int):=(ZB w ls c).map (·.2)
theorem ZaM:p∈Zx w ls c↔∃s∈c,p=Zcd w ls c s:=by
 unfold Zx ZB;rw[ZBz,ZBh];have hg:=Zgz (ZN w ls) c
 constructor
 ·rintro ⟨k,hk,rfl⟩
  obtain⟨s,hs,e⟩:=ZBh.mp ((hg.mem k).mp ((ZcU _).mem_iff.mp hk));refine⟨s,hs,?_⟩;subst e;rfl
 ·rintro ⟨s,hs,rfl⟩
  exact⟨ZN w ls s,(ZcU _).mem_iff.mpr ((hg.mem _).mpr (ZBh.mpr ⟨s,hs,rfl⟩)),rfl⟩
theorem Zgy(hc:Cr w.many c)(h:p∈Zx w ls c):Cr w.many p/\p≠[]/\∀x∈p,x∈c:=by obtain⟨s,hs,rfl⟩:=ZaM.mp h;exact⟨Zys _ hc,ZEt (Zg7.mpr ⟨hs,rfl⟩),λx hx=>(Zg7.mp hx).1⟩
theorem Zk0(w:Wk)(ls c:List Int):(Zx w ls c).Nodup:=by unfold Zx ZB;rw[ZBz];have hg:=Zgz (ZN w ls) c;have hn:(Ze7 ((Zd4 (ZN w ls) c).map (·.1))).Nodup:=(ZcU _).nodup_iff.mpr hg.nd;rw[ZFB,ZEJ];refine List.Pairwise.imp_of_mem (λ{a b} ha hb hne e=>?_) (ZFB.mp hn);obtain⟨s,hs,es⟩:=ZBh.mp ((hg.mem a).mp ((ZcU _).mem_iff.mp ha));have h1:s∈c.filter λs=>ZN w ls s==a:=ZBF.mpr ⟨hs,beq_iff_eq.mpr es⟩;have e':(c.filter λs=>ZN w ls s==a)=c.filter λs=>ZN w ls s==b:=e;rw[e']at h1;have:=beq_iff_eq.mp (ZBF.mp h1).2;exact hne (es.symm.trans this)
theorem Zb8(h:c≠[]):Zx w ls c≠[]:=by
 cases c with
 | nil=>exact absurd rfl h
 | cons s c=>exact ZEt (ZaM.mpr ⟨s,ZBf ..,rfl⟩)
def ZjM:Nat->List (List Int)
 | 0=>[[]]
 | n+1=>ZjM n++(ZjM n).map (·++[(n:Int)])
theorem ZpR:∀n,(ZjM n).length=2 ^ n
 | 0=>rfl
 | n+1=>by show(ZjM n++(ZjM n).map (·++[(n:Int)])).length=_;rw[ZBv,ZBb,ZpR n,Nat.pow_succ];omega
theorem Zls:∀(n:Nat) (c:List Int),Cr n c->c∈ZjM n
 | 0,c,h=>by
  cases c with
  | nil=>exact ZBk.mpr rfl
  | cons x c=>have:=h.2 x (ZBf ..); omega
 | n+1,c,h=>by
  show c∈ZjM n++(ZjM n).map (·++[(n:Int)])
  by_cases hm:(n:Int)∈c
  ·-- the last is n
   have key:∀(c:List Int),c.Pairwise (· < ·)->(∀x∈c,0<=x/\x<((n+1:Nat):Int))->(n:Int)∈c->∃c',c=c'++[(n:Int)]/\c'.Pairwise (· < ·)/\∀x∈c',0<=x/\x<(n:Int):=by
    intro c
    induction c with
    | nil=>intro _ _ h; simp at h
    | cons x c ih =>
     intro hp hb hm;obtain⟨p1,p2⟩:=ZB5.mp hp
     by_cases hx:x=(n:Int)
     ·cases c with
      | nil=>exact⟨[],by rw[hx]; rfl,.nil,λy hy=>by simp at hy⟩
      | cons y c=>have h1:=p1 y (ZBf ..);have h2:=hb y (ZBi _ (ZBf ..));omega
     ·have hm':(n:Int)∈c:=by
       rcases ZBq.mp hm with e | e
       ·exact absurd e.symm hx
       ·exact e
      obtain⟨c',e,q1,q2⟩:=ih p2 (λy hy=>hb y (ZBi _ hy)) hm';refine⟨x::c',by rw[e]; rfl,ZB5.mpr ⟨λy hy=>p1 y (by rw[e]; exact ZB6 _ hy),q1⟩,λy hy=>?_⟩;rcases ZBq.mp hy with e' | hy
      ·have h1:=p1 (n:Int) hm'
       have h2:=hb x (ZBf ..);rw[e'];omega
      ·exact q2 y hy
   obtain⟨c',e,q1,q2⟩:=key c h.1 h.2 hm;exact ZBE _ (ZBh.mpr ⟨c',Zls n c' ⟨q1,q2⟩,e.symm⟩)
  ·refine ZB6 _ (Zls n c ⟨h.1,λx hx=>?_⟩)
   have h1:=h.2 x hx;have:x≠(n:Int):=λe=>hm (e▸hx);omega
theorem Zma(hn:L.Nodup)(h:∀c∈L,Cr n c):L.length<=2 ^ n:=by rw[<-ZpR n];exact ZCz hn λc hc=>Zls n c (h c hc)
def ZR(w:Wk)(c:List Int):Bool:=c.all λs=>w.goal.contains s
def Win(w:Wk)(ls:List Int):Nat->List Int->Bool
 | 0,c=>ZR w c
 | n+1,c=>ZR w c||(ZBm w.deeds.length).any λd=>Zbz w c d&&(Zx w ls (ZD w c d)).all λp=>Win w ls n p
theorem ZiK{w:Wk}{ls:List Int}:∀(n:Nat) (c:List Int),Win w ls n c=ZGH->Win w ls (n+1) c=ZGH
 | 0,c,h=>by show(ZR w c||_)=ZGH;rw[show ZR w c=ZGH from h];rfl
 | n+1,c,h=>by
  have h':(ZR w c||(ZBm w.deeds.length).any λd=>Zbz w c d&&(Zx w ls (ZD w c d)).all λp=>Win w ls n p)=ZGH:=h;show(ZR w c||(ZBm w.deeds.length).any λd=>Zbz w c d&&(Zx w ls (ZD w c d)).all λp=>Win w ls (n+1) p)=ZGH;rw[ZCq]at h' ⊢;rcases h' with h' | h'
  ·exact .inl h'
  ·right
   obtain⟨d,hd,hq⟩:=ZBS.mp h';rw[ZBx]at hq;refine ZBS.mpr ⟨d,hd,?_⟩;rw[ZBx];exact⟨hq.1,ZBj.mpr λp hp=>ZiK n p (ZBj.mp hq.2 p hp)⟩
theorem Zc3(h:n<=m)(q:Win w ls n c=ZGH):Win w ls m c=ZGH:=by
 induction h with
 | refl=>exact q
 | step _ ih=>exact ZiK _ _ ih
def ZbO(w:Wk)(ls:List Int)(L:List (List Int)):Prop:=∀c∈L,∀d:Nat,d<w.deeds.length->Zbz w c d=ZGH->∀p∈Zx w ls (ZD w c d),p∈L
theorem Zix{w:Wk}{ls:List Int}{L:List (List Int)}(hL:ZbO w ls L){n:Nat}(h:∀c∈L,Win w ls (n+1) c=ZGH->Win w ls n c=ZGH):∀(m:Nat),∀c∈L,Win w ls m c=ZGH->Win w ls n c=ZGH
 | 0,c,_,q=>Zc3 (ZCC n) q
 | m+1,c,hc,q=>by
  refine h c hc ?_;have q':(ZR w c||(ZBm w.deeds.length).any λd=>Zbz w c d&&(Zx w ls (ZD w c d)).all λp=>Win w ls m p)=ZGH:=q;show(ZR w c||(ZBm w.deeds.length).any λd=>Zbz w c d&&(Zx w ls (ZD w c d)).all λp=>Win w ls n p)=ZGH;rw[ZCq]at q' ⊢;rcases q' with q' | q'
  ·exact .inl q'
  ·right
   obtain⟨d,hd,hq⟩:=ZBS.mp q';rw[ZBx]at hq;refine ZBS.mpr ⟨d,hd,?_⟩;rw[ZBx];exact⟨hq.1,ZBj.mpr λp hp=>Zix hL h m p (hL c hc d (ZBD.mp hd) hq.1 p hp) (ZBj.mp hq.2 p hp)⟩
theorem Zem{α:Type}{p q:α->Bool}:∀{L:List α},(∀x∈L,p x=ZGH->q x=ZGH)->(∃x∈L,q x=ZGH/\p x=ZGI)->(L.filter p).length<(L.filter q).length
 | [],_,⟨x,hx,_⟩=>by simp at hx
 | y::L,h,⟨x,hx,h1,h2⟩=>by
  have le:∀{L:List α},(∀x∈L,p x=ZGH->q x=ZGH)->(L.filter p).length<=(L.filter q).length:=by
   intro L
   induction L with
   | nil=>intro _; exact ZBl _
   | cons z L ih =>
    intro h;have:=ih λx hx=>h x (ZBi _ hx);have hz:=h z (ZBf ..);rw[ZDt,ZDt];cases hp:p z with
    | true=>rw[hz hp]; simpa using this
    | false =>
     cases q z
     ·simpa using this
     ·simp; omega
  have hL:=λx hx=>h x (ZBi y hx);have hy:=h y (ZBf ..);rw[ZDt,ZDt];rcases ZBq.mp hx with e | hx
  ·subst e
   rw[h2,h1];have:=le hL;simp; omega
  ·have:=Zem hL ⟨x,hx,h1,h2⟩
   cases hp:p y with
   | true=>rw[hy hp]; simpa using this
   | false =>
    cases q y
    ·simpa using this
    ·simp; omega
theorem Zw5(hL:ZbO w ls L)(hc:c∈L)(q:Win w ls m c=ZGH):Win w ls L.length c=ZGH:=by
 have key:∀t:Nat,(∃n,n<=t/\∀c∈L,Win w ls (n+1) c=ZGH->Win w ls n c=ZGH)\/t+1<=(L.filter λc=>Win w ls (t+1) c).length:=by
  intro t
  induction t with
  | zero =>
   by_cases h:∀c∈L,Win w ls 1 c=ZGH->Win w ls 0 c=ZGH
   ·exact .inl ⟨0,ZBl 0,h⟩
   ·right
    have h':∃c∈L,Win w ls 1 c=ZGH/\Win w ls 0 c=ZGI:=by
     apply ZDe;intro z;apply h;intro c hc h1;cases h0:Win w ls 0 c with
     | true=>rfl
     | false=>exact absurd ⟨c,hc,h1,h0⟩ z
    have:=Zem (p:=λc=>Win w ls 0 c) (q:=λc=>Win w ls 1 c) (L:=L) (λx _ hx=>ZiK 0 x hx) h';show 1<=(L.filter λc=>Win w ls 1 c).length;omega
  | succ t ih =>
   rcases ih with⟨n,hn,hs⟩ | ih
   ·exact .inl ⟨n,by omega,hs⟩
   ·by_cases h:∀c∈L,Win w ls (t+1+1) c=ZGH->Win w ls (t+1) c=ZGH
    ·exact .inl ⟨t+1,ZBl _,h⟩
    ·right
     have h':∃c∈L,Win w ls (t+1+1) c=ZGH/\Win w ls (t+1) c=ZGI:=by
      apply ZDe;intro z;apply h;intro c hc h1;cases h0:Win w ls (t+1) c with
      | true=>rfl
      | false=>exact absurd ⟨c,hc,h1,h0⟩ z
     have:=Zem (p:=λc=>Win w ls (t+1) c) (q:=λc=>Win w ls (t+1+1) c) (L:=L) (λx _ hx=>ZiK (t+1) x hx) h';omega
 rcases key L.length with⟨n,hn,hs⟩ | h
 ·exact Zc3 hn (Zix hL hs m c hc q)
 ·have:=ZCu (λc=>Win w ls (L.length+1) c) L
  omega
end HG5
namespace HG5
open PySem HM HG
end HG5
namespace HG5
open PySem HM HG HG4
variable{L:List (List Int)}{c ls:List Int}{w:Wk}
section
theorem Zz9(p:List Int):Zcn (tupI p)=ZGH:=Zhc (ZmM 0 p) (by decide)
theorem Zeb{d:Int}(h0:c≠[])(hc:Zbz w c d=ZGH):ZD w c d≠[]:=by
 cases c with
 | nil=>exact absurd rfl h0
 | cons s c =>
  unfold Zbz at hc;have h1:=ZBj.mp hc s (ZBf ..);have h2:0<(ZcS w d s).length:=by simpa using h1
  cases hr:ZcS w d s with
  | nil=>rw[hr]at h2; simp at h2
  | cons x xs=>exact ZEt (Znb.mpr ⟨s,ZBf ..,by rw[hr]; exact ZBf ..⟩)
def ZA5(w:Wk)(ls c:List Int)(L:List (List Int))(d:Nat):List (List Int):=if Zbz w c d then L++(Zx w ls (ZD w c d)).filter (λp=>!L.contains p)else L
end
section
abbrev Tb:=List (List Int × Int)
def encM(M:Tb):List (List Ky × D):=M.map λp=>(Zae p.1,dI p.2)
theorem ZdF(M:Tb)(k:List Int):Zj (encM M) (Zae k)=(Zj M k).map dI:=by
 unfold Zj encM;rw[ZGs];have e:((λp:List Ky × D=>decide (p.1=Zae k))∘λp:List Int × Int=>(Zae p.1,dI p.2))=λp=>decide (p.1=k):=by
  funext p
  simp only[ZET];exact decide_eq_decide.mpr (ZmP p.1 k)
 rw[e];cases M.find? λp=>decide (p.1=k)<;>rfl
theorem Zpc(M:Tb)(k:List Int)(v:Int):putD (encM M) (Zae k) (dI v)=encM (putD M k v):=by
 unfold putD;have e1:((encM M).any λp=>decide (p.1=Zae k))=M.any λp=>decide (p.1=k):=by
  unfold encM;rw[List.any_map];congr 1
  funext p
  simp only[ZET];exact decide_eq_decide.mpr (ZmP p.1 k)
 rw[e1];split
 ·unfold encM
  rw[ZBz,ZBz];refine ZCF λp _=>?_;simp only[ZET]
  by_cases h:p.1=k
  ·rw[if_pos h,if_pos (by rw[h])]
  ·rw[if_neg h,if_neg (λe=>h (Zer e))]
 ·unfold encM
  rw[ZBJ];rfl
theorem Zka(k:List Int):Zj ([]:Tb) k=Z_:=rfl
theorem Zbw(x:List Int)(v:Int)(M:Tb)(k:List Int):Zj ((x,v)::M) k=if x=k then Z v else Zj M k:=by
 unfold Zj;rw[ZCc]
 by_cases h:x=k<;>simp[h]
theorem ZuG(x k:List Int)(v:Int)(M:Tb):Zj (putD M x v) k=if x=k then Z v else Zj M k:=by
 have rep:∀M:Tb,Zj (M.map λp=>if p.1=x then(p.1,v)else p) k=if x=k then(Zj M k).map (λ_=>v)else Zj M k:=by
  intro M
  induction M with
  | nil=>rw[ZDw,Zka]; split<;>rfl
  | cons p M ih =>
   obtain⟨a,b⟩:=p;rw[ZBn]
   by_cases ha:a=x
   ·rw[if_pos (show(a,b).1=x from ha),Zbw,Zbw,ih]
    show(if a=k then Z v else _)=_
    by_cases hk:x=k
    ·rw[if_pos (by rw[ha,hk]),if_pos hk,if_pos (by rw[ha,hk])]; rfl
    ·rw[if_neg (by rw[ha]; exact hk),if_neg hk,if_neg hk,if_neg (by rw[ha]; exact hk)]
   ·rw[if_neg (show ¬(a,b).1=x from ha),Zbw,Zbw,ih]
    by_cases hk:a=k
    ·rw[if_pos hk,if_pos hk]
     have:x≠k:=λe=>ha (hk.trans e.symm);rw[if_neg this]
    ·rw[if_neg hk,if_neg hk]
 have app:∀M:Tb,Zj (M++[(x,v)]) k=match Zj M k with | some u=>Z u | none=>if x=k then Z v else Z_:=by
  intro M
  induction M with
  | nil=>rw[ZDk,Zbw,Zka]
  | cons p M ih =>
   obtain⟨a,b⟩:=p;rw[ZFY,Zbw,Zbw,ih]
   by_cases hk:a=k
   ·rw[if_pos hk,if_pos hk]
   ·rw[if_neg hk,if_neg hk]
 have has:∀M:Tb,(M.any λp=>decide (p.1=x))=(Zj M x).isSome:=by
  intro M
  induction M with
  | nil=>rfl
  | cons p M ih =>
   obtain⟨a,b⟩:=p;rw[ZDZ,Zbw,ih]
   by_cases ha:a=x<;>simp[ha]
 unfold putD;split
 ·rename_i h
  rw[rep]
  by_cases hk:x=k
  ·subst hk
   rw[has]at h;rw[if_pos rfl,if_pos rfl];obtain⟨u,hu⟩:=ZBM.mp h;rw[hu]; rfl
  ·rw[if_neg hk,if_neg hk]
 ·rename_i h
  rw[app]
  by_cases hk:x=k
  ·subst hk
   rw[has]at h;rw[if_pos rfl,if_pos rfl];cases hq:Zj M x with
   | none=>rfl
   | some u=>rw[hq]at h; exact absurd rfl h
  ·rw[if_neg hk,if_neg hk]
   cases Zj M k<;>rfl
theorem Zrv(x:List Int)(v:Int)(M:Tb):(putD M x v).length<=M.length+1:=by
 unfold putD;split
 ·rw[ZBb]; omega
 ·rw[ZBv]; exact ZBl _
def Zz(M:Tb)(p:List Int):Bool:=(Zj M p).isSome
def Zf7(w:Wk)(ls c:List Int)(M:Tb):Bool:=(ZBm w.deeds.length).any λd=>Zbz w c d&&(Zx w ls (ZD w c d)).all λp=>Zz M p
end
section
def ZcQ(w:Wk)(ls:List Int)(t:Nat)(c:List Int):Option Int:=((ZBm (t+1)).find? λn=>Win w ls n c).map λ(n:Nat)=>(n:Int)
theorem ZcT{t:Nat}:(ZcQ w ls t c).isSome=Win w ls t c:=by
 unfold ZcQ;rw[ZCR];cases h:Win w ls t c with
 | true=>rw[ZEK]; exact⟨t,ZBD.mpr (by omega),h⟩
 | false =>
  cases q:(ZBm (t+1)).find? λn=>Win w ls n c with
  | none=>rfl
  | some n=>have h1:=ZFa q;have h2:=ZBD.mp (ZDf q);rw[Zc3 (show n<=t by omega) h1]at h;cases h
theorem ZsR{t:Nat}:ZcQ w ls (t+1) c=match ZcQ w ls t c with
  | some k=>Z k
  | none=>if Win w ls (t+1) c then Z ((t+1:Nat):Int)else Z_:=by
 unfold ZcQ;rw[List.range_succ (n:=t+1),ZFG];cases(ZBm (t+1)).find? λn=>Win w ls n c with
 | some n=>rfl
 | none=>show ZCJ _ (Option.or Z_ ([t+1].find? λn=>Win w ls n c))=_;rw[Option.none_or,ZCc];cases Win w ls (t+1) c<;>rfl
theorem Zmj{t:Nat}{k:Int}(h:ZcQ w ls t c=Z k):∃n:Nat,k=(n:Int)/\n<=t/\Win w ls n c=ZGH/\∀m,m<n->Win w ls m c=ZGI:=by
 unfold ZcQ at h;obtain⟨n,hn,rfl⟩:=ZBc.mp h;refine⟨n,rfl,?_,ZFa (p:=λn=>Win w ls n c) hn,λm hm=>?_⟩
 ·have:=ZBD.mp (ZDf hn)
  omega
 ·cases q:Win w ls m c with
  | false=>rfl
  | true =>
   obtain⟨_,as,bs,e,hno⟩:=ZFb.mp hn;have hmem:m∈ZBm (t+1):=ZBD.mpr (by have:=ZBD.mp (ZDf hn);omega);have hp:(as++n::bs).Pairwise (· < ·):=by rw[<-e]; exact ZGj
   rw[e]at hmem;rcases ZBI.mp hmem with h1 | h1
   ·have:=hno m h1
    rw[q]at this;cases this
   ·rcases ZBq.mp h1 with h2 | h2
    ·omega
    ·have:=(ZB5.mp (ZEe.mp hp).2.1).1 m h2
     omega
structure ZhV(w:Wk)(ls:List Int)(L:List (List Int))(t:Nat)(M:Tb):Prop where
 look:∀c,Zj M c=if c∈L then ZcQ w ls t c else Z_
theorem ZfP(v:Int)(k:List Int):∀(ms:List (List Int)) (M:Tb),Zj (ms.foldl (λM c=>putD M c v) M) k=if k∈ms then Z v else Zj M k
 | [],M=>by simp
 | c::ms,M=>by
  rw[ZDj,ZfP v k ms,ZuG]
  by_cases h1:k∈ms
  ·rw[if_pos h1,if_pos (ZBi _ h1)]
  ·rw[if_neg h1]
   by_cases h2:c=k
   ·rw[if_pos h2,if_pos (by rw[h2]; exact ZBf ..)]
   ·rw[if_neg h2,if_neg]
    intro h;rcases ZBq.mp h with e | e
    ·exact h2 e.symm
    ·exact h1 e
theorem Znq(v:Int):∀(ms:List (List Int)) (M:Tb),(ms.foldl (λM c=>putD M c v) M).length<=M.length+ms.length
 | [],M=>ZBl _
 | c::ms,M=>by rw[ZDj,ZBy];have:=Znq v ms (putD M c v);have:=Zrv c v M;omega
def ZfJ(w:Wk)(ls:List Int)(L:List (List Int))(M:Tb):List (List Int):=L.filter λc=>!Zz M c&&Zf7 w ls c M
theorem Zly(hL:ZbO w ls L){t:Nat}{M:Tb}(T:ZhV w ls L t M):ZhV w ls L (t+1) ((ZfJ w ls L M).foldl (λM c=>putD M c ((t+1:Nat):Int)) M):=by
 have hhas:∀c∈L,Zz M c=Win w ls t c:=λc hc=>by unfold Zz;rw[T.look,if_pos hc,ZcT]
 refine⟨λc=>?_⟩;rw[ZfP,T.look]
 by_cases hc:c∈L
 ·rw[if_pos hc,if_pos hc,ZsR]
  have hcan:Zf7 w ls c M=(ZBm w.deeds.length).any λd=>Zbz w c d&&(Zx w ls (ZD w c d)).all λp=>Win w ls t p:=by
   unfold Zf7;apply Bool.eq_iff_iff.mpr;rw[ZBS,ZBS]
   constructor
   ·rintro ⟨d,hd,hq⟩
    rw[ZBx]at hq;refine⟨d,hd,?_⟩;rw[ZBx];refine⟨hq.1,ZBj.mpr λp hp=>?_⟩;rw[<-hhas p (hL c hc d (ZBD.mp hd) hq.1 p hp)];exact ZBj.mp hq.2 p hp
   ·rintro ⟨d,hd,hq⟩
    rw[ZBx]at hq;refine⟨d,hd,?_⟩;rw[ZBx];refine⟨hq.1,ZBj.mpr λp hp=>?_⟩;rw[hhas p (hL c hc d (ZBD.mp hd) hq.1 p hp)];exact ZBj.mp hq.2 p hp
  have hmem:c∈ZfJ w ls L M↔(Win w ls t c=ZGI/\Zf7 w ls c M=ZGH):=by
   unfold ZfJ;rw[ZBF,ZBx,hhas c hc]
   constructor
   ·rintro ⟨_,h1,h2⟩
    exact⟨by simpa using h1,h2⟩
   ·rintro ⟨h1,h2⟩
    exact⟨hc,by simp[h1],h2⟩
  cases hw:Win w ls t c with
  | true =>
   have hs:(ZcQ w ls t c).isSome=ZGH:=by rw[ZcT]; exact hw
   obtain⟨k,hk⟩:=ZBM.mp hs;rw[if_neg (λh=>by rw[hw]at hmem; cases(hmem.mp h).1),hk]
  | false =>
   have hs:ZcQ w ls t c=Z_:=by
    have:=ZcT (w:=w) (ls:=ls) (t:=t) (c:=c);rw[hw]at this;cases q:ZcQ w ls t c with
    | none=>rfl
    | some k=>rw[q]at this; cases this
   have hth:ZR w c=ZGI:=by
    cases q:ZR w c with
    | false=>rfl
    | true=>have:Win w ls t c=ZGH:=Zc3 (ZCC t) (show Win w ls 0 c=ZGH from q);rw[hw]at this;cases this
   have hwin:Win w ls (t+1) c=Zf7 w ls c M:=by rw[hcan];show(ZR w c||_)=_;rw[hth,ZFt]
   rw[hs];dsimp only;rw[hwin];cases hcw:Zf7 w ls c M with
   | true=>rw[if_pos (hmem.mpr ⟨hw,hcw⟩),if_pos rfl]
   | false=>rw[if_neg (λh=>by have:=(hmem.mp h).2; rw[hcw]at this; cases this)]; rfl
 ·rw[if_neg hc,if_neg hc,if_neg]
  intro h;exact hc (ZBF.mp h).1
def M0(w:Wk)(L:List (List Int)):Tb:=(L.filter λc=>ZR w c).foldl (λM c=>putD M c 0) []
theorem Zll:ZhV w ls L 0 (M0 w L):=by
 refine⟨λc=>?_⟩;unfold M0;rw[ZfP,Zka];have e:ZcQ w ls 0 c=if ZR w c then Z 0 else Z_:=by unfold ZcQ;show ZCJ _ (([0]:List Nat).find? λn=>Win w ls n c)=_;rw[ZCc];show ZCJ _ (match Win w ls 0 c with | true=>Z 0 | false=>_)=_;have:Win w ls 0 c=ZR w c:=rfl;rw[this];cases ZR w c<;>rfl
 rw[e]
 by_cases hc:c∈L
 ·rw[if_pos hc]
  cases ht:ZR w c with
  | true=>rw[if_pos (ZBF.mpr ⟨hc,ht⟩)]; rfl
  | false=>rw[if_neg (λh=>by have:=(ZBF.mp h).2; rw[ht]at this; cases this)]; rfl
 ·rw[if_neg hc,if_neg λh=>hc (ZBF.mp h).1]
end
section
def Zga(w:Wk)(ls:List Int)(n:Nat):Prop:=∀p∈Zx w ls w.beg,Win w ls n p=ZGH
def Few(w:Wk)(ls:List Int)(d:D):Prop:=(∃n:Nat,d=.int n/\Zga w ls n/\∀m,m<n->¬Zga w ls m)\/(d=.none/\∀n,¬Zga w ls n)
end
end HG5
namespace HG5
open PySem HM HG
def Zqx:SF :=
 (ZC (eIx (Zo 0) (eC (.int 3))))
def Za1:List D->Option D:=fnOf 1 1 Zqx
def ZrV:SF :=
 (ZC (eIx (Zo 0) (eC (.int 4))))
def ZeP:List D->Option D:=fnOf 1 1 ZrV
def ZkV:SF :=
 (ZC (ZiN (ZP (Zaa (bOf (Zc 1))) ZW (Zpb (Zc 0) (bOf (Zm ZeP (Za (Zc 1) Zi)))))))
def ZbY:List D->Option D:=fnOf 2 2 ZkV
def Zjq:SF :=
 (ZC (eOf (ZP (Zaa (bOf (Zc 0))) ZW (eIx (Zo 0) (eC (.int 1))))))
def ZX:List D->Option D:=fnOf 1 1 Zjq
def Zb5(ap:AP):SF :=
 (Zky 3 (Zj0 ZX (Za (eIx (Zo 5) (eC (.int 1))) Zi)))
def ZbB(ap:AP):SF :=
 (Zs (Zu6 4 3)
  (sIf (tV (ZeG (Zc 4) (Zo 2))) (Zs (Zh2 2 (Zc 4) (Zc6 ap 1 (Za (Zc 4) Zi)))
  (ZbS 5 (Zaa (bOf (Zak (Zo 2) (Zc 4)))) (Zb5 ap))) ZaN))
def Zdf(ap:AP):SF :=
 (Zs (Z8 2 fDt)
  (Zs (Z8 3 (Zkt (Zo 0)))
  (Zs (Zl8 100000 (tV (op2 gGt (Zaz (Zo 3)) (eC (.int 0)))) (ZbB ap))
  (Zhd 2 (ZC (Zc 2))))))
def Zba(ap:AP):List D->Option D:=fnOf 2 6 (Zdf ap)
def ZfV(ap:AP):SF :=
 (Zs (Z8 3 (ZP (Zaa (bOf (Zc 0))) ZW (Zc6 ap 3 (Za (Zc 0) (Za (Zc 2) Zi)))))
  (Zhd 3 (ZC (Zgt (ZP (Zaa (bOf (Zc 3))) (tV (op2 Zgp (Zc 0) (eC .none))) (Zc 0))))))
def Zbf(ap:AP):List D->Option D:=fnOf 3 4 (ZfV ap)
def Z6(ap:AP):SF :=
 (sIf (tV (ZeG (Zc 4) (Zo 1))) (Zs (ZT 5 (Zm (Zbf ap) (Za (Zak (Zo 0) (Zc 4)) (Za (Zc 1) (Za (Zc 2) Zi)))))
  (sIf (tV (op2 Zgp (Zc 5) (eC .none))) (Zh2 3 (Zc 4) (Zc 5)) ZaN)) ZaN)
def Zby(ap:AP):List D->Option (List (List Ky × D)):=newOf 3 6
 (Zli (Z8 3 fDt)
 (Zli (Ze8 0 (ZbS 4 (ZaV 0) (Z6 ap)))
 (ZpK 3)))
def Zdv(ap:AP):SF :=
 (Zh2 3 (Zc 6) (Zc 4))
def Zdw(ap:AP):SF :=
 (Zs (Zhd 5 (ZbS 6 (Zaa (bOf (Zc 5))) (Zdv ap)))
  (Zs (Z8 7 (Zkh (Zby ap) (Za (Zc 1) (Za (Ziy (Zo 3)) (Za (Zc 2) Zi)))))
  (Zs (Zhd 7 (Ze8 7 (ZT 4 (Zgt (ZP (ZaV 7) ZW (Zak (Zo 8) (Zc 0)))))))
  (Zhd 7 (Ze8 7 (Z8 5 (ZP (ZaV 7) (tV (op2 gEq (Zak (Zo 8) (Zc 0)) (Zc 5))) (Zc 0))))))))
def Zfv(ap:AP):SF :=
 (Zs (Z8 3 fDt)
  (Zs (ZT 4 (eC (.int 0)))
  (Zs (Ze8 1 (Z8 5 (ZP (ZaV 1) (tV (Zm ZbY (Za (Zc 1) (Za (Zc 0) Zi)))) (Zc 0))))
  (Zs (Zl8 100000 (tV (op2 gGt (Zaz (Zo 5)) (eC (.int 0)))) (Zdw ap))
  (Zhd 3 (ZC (Zc 3)))))))
def ZbH(ap:AP):List D->Option D:=fnOf 3 8 (Zfv ap)
def Zeo:SF :=
 (Zs (Z8 2 (ZP (Zaa (bOf (Zm ZX (Za (Zc 0) Zi)))) (tV (ZpX (Zc 0) (Zo 2))) (Zak (Zo 2) (Zc 0))))
  (ZC (eIf (tV (op2 gEq (Zaz (Zo 2)) (Zaz (Zo 0)))) (Zl7 (Zo 2)) (eC .none))))
def ZH:List D->Option D:=fnOf 2 3 Zeo
def Zjr:SF :=
 (ZC (eOf (ZP (Zaa (bOf (Zm ZcW (Za (Zc 0) (Za (Zc 2) Zi))))) ZW (Zal (Za (Zc 0) (Za (Zm Zaj (Za (Zc 1) (Za (Zc 2) (Za (Zm ZeA (Za (Zc 1) (Za (Zc 3) (Za (Zc 0) Zi)))) Zi)))) Zi))))))
def Zar:List D->Option D:=fnOf 3 3 Zjr
def Zfe(ap:AP):SF :=
 (ZC (Zfo (Zba ap) 1 [0,1] (Zm ZX (Za (Zm Zaj (Za (Zc 0) (Za (Zc 1) (Za (Zc 2) Zi)))) Zi))))
def ZbC(ap:AP):List D->Option D:=fnOf 3 3 (Zfe ap)
def Zhv:SF :=
 (Zs (ZT 2 (Zm ZH (Za (eIx (Zo 0) (eC (.int 1))) (Za (Zc 1) Zi))))
  (ZC (eIf (tV (op2 ZiZ (Zc 2) (eC .none))) (eC .none) (op2 Z9 (Zc 2) (eC (.int 1))))))
def Zd8:List D->Option D:=fnOf 2 3 Zhv
def Zdx(ap:AP):SF :=
 (ZC (Zm (ZbH ap) (Za (Zc 0) (Za (Zc 1) (Za (eC (fnD 0 [])) Zi)))))
def ZbJ(ap:AP):List D->Option D:=fnOf 2 2 (Zdx ap)
def Zjs(ap:AP):SF :=
 (Zs (ZiO (Zm Zbr (Za (Zc 0) Zi)))
  (Zs (ZiO (Zm Zbh (Za (Zc 0) (Za (Zc 1) Zi))))
  (Zs (ZT 2 (Zm Za1 (Za (Zc 0) Zi)))
  (Zs (ZT 3 (Zm (ZbJ ap) (Za (Zc 0) (Za (Zm (ZbC ap) (Za (Zc 0) (Za (Zc 1) (Za (Zc 2) Zi)))) Zi))))
  (ZC (Zm ZH (Za (Zm Zaj (Za (Zc 0) (Za (Zc 1) (Za (Zc 2) Zi)))) (Za (Zc 3) Zi))))))))
def Zhf(ap:AP):List D->Option D:=fnOf 2 4 (Zjs ap)
end HG5
namespace HG5
open PySem HM HG HG4
variable{cb:Cb}{C L:List (List Int)}{ds:List D}{c p:List Int}{n:Nat}{M T:Tb}{wf:Wf}{w:Wk}
section
theorem ZA9(w:Wk):Zgb (.pl w.d)=Z [ZBO w.many,.tuple (w.deeds.map Z0),.tuple (w.looks.map tupI),tupI w.beg,tupI w.goal]:=rfl
theorem ZfC(w:Wk):Za1 [w.d]=Z (tupI w.beg):=rfl
theorem Zs3(w:Wk):ZeP [w.d]=Z (tupI w.goal):=rfl
theorem ZvP{α:Type}(xs:List α)(p:α->Bool):Zfb (xs.map λx=>ZCl (p x))=Z (xs.map p):=by
 have:=Zfa (xs.map p)
 rwa [ZBz]at this
theorem Zq6(hc:c.length<1000):ZbY [w.d,tupI c]=Z (.bool (ZR w c)):=by
 have hb:c.length<1000000:=by omega
 have e:∀r:HM.Env,r[0]?=Z (Z (.pl w.d))->ZaP ZW (Zpb (Zc 0) (bOf (Zm ZeP (Za (Zc 1) Zi)))) r (c.map dI)=Z (c.map λs=>ZCl (w.goal.contains s)):=λr r0=>by
  rw[ZaY dI (λs=>ZCl (w.goal.contains s))]
  ·intro s _
   simp[r0,Zs3,Zx9,ZcR,-List.contains_eq_mem]
 simp[ZbY,ZkV,hb,e,ZvP,ZR,-List.contains_eq_mem]
theorem Zg4(g:Gs)(h:g.length<1000000):ZX [.list (g.map Zad)]=Z (.list ((g.map (·.2)).map tupI)):=by
 have e:∀r:HM.Env,ZaP ZW (eIx (Zo 0) (eC (.int 1))) r (g.map Zad)=Z ((g.map (·.2)).map tupI):=λr=>by
  rw[ZaY Zad (λp=>tupI p.2),ZBz]
  ·rfl
  ·intro p _
   rfl
 simp[ZX,Zjq,h,e]
def Zlj(w:Wk)(ls c:List Int)(d:Int):D:=.tuple [dI d,.list ((ZB w ls (ZD w c d)).map Zad)]
def Zoh(w:Wk)(ls c:List Int):D:=.list ((doV w c).map (Zlj w ls c))
theorem split_len{ls:List Int}:(ZB w ls c).length<=c.length:=by unfold ZB;rw[ZBb,(ZcU _).length_eq,ZBb];exact ZsS _ _ _ (Zgz (ZN w ls) c)
theorem ZeD(w:Wk)(c:List Int):(doV w c).length<=w.deeds.length:=by
 unfold doV;rw[ZBb];have:=ZCu (λ(d:Nat)=>Zbz w c (d:Int)) (ZBm w.deeds.length)
 rwa [ZCv]at this
theorem ZkB{d:Nat}(hd:d<w.deeds.length)(hc:Zbz w c d=ZGH):(d:Int)∈doV w c:=by unfold doV;exact ZBh.mpr ⟨d,ZBF.mpr ⟨ZBD.mpr hd,hc⟩,rfl⟩
section
variable{w:Wk}(hv:Wk.V w){ls:List Int}(hl:Cr w.looks.length ls)
include hv hl
theorem ZjV(hc:Cr w.many c):Zar [w.d,tupI ls,tupI c]=Z (Zoh w ls c):=by
 have hdo:=Zoc hv hc;have hb:(doV w c).length<1000000:=by have:=ZeD w c; have:=hv.d2; omega
 have e:∀r:HM.Env,r[0]?=Z (Z (.pl w.d))->r[1]?=Z (Z (.pl (tupI ls)))->r[2]?=Z (Z (.pl (tupI c))) ->
   ZaP ZW (Zal (Za (Zc 0) (Za (Zm Zaj (Za (Zc 1) (Za (Zc 2) (Za (Zm ZeA (Za (Zc 1) (Za (Zc 3) (Za (Zc 0) Zi)))) Zi)))) Zi))) r ((doV w c).map dI)=Z ((doV w c).map (Zlj w ls c)):=λr r0 r1 r2=>by
  rw[ZaY dI (Zlj w ls c)];intro d hd;obtain⟨d0,d1,_⟩:=Zan hd;have h1:=Ztu hv hc d0 d1;have h2:=ZfM hv hl (ZcI hv hc d0 d1);simp[r0,r1,r2,h1,h2,Zlj]
 simp[Zar,Zjr,hdo,hb,e,Zoh]
end
end
section
abbrev Wy:=D × Gs
def wyD(y:Wy):D:=.tuple [y.1,.list (y.2.map Zad)]
def wyP(y:Wy):List (List Int):=y.2.map (·.2)
abbrev Wf:=List Int->List Wy
inductive Zna(wf:Wf)(B:List (List Int)):List Int->Prop where
 | beg {p:List Int} (h:p∈B):Zna wf B p
 | step {c p:List Int} {y:Wy} (r:Zna wf B c) (hy:y∈wf c) (h:p∈wyP y):Zna wf B p
structure Zf9(wf:Wf)(Ok:List Int->Prop)(B C W:List (List Int)):Prop where
 nd:C.Nodup
 cr:∀c∈C,Ok c
 wr:∀c∈W,Ok c
 rc:∀c∈C,Zna wf B c
 rw:∀c∈W,Zna wf B c
 cl:∀c∈C,∀y∈wf c,∀p∈wyP y,p∈C\/p∈W
 bg:∀p∈B,p∈C\/p∈W
def Zu(wf:Wf)(C:List (List Int)):List (List Ky × D):=C.map λc=>(Zae c,.list ((wf c).map wyD))
theorem Zhr(wf:Wf)(C:List (List Int))(k:List Int):Zj (Zu wf C) (Zae k)=if k∈C then Z (.list ((wf k).map wyD))else Z_:=by
 unfold Zj Zu
 induction C with
 | nil=>rfl
 | cons c C ih =>
  rw[ZBn,ZCc]
  by_cases h:c=k
  ·subst h
   rw[if_pos (ZBf ..)];simp
  ·have h':decide ((Zae c,(ZGk ((wf c).map wyD))).1=Zae k)=ZGI:=decide_eq_false λe=>h (Zer e)
   rw[h'];dsimp only;rw[ih]
   by_cases q:k∈C
   ·rw[if_pos q,if_pos (ZBi _ q)]
   ·rw[if_neg q,if_neg λz=>by
     rcases ZBq.mp z with e | e
     ·exact h e.symm
     ·exact q e]
theorem ZuX{k:List Int}(h:k ∉ C):putD (Zu wf C) (Zae k) (.list ((wf k).map wyD))=Zu wf (C++[k]):=by
 unfold putD;rw[if_neg]
 ·unfold Zu
  rw[ZBJ];rfl
 ·intro z
  obtain⟨p,hp,e⟩:=ZBS.mp z;unfold Zu at hp;obtain⟨c,hc,rfl⟩:=ZBh.mp hp;have e:=Zer (of_decide_eq_true e);subst e;exact h hc
theorem ZnH(wf:Wf)(L:List (List Int)):((Zu wf L).map λp=>ZBL (p.1.map ZaQ))=L.map tupI:=by unfold Zu;rw[ZBz];refine ZCF λc _=>?_;show ZBL ((c.map ZC8).map ZaQ)=ZBL (c.map dI);rw[ZBz];rfl
def ZmQ(wf:Wf)(c:List Int):List (List Int):=(wf c).flatMap wyP
theorem Zf9.old{Ok:List Int->Prop}{B V:List (List Int)}(I:Zf9 wf Ok B C (V++[p]))(hp:p∈C):Zf9 wf Ok B C V:=by
 have key:∀q,q∈C\/q∈V++[p]->q∈C\/q∈V:=λq h=>by
  rcases h with h | h
  ·exact .inl h
  ·rcases ZBI.mp h with h | h
   ·exact .inr h
   ·rw[ZBk.mp h]; exact .inl hp
 exact⟨I.nd,I.cr,λc h=>I.wr c (ZB6 _ h),I.rc,λc h=>I.rw c (ZB6 _ h),λc hc y hy q hq=>key q (I.cl c hc y hy q hq),λq hq=>key q (I.bg q hq)⟩
structure Zp9(wf:Wf)(Ok:List Int->Prop):Prop where
 ok:∀c,Ok c->∀y∈wf c,∀p∈wyP y,Ok p
 ys:∀c,Ok c->(wf c).length<=10
 ps:∀c,Ok c->∀y∈wf c,y.2.length<=8
 cs:∀C:List (List Int),C.Nodup->(∀c∈C,Ok c)->C.length<=128
theorem Zf9.new{Ok:List Int->Prop}(O:Zp9 wf Ok){B V:List (List Int)}(I:Zf9 wf Ok B C (V++[p]))(hp:p ∉ C):Zf9 wf Ok B (C++[p]) (V++ZmQ wf p):=by
 have hpc:=I.wr p (ZBE _ (ZBk.mpr rfl));have hpr:=I.rw p (ZBE _ (ZBk.mpr rfl));have key:∀q,q∈C\/q∈V++[p]->q∈C++[p]\/q∈V++ZmQ wf p:=λq h=>by
  rcases h with h | h
  ·exact .inl (ZB6 _ h)
  ·rcases ZBI.mp h with h | h
   ·exact .inr (ZB6 _ h)
   ·exact .inl (ZBE _ h)
 refine⟨?_,λc h=>?_,λc h=>?_,λc h=>?_,λc h=>?_,λc h y hy q hq=>?_,λq hq=>key q (I.bg q hq)⟩
 ·rw[ZDn]
  refine⟨I.nd,by simp,λx hx y hy e=>?_⟩;rw[ZBk.mp hy]at e;exact hp (e▸hx)
 ·rcases ZBI.mp h with h | h
  ·exact I.cr c h
  ·rw[ZBk.mp h]; exact hpc
 ·rcases ZBI.mp h with h | h
  ·exact I.wr c (ZB6 _ h)
  ·obtain⟨y,hy,hq⟩:=ZDQ.mp h
   exact O.ok p hpc y hy c hq
 ·rcases ZBI.mp h with h | h
  ·exact I.rc c h
  ·rw[ZBk.mp h]; exact hpr
 ·rcases ZBI.mp h with h | h
  ·exact I.rw c (ZB6 _ h)
  ·obtain⟨y,hy,hq⟩:=ZDQ.mp h
   exact .step hpr hy hq
 ·rcases ZBI.mp h with h | h
  ·exact key q (I.cl c h y hy q hq)
  ·rw[ZBk.mp h]at hy
   exact .inr (ZBE _ (ZDQ.mpr ⟨y,hy,hq⟩))
theorem Zvk{Ok:List Int->Prop}(O:Zp9 wf Ok)(hc:Ok c):(ZmQ wf c).length<=80:=by
 have key:∀ys:List Wy,(∀y∈ys,y∈wf c)->(ys.flatMap wyP).length<=8*ys.length:=by
  intro ys
  induction ys with
  | nil=>intro _; exact ZBl 0
  | cons y ys ih =>
   intro h;rw[List.flatMap_cons,ZBv,ZBy];have h1:=ih λx hx=>h x (ZBi _ hx);have h2:=O.ps c hc y (h y (ZBf ..));have h3:(wyP y).length=y.2.length:=by unfold wyP; rw[ZBb]
   omega
 have h1:=key (wf c) λ_ h=>h;have h2:=O.ys c hc;unfold ZmQ;omega
theorem Zt5(ap:AP)(e0 e1 e2 e4:Option B):∀(ys:List Wy) (W:List (List Int)) (o:Option B),(∀y∈ys,y.2.length<=8)->W.length+8*ys.length<900000 ->
  ∃o',Zbm 5 (Zb5 ap) (ys.map wyD) [e0,e1,e2,Z (.ol (W.map tupI)),e4,o]=Z (.nx [e0,e1,e2,Z (.ol ((W++ys.flatMap wyP).map tupI)),e4,o'])
 | [],W,o,_,_=>⟨o,by rw[List.flatMap_nil,ZBW]; rfl⟩
 | y::ys,W,o,hds,hlen=>by
  rw[ZBy]at hlen;have hb:=hds y (ZBf ..);have hci:=Zg4 y.2 (by omega);have hpl:(wyP y).length<=8:=by unfold wyP; rw[ZBb]; exact hb
  have body:Zb5 ap [e0,e1,e2,Z (.ol (W.map tupI)),e4,Z (.pl (wyD y))]=Z (.nx [e0,e1,e2,Z (.ol ((W++wyP y).map tupI)),e4,Z (.pl (wyD y))]):=by
   have h1:Zj0 ZX (Za (eIx (Zo 5) (eC (.int 1))) Zi) [e0,e1,e2,Z (.ol (W.map tupI)),e4,Z (.pl (wyD y))]=Z (.ol ((wyP y).map tupI)):=by unfold Zj0;show(match ZX [.list (y.2.map Zad)]with | some (.list ys)=>Z (B.ol ys) | _=>Z_)=_;rw[hci];rfl
   unfold Zb5 Zky;rw[h1];show(if _ then _ else _)=_;rw[if_pos (by rw[ZBb,ZBb]; show _<1000000; omega),ZBJ];rfl
  obtain⟨o',ih⟩:=Zt5 ap e0 e1 e2 e4 ys (W++wyP y) (Z (.pl (wyD y))) (λx hx=>hds x (ZBi _ hx)) (by rw[ZBv]; omega);refine⟨o',?_⟩;rw[List.flatMap_cons,<-ZC3,<-ih,ZBn];show(match Zb5 ap [e0,e1,e2,Z (.ol (W.map tupI)),e4,Z (.pl (wyD y))]with | some (.nx r')=>_ | some (.ct r')=>_ | some (.bk r')=>_ | some (.rt d)=>_ | none=>_)=_;rw[body]
theorem ZkZ(wf:Wf)(C:List (List Int))(p:List Int)(r:HM.Env)(i j:Nat)(h1:r[i]?=Z (Z (.pl (tupI p))))(h2:r[j]?=Z (Z (.ot (Zu wf C)))):tV (ZeG (Zc i) (Zo j)) r=Z (!decide (p∈C)):=by
 have hk:ZbG (tupI p)=Z (Zae p):=ZbF p;have hlk:=Zhr wf C p
 by_cases hp:p∈C
 ·rw[if_pos hp]at hlk
  simp[h1,h2,hk,hlk,hp]
 ·rw[if_neg hp]at hlk
  simp[h1,h2,hk,hlk,hp]
theorem ZkC(t:Nat)(cs:List D):ZiQ (fnD t cs)=Z (t,cs):=rfl
section
variable{ap:AP}{wf:Wf}{Ok:List Int->Prop}(O:Zp9 wf Ok){t:Nat}{cs:List D}(ha:∀c,Ok c->ap t cs [tupI c]=Z (.list ((wf c).map wyD)))
include O ha
omit ha O in
theorem Zve{V:List (List Int)}(e0 e1 o4 o5:Option B)(hp:p∈C) :
  ZbB ap [e0,e1,Z (.ot (Zu wf C)),Z (.ol ((V++[p]).map tupI)),o4,o5]=Z (.nx [e0,e1,Z (.ot (Zu wf C)),Z (.ol (V.map tupI)),Z (.pl (tupI p)),o5]):=by
 unfold ZbB;refine ZO (P:=λq=>q=_) (r':=[e0,e1,Z (.ot (Zu wf C)),Z (.ol (V.map tupI)),Z (.pl (tupI p)),o5]) ?_ ?_
 ·rw[ZBJ]
  simp
 ·have ht:=ZkZ wf C p [e0,e1,Z (.ot (Zu wf C)),Z (.ol (V.map tupI)),Z (.pl (tupI p)),o5] 4 2 rfl rfl
  rw[decide_eq_true hp]at ht;unfold sIf;rw[ht];rfl
theorem Zu7{V:List (List Int)}(e0 o4 o5:Option B)(hp:p ∉ C)(hc:Ok p)(hC:C.length<1000)(hV:V.length<100000) :
  ∃o5',ZbB ap [e0,Z (.pl (fnD t cs)),Z (.ot (Zu wf C)),Z (.ol ((V++[p]).map tupI)),o4,o5]=Z (.nx [e0,Z (.pl (fnD t cs)),Z (.ot (Zu wf (C++[p]))),Z (.ol ((V++ZmQ wf p).map tupI)),Z (.pl (tupI p)),o5']):=by
 have hdl:=O.ys p hc;obtain⟨o5',go⟩:=Zt5 ap e0 (Z (.pl (fnD t cs))) (Z (.ot (Zu wf (C++[p])))) (Z (.pl (tupI p))) (wf p) V o5 (λy hy=>O.ps p hc y hy) (by omega);refine⟨o5',?_⟩;unfold ZbB;refine ZO (P:=λq=>q=_) (r':=[e0,Z (.pl (fnD t cs)),Z (.ot (Zu wf C)),Z (.ol (V.map tupI)),Z (.pl (tupI p)),o5]) ?_ ?_
 ·rw[ZBJ]
  simp
 ·have ht:=ZkZ wf C p [e0,Z (.pl (fnD t cs)),Z (.ot (Zu wf C)),Z (.ol (V.map tupI)),Z (.pl (tupI p)),o5] 4 2 rfl rfl
  rw[decide_eq_false hp]at ht;unfold sIf;rw[ht];show Zs _ _ _=_;have hk:ZbG (tupI p)=Z (Zae p):=ZbF p;have hww:=ha p hc;have hcl:(Zu wf C).length<1000000:=by unfold Zu; rw[ZBb]; omega
  refine ZO (P:=λq=>q=_) (r':=[e0,Z (.pl (fnD t cs)),Z (.ot (Zu wf (C++[p]))),Z (.ol (V.map tupI)),Z (.pl (tupI p)),o5]) ?_ ?_
  ·rw[<-ZuX hp]
   have hv:Zc6 ap 1 (Za (Zc 4) Zi) [e0,Z (.pl (fnD t cs)),Z (.ot (Zu wf C)),Z (.ol (V.map tupI)),Z (.pl (tupI p)),o5]=Z (.list ((wf p).map wyD)):=by unfold Zc6;show(match ZiQ (fnD t cs)with | some (t,cs)=>_ | none=>Z_)=_;rw[ZkC];exact hww
   unfold Zh2;rw[hv];show(match ZbG (tupI p)with | some y=>_ | none=>Z_)=_;rw[hk];dsimp only;rw[if_pos (show _<big from hcl)];rfl
  ·have hlk:=Zhr wf (C++[p]) p
   rw[if_pos (ZBE _ (ZBk.mpr rfl))]at hlk;have hi:Zaa (bOf (Zak (Zo 2) (Zc 4))) [e0,Z (.pl (fnD t cs)),Z (.ot (Zu wf (C++[p]))),Z (.ol (V.map tupI)),Z (.pl (tupI p)),o5]=Z ((wf p).map wyD):=by simp[hk,hlk]
   unfold ZbS;rw[hi];dsimp only;rw[if_pos (by rw[ZBb]; show _<1000000; omega)];exact go
theorem Zfm(B:List (List Int))(e0:Option HM.B):∀(fuel:Nat) (C W:List (List Int)) (o4 o5:Option HM.B),Zf9 wf Ok B C W->(128-C.length)*81+W.length<fuel->(128-C.length)*81+W.length<60000 ->
  ∃C' o4' o5',ZaR (tV (op2 gGt (Zaz (Zo 3)) (eC (.int 0)))) (ZbB ap) fuel [e0,Z (.pl (fnD t cs)),Z (.ot (Zu wf C)),Z (.ol (W.map tupI)),o4,o5]=Z (.nx [e0,Z (.pl (fnD t cs)),Z (.ot (Zu wf C')),Z (.ol []),o4',o5'])/\Zf9 wf Ok B C' []
 | 0,C,W,o4,o5,I,h,_=>by omega
 | fuel+1,C,W,o4,o5,I,h,hW=>by
  have hlen:=O.cs C I.nd I.cr
  by_cases hw:W=[]
  ·subst hw
   refine⟨C,o4,o5,?_,I⟩;unfold ZaR;have ht:(tV (op2 gGt (Zaz (Zo 3)) (eC (.int 0)))) [e0,Z (.pl (fnD t cs)),Z (.ot (Zu wf C)),Z (.ol (([]:List (List Int)).map tupI)),o4,o5]=Z ZGI:=by simp
   rw[ht];rfl
  ·obtain⟨V,p,rfl⟩:∃V p,W=V++[p]:=⟨W.dropLast,W.getLast hw,(List.dropLast_concat_getLast hw).symm⟩
   rw[ZBv,ZCs]at h hW;have ht:(tV (op2 gGt (Zaz (Zo 3)) (eC (.int 0)))) [e0,Z (.pl (fnD t cs)),Z (.ot (Zu wf C)),Z (.ol ((V++[p]).map tupI)),o4,o5]=Z ZGH:=by simp
   by_cases hp:p∈C
   ·obtain⟨C',o4',o5',g,J⟩:=Zfm B e0 fuel C V (Z (.pl (tupI p))) o5 (I.old hp) (by omega) (by omega)
    refine⟨C',o4',o5',?_,J⟩;unfold ZaR;rw[ht];dsimp only;rw[Zve e0 _ o4 o5 hp];exact g
   ·have hpc:=I.wr p (ZBE _ (ZBk.mpr rfl))
    have J0:=I.new O hp;have hl2:=O.cs _ J0.nd J0.cr;rw[ZBv,ZCs]at hl2;have hbl:=Zvk O hpc;obtain⟨q5,e⟩:=Zu7 O ha (V:=V) e0 o4 o5 hp hpc (by omega) (by omega);obtain⟨C',o4',o5',g,J⟩:=Zfm B e0 fuel (C++[p]) (V++ZmQ wf p) (Z (.pl (tupI p))) q5 J0 (by rw[ZBv,ZBv,ZCs]; omega) (by rw[ZBv,ZBv,ZCs]; omega);refine⟨C',o4',o5',?_,J⟩;unfold ZaR;rw[ht];dsimp only;rw[e];exact g
theorem Zml{B:List (List Int)}(hB:∀c∈B,Ok c)(hl:B.length<=100):∃L,Zba ap [.list (B.map tupI),fnD t cs]=Z (.dict (Zg (Zu wf L)))/\Zf9 wf Ok B L []:=by
 have I0:Zf9 wf Ok B [] B:=⟨.nil,λc h=>(by simp at h),hB,λc h=>(by simp at h),λc h=>.beg h,λc h=>(by simp at h),λp h=>.inr h⟩;obtain⟨L,o4,o5,g,J⟩:=Zfm O ha B (Z (.pl (.list (B.map tupI)))) 100000 [] B Z_ Z_ I0 (by simp; omega) (by simp; omega);refine⟨L,?_,J⟩;show ZG (Zdf ap [Z (.pl (.list (B.map tupI))),Z (.pl (fnD t cs)),Z_,Z_,Z_,Z_])=_;have e:Zdf ap [Z (.pl (.list (B.map tupI))),Z (.pl (fnD t cs)),Z_,Z_,Z_,Z_]=Z (.rt (.dict (Zg (Zu wf L)))):=by unfold Zdf;refine ZO (P:=λq=>q=_) (r':=[Z (.pl (.list (B.map tupI))),Z (.pl (fnD t cs)),Z (.ot (Zu wf [])),Z_,Z_,Z_]) rfl ?_;refine ZO (P:=λq=>q=_) (r':=[Z (.pl (.list (B.map tupI))),Z (.pl (fnD t cs)),Z (.ot (Zu wf [])),Z (.ol (B.map tupI)),Z_,Z_]) rfl ?_;refine ZO (P:=λq=>q=_) g ?_;simp
 rw[e];rfl
end
theorem ZcE(n:Nat)(p:List Int):noF (n+1) (tupI p)=ZGH:=by show(p.map dI).all (noF n)=ZGH;rw[List.all_map];exact ZBj.mpr λx _=>by cases n<;>rfl
theorem ZxD(n:Nat)(i:Int):noF n (.int i)=ZGH:=by cases n<;>rfl
theorem ZdI(h:∀d∈ds,noF n d=ZGH):noF (n+1) (.tuple ds)=ZGH:=ZBj.mpr h
theorem Zpp(h:∀d∈ds,noF n d=ZGH):noF (n+1) (.list ds)=ZGH:=ZBj.mpr h
theorem Zu0(n:Nat)(p:List Int × List Int):noF (n+2) (Zad p)=ZGH:=ZdI λd hd=>by
 rcases ZBq.mp hd with e | hd
 ·subst e; exact ZcE n _
 ·rw[ZBk.mp hd]; exact ZcE n _
theorem Zyp{y:Wy}(h:noF (n+3) y.1=ZGH):noF (n+4) (wyD y)=ZGH:=ZdI λd hd=>by
 rcases ZBq.mp hd with e | hd
 ·subst e; exact h
 ·rw[ZBk.mp hd]
  exact Zpp λd hd=>by obtain⟨p,_,rfl⟩:=ZBh.mp hd;exact Zu0 n p
theorem Zwm(h:∀c∈L,∀y∈wf c,noF (n+3) y.1=ZGH):noF (n+6) (.dict (Zg (Zu wf L)))=ZGH:=by show(Zg (Zu wf L)).all _=ZGH;refine ZBj.mpr λp hp=>?_;unfold Zg Zu at hp;rw[ZBz]at hp;obtain⟨c,hc,rfl⟩:=ZBh.mp hp;show noF (n+5) (.list ((wf c).map wyD))=ZGH;exact Zpp λd hd=>by obtain⟨y,hy,rfl⟩:=ZBh.mp hd;exact Zyp (h c hc y hy)
theorem Zwl(w:Wk):noF 20 w.d=ZGH:=by
 refine ZdI λd hd=>?_;have h:∀x:List (List Int),∀d∈x.map tupI,noF 17 d=ZGH:=λx d hd=>by obtain⟨p,_,rfl⟩:=ZBh.mp hd;exact ZcE 16 p
 have hd:=ZBq.mp hd;rcases hd with e | hd
 ·subst e; rfl
 rcases ZBq.mp hd with e | hd
 ·subst e
  exact ZdI λd hd=>by obtain⟨x,_,rfl⟩:=ZBh.mp hd;exact ZdI (h x)
 rcases ZBq.mp hd with e | hd
 ·subst e
  exact ZdI λd hd=>by obtain⟨x,_,rfl⟩:=ZBh.mp hd;exact ZcE 17 x
 rcases ZBq.mp hd with e | hd
 ·subst e; exact ZcE 18 _
 ·rw[ZBk.mp hd]; exact ZcE 18 _
end
section
def oI:Option Int->D
 | some k=>.int k
 | none=>.none
abbrev Cb:=Wy->Tb->Option Int
def Za8(cb:Cb)(ys:List Wy)(M:Tb):Option Int:=(ys.filterMap λy=>cb y M).min?
def ZaG(wf:Wf)(cb:Cb)(L:List (List Int))(M:Tb):Tb:=L.filterMap λc=>if Zz M c then Z_ else(Za8 cb (wf c) M).map λk=>(c,k)
def Zbo(T:Tb):Option Int:=(T.map (·.2)).min?
def Zew(T:Tb):List (List Int):=(T.filter λp=>Z p.2==Zbo T).map (·.1)
def ZaB(found:List (List Int))(k:Int)(M:Tb):Tb:=found.foldl (λM c=>putD M c k) M
inductive Zg0(wf:Wf)(cb:Cb)(L:List (List Int)):Tb->Option Int->List (List Int)->Tb->Prop where
 | done {M:Tb} {k:Option Int}:Zg0 wf cb L M k [] M
 | step {M R:Tb} {k:Int} {found:List (List Int)} (hf:found≠[]) (h:Zg0 wf cb L (ZaB found k M) (Zbo (ZaG wf cb L (ZaB found k M))) (Zew (ZaG wf cb L (ZaB found k M))) R):Zg0 wf cb L M (Z k) found R
theorem Zpz:∀os:List (Option Int),Zap ((os.filter ZEh).map oI)=Z (os.filterMap id)
 | []=>rfl
 | none::os=>Zpz os
 | some k::os=>by show(Zap ((os.filter ZEh).map oI)).map (k::·)=_;rw[Zpz os];rfl
theorem Zjc{ap:AP}{t:Nat}{cs:List D}{ys:List Wy}(hy:ys.length<1000)(ha:∀y∈ys,ap t cs [wyD y,.dict (Zg (encM M))]=Z (oI (cb y M))) :
  Zbf ap [.list (ys.map wyD),.dict (Zg (encM M)),fnD t cs]=Z (oI (Za8 cb ys M)):=by
 show ZG (ZfV ap [Z (.pl (.list (ys.map wyD))),Z (.pl (.dict (Zg (encM M)))),Z (.pl (fnD t cs)),Z_])=_;have hb:ys.length<big:=by show _<1000000; omega
 have e1:ZaP ZW (Zc6 ap 3 (Za (Zc 0) (Za (Zc 2) Zi))) [Z (.pl (.list (ys.map wyD))),Z (.pl (.dict (Zg (encM M)))),Z (.pl (fnD t cs)),Z_] (ys.map wyD)=Z ((ys.map λy=>cb y M).map oI):=by
  rw[ZaY wyD (λy=>oI (cb y M)),ZBz]
  ·rfl
  ·intro y h
   show(match ZiQ (fnD t cs)with | some (t,cs)=>_ | none=>Z_)=_;rw[ZkC];exact ha y h
 have e2:ZaP (tV (op2 Zgp (Zc 0) (eC .none))) (Zc 0) [Z (.pl (.list (ys.map wyD))),Z (.pl (.dict (Zg (encM M)))),Z (.pl (fnD t cs)),Z (.pl (.list ((ys.map λy=>cb y M).map oI)))] ((ys.map λy=>cb y M).map oI)=Z (((ys.map λy=>cb y M).filter ZEh).map oI):=by
  rw[Zct oI ZEh oI]
  ·intro o _
   cases o<;>rfl
  ·intro o _ _
   rfl
 unfold ZfV;refine ZO (P:=λq=>ZG q=_) (r':=[Z (.pl (.list (ys.map wyD))),Z (.pl (.dict (Zg (encM M)))),Z (.pl (fnD t cs)),Z (.ol ((ys.map λy=>cb y M).map oI))]) ?_ ?_
 ·unfold Z8 ZP
  show ZCJ _ (if(ys.map wyD).length<big then _ else _)=_;rw[if_pos (by rw[ZBb]; exact hb),e1];rfl
 ·show ZG (ZCJ Out.rt (Zgt _ [Z (.pl (.list (ys.map wyD))),Z (.pl (.dict (Zg (encM M)))),Z (.pl (fnD t cs)),Z (.pl (.list ((ys.map λy=>cb y M).map oI)))]))=_
  have e3:ZP (Zaa (bOf (Zc 3))) (tV (op2 Zgp (Zc 0) (eC .none))) (Zc 0) [Z (.pl (.list (ys.map wyD))),Z (.pl (.dict (Zg (encM M)))),Z (.pl (fnD t cs)),Z (.pl (.list ((ys.map λy=>cb y M).map oI)))]=Z (.ol (((ys.map λy=>cb y M).filter ZEh).map oI)):=by unfold ZP;show(if((ys.map λy=>cb y M).map oI).length<big then _ else Z_)=_;rw[if_pos (by rw[ZBb,ZBb]; exact hb),e2];rfl
  unfold Zgt;rw[e3];show ZG (ZCJ Out.rt (match Zap (((ys.map λy=>cb y M).filter ZEh).map oI)with | some ns=>Z (match ns.min? with | some i=>ZBO i | none=>.none) | none=>Z_))=_;rw[Zpz];show Z (match((ys.map λy=>cb y M).filterMap id).min? with | some i=>ZBO i | none=>.none)=_;unfold Za8;rw[List.filterMap_map];show Z (match(ys.filterMap λy=>cb y M).min? with | some i=>ZBO i | none=>.none)=_;cases(ys.filterMap λy=>cb y M).min?<;>rfl
theorem Zv5{k:Int}(h:Zz M c=ZGI):putD M c k=M++[(c,k)]:=by unfold putD;rw[if_neg];intro z;obtain⟨p,hp,e⟩:=ZBS.mp z;have e:=of_decide_eq_true e;unfold Zz Zj at h;rw[ZCR]at h;have:(M.find? λp=>decide (p.1=c)).isSome=ZGH:=ZEK.mpr ⟨p,hp,decide_eq_true e⟩;rw[h]at this;cases this
theorem Zsa(M N:Tb)(c:List Int):Zz (M++N) c=(Zz M c||Zz N c):=by unfold Zz Zj;rw[ZFG,ZCR,ZCR,ZCR,Option.isSome_or]
theorem ZxB:Zz M c=ZGH↔∃k,(c,k)∈M:=by
 unfold Zz Zj;rw[ZCR,ZEK]
 constructor
 ·rintro ⟨⟨c',k⟩,h,e⟩
  have e:=of_decide_eq_true e;exact⟨k,by rw[<-e]; exact h⟩
 ·rintro ⟨k,h⟩
  exact⟨_,h,decide_eq_true rfl⟩
theorem ZkD{k:Int}:(c,k)∈ZaG wf cb L M↔c∈L/\Zz M c=ZGI/\Za8 cb (wf c) M=Z k:=by
 unfold ZaG;rw[ZBU]
 constructor
 ·rintro ⟨c',h1,h2⟩
  split at h2
  ·cases h2
  ·rename_i hn
   obtain⟨k',h3,h4⟩:=ZBc.mp h2;cases h4;exact⟨h1,by simpa using hn,h3⟩
 ·rintro ⟨h1,h2,h3⟩
  exact⟨c,h1,by rw[h2,h3]; rfl⟩
section
variable{ap:AP}{wf:Wf}{L:List (List Int)}{t:Nat}{cs:List D}{cb:Cb}(hnd:L.Nodup)(hlen:L.length<=128)(hys:∀c∈L,(wf c).length<1000)(ha:∀c∈L,∀y∈wf c,∀M,ap t cs [wyD y,.dict (Zg (encM M))]=Z (oI (cb y M)))
include hys ha
theorem ZrK{M:Tb}:∀(K:List (List Int)) (acc:Tb) (o4 o5:Option B),(∀c∈K,c∈L)->K.Nodup->(∀c∈K,Zz acc c=ZGI)->Zbe o4=ZGI->Zbe o5=ZGI->acc.length+K.length<100000 ->
  ∃p4 p5,Zbe p4=ZGI/\Zbe p5=ZGI/\Zbm 4 (Z6 ap) (K.map tupI) [Z (.hd (Zg (Zu wf L))),Z (.pl (.dict (Zg (encM M)))),Z (.pl (fnD t cs)),Z (.ot (encM acc)),o4,o5] =
   Z (.nx [Z (.hd (Zg (Zu wf L))),Z (.pl (.dict (Zg (encM M)))),Z (.pl (fnD t cs)),Z (.ot (encM (acc++ZaG wf cb K M))),p4,p5])
 | [],acc,o4,o5,_,_,_,h4,h5,_=>⟨o4,o5,h4,h5,by show Z (Out.nx _)=_; rw[show ZaG wf cb [] M=[] from rfl,ZBW]⟩
 | c::K,acc,o4,o5,hK,hn,hacc,h4,h5,hl=>by
  rw[ZBy]at hl;have hc:=hK c (ZBf ..);have hk:ZbG (tupI c)=Z (Zae c):=ZbF c;have hlk:=ZdF M c;have hlr:=Zhr wf L c;rw[if_pos hc]at hlr;have hlc:=Zjc (ap:=ap) (t:=t) (cs:=cs) (cb:=cb) (ys:=wf c) (M:=M) (hys c hc) λy hy=>ha c hc y hy M;have hcons:ZaG wf cb (c::K) M=(if Zz M c then[]else match Za8 cb (wf c) M with | some k=>[(c,k)] | none=>[])++ZaG wf cb K M:=by
   unfold ZaG;rw[ZCE];cases Zz M c with
   | true=>rfl
   | false=>cases Za8 cb (wf c) M<;>rfl
  have step:∀(acc':Tb) (p5:Option B),Zbe p5=ZGI->(∀x∈K,Zz acc' x=ZGI)->acc'.length+K.length<100000->Z6 ap [Z (.hd (Zg (Zu wf L))),Z (.pl (.dict (Zg (encM M)))),Z (.pl (fnD t cs)),Z (.ot (encM acc)),Z (.pl (tupI c)),o5] =
     Z (.nx [Z (.hd (Zg (Zu wf L))),Z (.pl (.dict (Zg (encM M)))),Z (.pl (fnD t cs)),Z (.ot (encM acc')),Z (.pl (tupI c)),p5])->acc'++ZaG wf cb K M=acc++ZaG wf cb (c::K) M ->
    ∃p4 p5,Zbe p4=ZGI/\Zbe p5=ZGI/\Zbm 4 (Z6 ap) ((c::K).map tupI) [Z (.hd (Zg (Zu wf L))),Z (.pl (.dict (Zg (encM M)))),Z (.pl (fnD t cs)),Z (.ot (encM acc)),o4,o5] =
     Z (.nx [Z (.hd (Zg (Zu wf L))),Z (.pl (.dict (Zg (encM M)))),Z (.pl (fnD t cs)),Z (.ot (encM (acc++ZaG wf cb (c::K) M))),p4,p5]):=λacc' p5 hp5 hx hl' e eq=>by
   obtain⟨q4,q5,g4,g5,ih⟩:=ZrK (M:=M) K acc' (Z (.pl (tupI c))) p5 (λx hx=>hK x (ZBi _ hx)) (ZB4.mp hn).2 hx rfl hp5 hl';refine⟨q4,q5,g4,g5,?_⟩;rw[<-eq,<-ih,ZBn];show(match Z6 ap [Z (.hd (Zg (Zu wf L))),Z (.pl (.dict (Zg (encM M)))),Z (.pl (fnD t cs)),Z (.ot (encM acc)),Z (.pl (tupI c)),o5]with | some (.nx r')=>_ | some (.ct r')=>_ | some (.bk r')=>_ | some (.rt d)=>_ | none=>_)=_;rw[e]
  have hKa:∀x∈K,Zz acc x=ZGI:=λx hx=>hacc x (ZBi _ hx);cases hq:Zj M c with
  | some k =>
   have hh:Zz M c=ZGH:=by unfold Zz; rw[hq]; rfl
   rw[hq]at hlk;refine step acc o5 h5 hKa (by omega) ?_ (by rw[hcons,hh]; rfl);have ht:tV (ZeG (Zc 4) (Zo 1)) [Z (.hd (Zg (Zu wf L))),Z (.pl (.dict (Zg (encM M)))),Z (.pl (fnD t cs)),Z (.ot (encM acc)),Z (.pl (tupI c)),o5]=Z ZGI:=by simp[dec_enc,hk,hlk]
   unfold Z6 sIf;rw[ht];rfl
  | none =>
   have hh:Zz M c=ZGI:=by unfold Zz; rw[hq]; rfl
   rw[hq]at hlk;have ht:tV (ZeG (Zc 4) (Zo 1)) [Z (.hd (Zg (Zu wf L))),Z (.pl (.dict (Zg (encM M)))),Z (.pl (fnD t cs)),Z (.ot (encM acc)),Z (.pl (tupI c)),o5]=Z ZGH:=by simp[dec_enc,hk,hlk]
   have hca:Zm (Zbf ap) (Za (Zak (Zo 0) (Zc 4)) (Za (Zc 1) (Za (Zc 2) Zi))) [Z (.hd (Zg (Zu wf L))),Z (.pl (.dict (Zg (encM M)))),Z (.pl (fnD t cs)),Z (.ot (encM acc)),Z (.pl (tupI c)),o5]=Z (oI (Za8 cb (wf c) M)):=by
    have hg:Zak (Zo 0) (Zc 4) [Z (.hd (Zg (Zu wf L))),Z (.pl (.dict (Zg (encM M)))),Z (.pl (fnD t cs)),Z (.ot (encM acc)),Z (.pl (tupI c)),o5]=Z (.list ((wf c).map wyD)):=by simp[dec_enc,hk,hlr]
    unfold Zm Za;rw[hg];exact hlc
   have hs5:ZT 5 (Zm (Zbf ap) (Za (Zak (Zo 0) (Zc 4)) (Za (Zc 1) (Za (Zc 2) Zi)))) [Z (.hd (Zg (Zu wf L))),Z (.pl (.dict (Zg (encM M)))),Z (.pl (fnD t cs)),Z (.ot (encM acc)),Z (.pl (tupI c)),o5]=Z (.nx [Z (.hd (Zg (Zu wf L))),Z (.pl (.dict (Zg (encM M)))),Z (.pl (fnD t cs)),Z (.ot (encM acc)),Z (.pl (tupI c)),Z (.pl (oI (Za8 cb (wf c) M)))]):=by unfold ZT;rw[hca];rfl
   cases hle:Za8 cb (wf c) M with
   | none=>rw[hle]at hs5;refine step acc (Z (.pl .none)) rfl hKa (by omega) ?_ (by rw[hcons,hh,hle]; rfl);unfold Z6 sIf;rw[ht];dsimp only;refine ZO (P:=λq=>q=_) hs5 ?_;rfl
   | some k =>
    rw[hle]at hs5;have hput:=Zv5 (k:=k) (hacc c (ZBf ..));have hpe:=Zpc acc c k;have hal:(encM acc).length<1000000:=by unfold encM; rw[ZBb]; omega
    refine step (acc++[(c,k)]) (Z (.pl (.int k))) rfl (λx hx=>?_) (by rw[ZBv,ZCs]; omega) ?_ (by rw[hcons,hh,hle,ZC3]; rfl)
    ·rw[Zsa,hKa x hx,ZFt]
     cases hb:Zz [(c,k)] x with
     | false=>rfl
     | true=>obtain⟨k',hm⟩:=ZxB.mp hb;cases ZBk.mp hm;exact absurd hx (ZB4.mp hn).1
    ·unfold Z6 sIf
     rw[ht];dsimp only;refine ZO (P:=λq=>q=_) hs5 ?_;have h2:tV (op2 Zgp (Zc 5) (eC .none)) [Z (.hd (Zg (Zu wf L))),Z (.pl (.dict (Zg (encM M)))),Z (.pl (fnD t cs)),Z (.ot (encM acc)),Z (.pl (tupI c)),Z (.pl (oI (Z k)))]=Z ZGH:=rfl;rw[h2,<-hput,<-hpe];show(match ZbG (tupI c)with | some y=>_ | none=>Z_)=_;rw[hk];show(if(encM acc).length<big then _ else Z_)=_;rw[if_pos (show _<big from hal)];rfl
include hnd hlen
theorem Zn7(M:Tb):Zby ap [.dict (Zg (Zu wf L)),.dict (Zg (encM M)),fnD t cs]=Z (encM (ZaG wf cb L M)):=by
 obtain⟨p4,p5,g4,g5,go⟩:=ZrK hys ha (M:=M) L [] Z_ Z_ (λ_ h=>h) hnd (λ_ _=>rfl) rfl rfl (by simp; omega);have hw:ZaV 0 [Z (.hd (Zg (Zu wf L))),Z (.pl (.dict (Zg (encM M)))),Z (.pl (fnD t cs)),Z (.ot (encM [])),Z_,Z_]=Z (L.map tupI):=by show(Zfj (Zg (Zu wf L))).map _=_;rw[dec_enc,<-ZnH wf L];rfl
 have hf:ZbS 4 (ZaV 0) (Z6 ap) [Z (.hd (Zg (Zu wf L))),Z (.pl (.dict (Zg (encM M)))),Z (.pl (fnD t cs)),Z (.ot (encM [])),Z_,Z_]=Z (.nx [Z (.hd (Zg (Zu wf L))),Z (.pl (.dict (Zg (encM M)))),Z (.pl (fnD t cs)),Z (.ot (encM (ZaG wf cb L M))),p4,p5]):=by unfold ZbS;rw[hw];dsimp only;rw[if_pos (by rw[ZBb]; show _<1000000; omega),go];rfl
 have hh:Ze8 0 (ZbS 4 (ZaV 0) (Z6 ap)) [Z (.pl (.dict (Zg (Zu wf L)))),Z (.pl (.dict (Zg (encM M)))),Z (.pl (fnD t cs)),Z (.ot (encM [])),Z_,Z_]=Z (.nx [Z (.pl (.dict (Zg (Zu wf L)))),Z (.pl (.dict (Zg (encM M)))),Z (.pl (fnD t cs)),Z (.ot (encM (ZaG wf cb L M))),p4,p5]):=by
  show(match ZbS 4 (ZaV 0) (Z6 ap) [Z (.hd (Zg (Zu wf L))),Z (.pl (.dict (Zg (encM M)))),Z (.pl (fnD t cs)),Z (.ot (encM [])),Z_,Z_]with | some (.nx r')=>_ | some (.rt d)=>_ | _=>Z_)=_;rw[hf];have a2:([Z_,Z (B.pl (.dict (Zg (encM M)))),Z (.pl (fnD t cs)),Z (.ot (encM (ZaG wf cb L M))),p4,p5]:HM.Env).all (λq=>!Zbe q)=ZGH:=by simp only[ZCp,ZFZ,g4,g5];rfl
  show(if([Z_,Z (B.pl (.dict (Zg (encM M)))),Z (.pl (fnD t cs)),Z (.ot (encM (ZaG wf cb L M))),p4,p5]:HM.Env).all (λq=>!Zbe q)=ZGH then _ else _)=_;rw[if_pos a2];rfl
 unfold Zby newOf;rw[if_pos (show([PyData.dict (Zg (Zu wf L)),PyData.dict (Zg (encM M)),fnD t cs]:List D).length=3 from rfl)];show(match Z8 3 fDt [Z (.pl (.dict (Zg (Zu wf L)))),Z (.pl (.dict (Zg (encM M)))),Z (.pl (fnD t cs)),Z_,Z_,Z_]with | some (.nx r')=>Zli (Ze8 0 (ZbS 4 (ZaV 0) (Z6 ap))) (ZpK 3) r' | _=>Z_)=_;show Zli (Ze8 0 (ZbS 4 (ZaV 0) (Z6 ap))) (ZpK 3) [Z (.pl (.dict (Zg (Zu wf L)))),Z (.pl (.dict (Zg (encM M)))),Z (.pl (fnD t cs)),Z (.ot (encM [])),Z_,Z_]=_;unfold Zli;rw[hh];rfl
end
end
section
theorem ZrR(ap:AP)(e0 e1 e2 e5 e7:Option B)(v:Int):∀(ms:List (List Int)) (M:Tb) (o:Option B),M.length+ms.length<100000->Zbe o=ZGI ->
  ∃p,Zbe p=ZGI/\Zbm 6 (Zdv ap) (ms.map tupI) [e0,e1,e2,Z (.ot (encM M)),Z (.pl (dI v)),e5,o,e7]=Z (.nx [e0,e1,e2,Z (.ot (encM (ZaB ms v M))),Z (.pl (dI v)),e5,p,e7])
 | [],M,o,_,h=>⟨o,h,rfl⟩
 | c::ms,M,o,hlen,_=>by
  rw[ZBy]at hlen;have hml:(encM M).length<1000000:=by unfold encM; rw[ZBb]; omega
  have hk:ZbG (tupI c)=Z (Zae c):=ZbF c;have hput:=Zpc M c v;have hpl:=Zrv c v M;have e:Zdv ap [e0,e1,e2,Z (.ot (encM M)),Z (.pl (dI v)),e5,Z (.pl (tupI c)),e7]=Z (.nx [e0,e1,e2,Z (.ot (encM (putD M c v))),Z (.pl (dI v)),e5,Z (.pl (tupI c)),e7]):=by rw[<-hput];simp[Zdv,hk,hml]
  obtain⟨p,hp,ih⟩:=ZrR ap e0 e1 e2 e5 e7 v ms (putD M c v) (Z (.pl (tupI c))) (by omega) rfl;refine⟨p,hp,?_⟩;show _=Z (Out.nx [e0,e1,e2,Z (.ot (encM (ZaB ms v (putD M c v)))),Z (.pl (dI v)),e5,p,e7]);rw[ZBn,<-ih];show(match Zdv ap [e0,e1,e2,Z (.ot (encM M)),Z (.pl (dI v)),e5,Z (.pl (tupI c)),e7]with | some (.nx r')=>_ | some (.ct r')=>_ | some (.bk r')=>_ | some (.rt d)=>_ | none=>_)=_;rw[e]
theorem Zkk(T:Tb):((encM T).map λp=>ZBL (p.1.map ZaQ))=(T.map (·.1)).map tupI:=by unfold encM;rw[ZBz,ZBz];refine ZCF λp _=>?_;show ZBL ((p.1.map ZC8).map ZaQ)=ZBL (p.1.map dI);rw[ZBz];rfl
def NdT(T:Tb):Prop:=(T.map (·.1)).Nodup
theorem Zrz(h:NdT T){p:List Int × Int}(hp:p∈T):Zj T p.1=Z p.2:=by
 induction T with
 | nil=>simp at hp
 | cons q T ih =>
  obtain⟨c,k⟩:=q;rw[Zbw];unfold NdT at h;rw[ZBn,ZB4]at h;rcases ZBq.mp hp with e | e
  ·subst e; rw[if_pos rfl]
  ·rw[if_neg λz=>h.1 (by rw[z]; exact ZBh.mpr ⟨p,e,rfl⟩)]
   exact ih h.2 e
theorem Zzm:∀{L:List (List Int)},L.Nodup->NdT (ZaG wf cb L M):=by
 intro L h;unfold NdT;have:((ZaG wf cb L M).map (·.1)).Sublist L:=by
  unfold ZaG;rw[List.map_filterMap]
  clear h
  induction L with
  | nil=>exact .slnil
  | cons c L ih =>
   rw[ZCE];cases Zz M c with
   | true=>exact ih.cons c
   | false=>cases Za8 cb (wf c) M with
    | none=>exact ih.cons c
    | some k=>exact ih.cons₂ c
 exact h.sublist this
theorem ZrH:(ZaG wf cb L M).length<=L.length:=ZF0 ..
section
variable{T:Tb}(hT:NdT T)(hl:T.length<100000)
include hT hl
theorem Zt4(r:HM.Env)(h7:r[7]?=Z (Z (.hd (Zg (encM T))))):ZP (ZaV 7) ZW (Zak (Zo 8) (Zc 0)) r=Z (.ol ((T.map (·.2)).map dI)):=by
 have hw:ZaV 7 r=Z ((T.map (·.1)).map tupI):=by unfold ZaV;rw[h7];show(Zfj (Zg (encM T))).map _=_;rw[dec_enc,<-Zkk T];rfl
 have hg:ZaP ZW (Zak (Zo 8) (Zc 0)) r ((T.map (·.1)).map tupI)=Z ((T.map (·.2)).map dI):=by rw[ZBz,ZBz];have:=ZaY (e:=Zak (Zo 8) (Zc 0)) (r:=r) (λp:List Int × Int=>tupI p.1) (λp=>dI p.2) T (λp hp=>by have hk:ZbG (tupI p.1)=Z (Zae p.1):=ZbF p.1;have hlk:=ZdF T p.1;rw[Zrz hT hp]at hlk;simp[h7,dec_enc,hk,hlk]);exact this
 unfold ZP;rw[hw];dsimp only;rw[if_pos (by rw[ZBb,ZBb]; show _<1000000; omega),hg];rfl
theorem Ztj{k:Option Int}(r:HM.Env)(h7:r[7]?=Z (Z (.hd (Zg (encM T)))))(h4:r[4]?=Z (Z (.pl (oI k)))):ZP (ZaV 7) (tV (op2 gEq (Zak (Zo 8) (Zc 0)) (Zc 5))) (Zc 0) r=Z (.ol (((T.filter λp=>Z p.2==k).map (·.1)).map tupI)):=by
 have hw:ZaV 7 r=Z ((T.map (·.1)).map tupI):=by unfold ZaV;rw[h7];show(Zfj (Zg (encM T))).map _=_;rw[dec_enc,<-Zkk T];rfl
 have hg:ZaP (tV (op2 gEq (Zak (Zo 8) (Zc 0)) (Zc 5))) (Zc 0) r ((T.map (·.1)).map tupI)=Z (((T.filter λp=>Z p.2==k).map (·.1)).map tupI):=by
  rw[ZBz,ZBz];have:=Zct (c:=tV (op2 gEq (Zak (Zo 8) (Zc 0)) (Zc 5))) (e:=Zc 0) (r:=r) (λp:List Int × Int=>tupI p.1) (λp=>Z p.2==k) (λp=>tupI p.1) T (λp hp=>by
   have hk:ZbG (tupI p.1)=Z (Zae p.1):=ZbF p.1;have hlk:=ZdF T p.1;rw[Zrz hT hp]at hlk;have h1:Zak (Zo 8) (Zc 0) (Z (.pl (tupI p.1))::r)=Z (.int p.2):=by simp[h7,dec_enc,hk,hlk]
   have h2:Zc 5 (Z (B.pl (tupI p.1))::r)=Z (oI k):=by simp[h4]
   unfold tV op2;rw[h1,h2];cases k with
   | none=>show(match gEq (.int p.2) .none with | some (.bool b)=>Z b | _=>Z_)=_;rw[ZjY (ZdM 1 _) (Zxj 1) (by decide) (by decide) (by simp)];rfl
   | some k =>
    show(match gEq (.int p.2) (.int k)with | some (.bool b)=>Z b | _=>Z_)=_
    by_cases e:p.2=k
    ·rw[e,ZiC (ZdM 1 _) (by decide)]
     simp
    ·rw[ZjY (ZdM 1 _) (ZdM 1 _) (by decide) (by decide) (by simpa using e)]
     simp[e]) (λp _ _=>by simp)
  exact this
 unfold ZP;rw[hw];dsimp only;rw[if_pos (by rw[ZBb,ZBb]; show _<1000000; omega),hg];rfl
end
section
variable{w:Wk}(hv:Wk.V w){ap:AP}{wf:Wf}{L:List (List Int)}{t:Nat}{cs:List D}{cb:Cb}(hnd:L.Nodup)(hlen:L.length<=128)(hcr:∀c∈L,Cr w.many c)(hys:∀c∈L,(wf c).length<1000)(ha:∀c∈L,∀y∈wf c,∀M,ap t cs [wyD y,.dict (Zg (encM M))]=Z (oI (cb y M)))
include hnd hlen hys ha
theorem ZsX{k:Int}{found:List (List Int)}{o6 o7:Option B}(h6:Zbe o6=ZGI)(h7:Zbe o7=ZGI)(hf:found.length<=128)(hM:M.length<50000) :
  ∃p6 p7,Zbe p6=ZGI/\Zbe p7=ZGI/\Zdw ap [Z (.pl w.d),Z (.pl (.dict (Zg (Zu wf L)))),Z (.pl (fnD t cs)),Z (.ot (encM M)),Z (.pl (dI k)),Z (.ol (found.map tupI)),o6,o7] =
   Z (.nx [Z (.pl w.d),Z (.pl (.dict (Zg (Zu wf L)))),Z (.pl (fnD t cs)),Z (.ot (encM (ZaB found k M))),Z (.pl (oI (Zbo (ZaG wf cb L (ZaB found k M))))),Z (.ol ((Zew (ZaG wf cb L (ZaB found k M))).map tupI)),p6,p7]):=by
 obtain⟨p6,hp6,e1⟩:=ZrR ap (Z (.pl w.d)) (Z (.pl (.dict (Zg (Zu wf L))))) (Z (.pl (fnD t cs))) (Z (.pl (.list (found.map tupI)))) o7 k found M o6 (by omega) h6;generalize hM':ZaB found k M=M' at *;have hnx:=Zn7 hnd hlen hys ha M';have hT:NdT (ZaG wf cb L M'):=Zzm hnd;have hTl:(ZaG wf cb L M').length<100000:=by have:=ZrH (wf:=wf) (cb:=cb) (L:=L) (M:=M'); omega
 generalize hO:ZaG wf cb L M'=T at *;refine⟨p6,Z (.pl (.dict (Zg (encM T)))),hp6,rfl,?_⟩;unfold Zdw;refine ZO (P:=λq=>q=_) (r':=[Z (.pl w.d),Z (.pl (.dict (Zg (Zu wf L)))),Z (.pl (fnD t cs)),Z (.ot (encM M')),Z (.pl (dI k)),Z (.pl (.list (found.map tupI))),p6,o7]) ?_ ?_
 ·unfold Zhd Zmv ZbS
  have hfb:found.length<1000000:=by omega
  simp[hfb];exact e1
 ·refine ZO (P:=λq=>q=_) (r':=[Z (.pl w.d),Z (.pl (.dict (Zg (Zu wf L)))),Z (.pl (fnD t cs)),Z (.ot (encM M')),Z (.pl (dI k)),Z (.pl (.list (found.map tupI))),p6,Z (.ot (encM T))]) ?_ ?_
  ·have hcl:Zkh (Zby ap) (Za (Zc 1) (Za (Ziy (Zo 3)) (Za (Zc 2) Zi))) [Z (.pl w.d),Z (.pl (.dict (Zg (Zu wf L)))),Z (.pl (fnD t cs)),Z (.ot (encM M')),Z (.pl (dI k)),Z (.pl (.list (found.map tupI))),p6,o7]=Z (.ot (encM T)):=by
    unfold Zkh;show(match Zby ap [.dict (Zg (Zu wf L)),.dict (Zg (encM M')),fnD t cs]with | some kvs=>if kvs.all (λp=>Zmg p.2)then Z (B.ot kvs)else Z_ | none=>Z_)=_;rw[hnx];have hfl:(encM T).all (λp=>Zmg p.2)=ZGH:=by unfold encM;rw[List.all_map];exact ZBj.mpr λp _=>rfl
    dsimp only;rw[if_pos hfl]
   unfold Z8;rw[hcl];rfl
  ·have a1:∀x4 x5:D,([Z (B.pl w.d),Z (.pl (.dict (Zg (Zu wf L)))),Z (.pl (fnD t cs)),Z (.ot (encM M')),Z (.pl x4),Z (.pl x5),p6,Z (.pl (.dict (Zg (encM T))))]:HM.Env).all (λq=>!Zbe q)=ZGH:=λx4 x5=>by
    simp only[ZCp,ZFZ,hp6];rfl
   have a2:∀x4:D,∀x5:B,Zbe (Z x5)=ZGI->([Z (B.pl w.d),Z (.pl (.dict (Zg (Zu wf L)))),Z (.pl (fnD t cs)),Z (.ot (encM M')),Z (.pl x4),Z x5,p6,Z_]:HM.Env).all (λq=>!Zbe q)=ZGH:=λx4 x5 hx=>by simp only[ZCp,ZFZ,hp6,hx];rfl
   have hv1:=Zt4 hT hTl [Z (.pl w.d),Z (.pl (.dict (Zg (Zu wf L)))),Z (.pl (fnD t cs)),Z (.ot (encM M')),Z (.pl (dI k)),Z (.pl (.list (found.map tupI))),p6,Z (.hd (Zg (encM T)))] rfl;have hm1:ZT 4 (Zgt (ZP (ZaV 7) ZW (Zak (Zo 8) (Zc 0)))) [Z (.pl w.d),Z (.pl (.dict (Zg (Zu wf L)))),Z (.pl (fnD t cs)),Z (.ot (encM M')),Z (.pl (dI k)),Z (.pl (.list (found.map tupI))),p6,Z (.hd (Zg (encM T)))]=Z (.nx [Z (.pl w.d),Z (.pl (.dict (Zg (Zu wf L)))),Z (.pl (fnD t cs)),Z (.ot (encM M')),Z (.pl (oI (Zbo T))),Z (.pl (.list (found.map tupI))),p6,Z (.hd (Zg (encM T)))]):=by
    have:Zgt (ZP (ZaV 7) ZW (Zak (Zo 8) (Zc 0))) [Z (.pl w.d),Z (.pl (.dict (Zg (Zu wf L)))),Z (.pl (fnD t cs)),Z (.ot (encM M')),Z (.pl (dI k)),Z (.pl (.list (found.map tupI))),p6,Z (.hd (Zg (encM T)))]=Z (oI (Zbo T)):=by unfold Zgt;rw[hv1];show(match Zap ((T.map (·.2)).map dI)with | some ns=>Z (match ns.min? with | some i=>ZBO i | none=>.none) | none=>Z_)=_;rw[ZcR];show Z (match(T.map (·.2)).min? with | some i=>ZBO i | none=>.none)=_;unfold Zbo;cases(T.map (·.2)).min?<;>rfl
    unfold ZT;rw[this];rfl
   refine ZO (P:=λq=>q=_) (r':=[Z (.pl w.d),Z (.pl (.dict (Zg (Zu wf L)))),Z (.pl (fnD t cs)),Z (.ot (encM M')),Z (.pl (oI (Zbo T))),Z (.pl (.list (found.map tupI))),p6,Z (.pl (.dict (Zg (encM T))))]) ?_ ?_
   ·show(if([Z (B.pl w.d),Z (.pl (.dict (Zg (Zu wf L)))),Z (.pl (fnD t cs)),Z (.ot (encM M')),Z (.pl (dI k)),Z (.pl (.list (found.map tupI))),p6,Z (.pl (.dict (Zg (encM T))))]:HM.Env).all (λq=>!Zbe q)=ZGH then _ else _)=_
    rw[if_pos (a1 _ _)];show(match ZT 4 _ [Z (.pl w.d),Z (.pl (.dict (Zg (Zu wf L)))),Z (.pl (fnD t cs)),Z (.ot (encM M')),Z (.pl (dI k)),Z (.pl (.list (found.map tupI))),p6,Z (.hd (Zg (encM T)))]with | some (.nx r')=>_ | some (.rt d)=>_ | _=>Z_)=_;rw[hm1];show(if([Z (B.pl w.d),Z (.pl (.dict (Zg (Zu wf L)))),Z (.pl (fnD t cs)),Z (.ot (encM M')),Z (.pl (oI (Zbo T))),Z (.pl (.list (found.map tupI))),p6,Z_]:HM.Env).all (λq=>!Zbe q)=ZGH then _ else _)=_;rw[if_pos (a2 _ _ rfl)];rfl
   ·have hk1:=Ztj hT hTl (k:=Zbo T) [Z (.pl w.d),Z (.pl (.dict (Zg (Zu wf L)))),Z (.pl (fnD t cs)),Z (.ot (encM M')),Z (.pl (oI (Zbo T))),Z (.pl (.list (found.map tupI))),p6,Z (.hd (Zg (encM T)))] rfl rfl
    have hm2:Z8 5 (ZP (ZaV 7) (tV (op2 gEq (Zak (Zo 8) (Zc 0)) (Zc 5))) (Zc 0)) [Z (.pl w.d),Z (.pl (.dict (Zg (Zu wf L)))),Z (.pl (fnD t cs)),Z (.ot (encM M')),Z (.pl (oI (Zbo T))),Z (.pl (.list (found.map tupI))),p6,Z (.hd (Zg (encM T)))]=Z (.nx [Z (.pl w.d),Z (.pl (.dict (Zg (Zu wf L)))),Z (.pl (fnD t cs)),Z (.ot (encM M')),Z (.pl (oI (Zbo T))),Z (.ol ((Zew T).map tupI)),p6,Z (.hd (Zg (encM T)))]):=by unfold Z8;rw[hk1];rfl
    show(if([Z (B.pl w.d),Z (.pl (.dict (Zg (Zu wf L)))),Z (.pl (fnD t cs)),Z (.ot (encM M')),Z (.pl (oI (Zbo T))),Z (.pl (.list (found.map tupI))),p6,Z (.pl (.dict (Zg (encM T))))]:HM.Env).all (λq=>!Zbe q)=ZGH then _ else _)=_;rw[if_pos (a1 _ _)];show(match Z8 5 _ [Z (.pl w.d),Z (.pl (.dict (Zg (Zu wf L)))),Z (.pl (fnD t cs)),Z (.ot (encM M')),Z (.pl (oI (Zbo T))),Z (.pl (.list (found.map tupI))),p6,Z (.hd (Zg (encM T)))]with | some (.nx r')=>_ | some (.rt d)=>_ | _=>Z_)=_;rw[hm2];show(if([Z (B.pl w.d),Z (.pl (.dict (Zg (Zu wf L)))),Z (.pl (fnD t cs)),Z (.ot (encM M')),Z (.pl (oI (Zbo T))),Z (.ol ((Zew T).map tupI)),p6,Z_]:HM.Env).all (λq=>!Zbe q)=ZGH then _ else _)=_;rw[if_pos (a2 _ _ rfl)];rfl
omit hnd hlen hys ha in
theorem ZvC(h:c∈Zew (ZaG wf cb L M)):c∈L/\Zz M c=ZGI:=by obtain⟨⟨c',k⟩,h1,rfl⟩:=ZBh.mp h;have:=ZkD.mp (ZBF.mp h1).1;exact⟨this.1,this.2.1⟩
omit hnd hlen hys ha in
theorem Zud(h:Zew T≠[]):∃k,Zbo T=Z k:=by
 cases hq:Zbo T with
 | some k=>exact⟨k,rfl⟩
 | none=>refine absurd ?_ h;unfold Zbo at hq;rw[ZDC]at hq;have:=ZDS.mp hq;subst this;rfl
theorem Zj8:∀(fuel n:Nat) (M:Tb) (k:Option Int) (found:List (List Int)) (o6 o7:Option B),Zbe o6=ZGI->Zbe o7=ZGI->(∀c∈found,c∈L/\Zz M c=ZGI)->found.length<=128->M.length<=128*n->n<=(L.filter λc=>Zz M c).length->130<=n+fuel->(found≠[]->∃i,k=Z i) ->
  ∃R p4 p5 p6 p7,ZaR (tV (op2 gGt (Zaz (Zo 5)) (eC (.int 0)))) (Zdw ap) fuel [Z (.pl w.d),Z (.pl (.dict (Zg (Zu wf L)))),Z (.pl (fnD t cs)),Z (.ot (encM M)),Z (.pl (oI k)),Z (.ol (found.map tupI)),o6,o7]=Z (.nx [Z (.pl w.d),Z (.pl (.dict (Zg (Zu wf L)))),Z (.pl (fnD t cs)),Z (.ot (encM R)),p4,p5,p6,p7])/\Zg0 wf cb L M k found R
 | 0,n,M,k,found,o6,o7,_,_,_,_,_,ht,hfu,_=>by have:=ZCu (λc=>Zz M c) L;omega
 | fuel+1,n,M,k,found,o6,o7,h6,h7,hfo,hfl,hM,ht,hfu,hks=>by
  have htl:=ZCu (λc=>Zz M c) L
  by_cases hf:found=[]
  ·subst hf
   refine⟨M,Z (.pl (oI k)),Z (.ol []),o6,o7,?_,.done⟩;unfold ZaR;have e:(tV (op2 gGt (Zaz (Zo 5)) (eC (.int 0)))) [Z (.pl w.d),Z (.pl (.dict (Zg (Zu wf L)))),Z (.pl (fnD t cs)),Z (.ot (encM M)),Z (.pl (oI k)),Z (.ol (([]:List (List Int)).map tupI)),o6,o7]=Z ZGI:=by simp
   rw[e];rfl
  ·obtain⟨i,rfl⟩:=hks hf
   have e:(tV (op2 gGt (Zaz (Zo 5)) (eC (.int 0)))) [Z (.pl w.d),Z (.pl (.dict (Zg (Zu wf L)))),Z (.pl (fnD t cs)),Z (.ot (encM M)),Z (.pl (oI (Z i))),Z (.ol (found.map tupI)),o6,o7]=Z ZGH:=by have:0<found.length:=ZFe.mpr hf;simp;omega
   obtain⟨p6,p7,g6,g7,ht1⟩:=ZsX hnd hlen hys ha (w:=w) (M:=M) (k:=i) (found:=found) h6 h7 hfl (by omega);have hml:(ZaB found i M).length<=M.length+found.length:=Znq i found M;have hlk:∀k,Zj (ZaB found i M) k=if k∈found then Z i else Zj M k:=λk=>ZfP i k found M
   have hcnt:(L.filter λc=>Zz M c).length<(L.filter λc=>Zz (ZaB found i M) c).length:=by
    refine Zem (λx _ hx=>?_) ?_
    ·unfold Zz at hx ⊢
     rw[hlk];split
     ·rfl
     ·exact hx
    ·obtain⟨c,cs,rfl⟩:=ZFC hf
     refine⟨c,(hfo c (ZBf ..)).1,?_,(hfo c (ZBf ..)).2⟩;unfold Zz;rw[hlk,if_pos (ZBf ..)];rfl
   have hol:(Zew (ZaG wf cb L (ZaB found i M))).length<=128:=by
    have h1:(Zew (ZaG wf cb L (ZaB found i M))).length<=(ZaG wf cb L (ZaB found i M)).length:=by unfold Zew;rw[ZBb];exact ZCu ..
    have h2:=ZrH (wf:=wf) (cb:=cb) (L:=L) (M:=ZaB found i M);omega
   obtain⟨R,q4,q5,q6,q7,g,J⟩:=Zj8 fuel (n+1) (ZaB found i M) (Zbo (ZaG wf cb L (ZaB found i M))) (Zew (ZaG wf cb L (ZaB found i M))) p6 p7 g6 g7 (λc hc=>ZvC hc) hol (by omega) (by omega) (by omega) Zud;refine⟨R,q4,q5,q6,q7,?_,.step hf J⟩;unfold ZaR;rw[e];dsimp only;show(match Zdw ap [Z (.pl w.d),Z (.pl (.dict (Zg (Zu wf L)))),Z (.pl (fnD t cs)),Z (.ot (encM M)),Z (.pl (dI i)),Z (.ol (found.map tupI)),o6,o7]with | some (.nx r')=>_ | some (.ct r')=>_ | some (.bk r')=>_ | some (.rt d)=>_ | none=>_)=_;rw[ht1];exact g
include hv hcr
theorem ZhX:∃R,ZbH ap [w.d,.dict (Zg (Zu wf L)),fnD t cs]=Z (.dict (Zg (encM R)))/\Zg0 wf cb L [] (Z 0) (L.filter λc=>ZR w c) R:=by
 have hlb:L.length<1000000:=by omega
 have hfl:(L.filter λc=>ZR w c).length<=128:=ZCh (ZCu _ _) hlen;obtain⟨R,p4,p5,p6,p7,g,J⟩:=Zj8 hnd hlen hys ha (w:=w) 100000 0 [] (Z 0) (L.filter λc=>ZR w c) Z_ Z_ rfl rfl (λc hc=>⟨(ZBF.mp hc).1,rfl⟩) hfl (by simp) (ZCC _) (by omega) λ_=>⟨0,rfl⟩;refine⟨R,?_,J⟩;have hw:ZaV 1 [Z (.pl w.d),Z (.hd (Zg (Zu wf L))),Z (.pl (fnD t cs)),Z (.ot (encM [])),Z (.pl (dI 0)),Z_,Z_,Z_]=Z (L.map tupI):=by show(Zfj (Zg (Zu wf L))).map _=_;rw[dec_enc,<-ZnH wf L];rfl
 have hgo:∀r:HM.Env,r[0]?=Z (Z (.pl w.d))->ZaP (tV (Zm ZbY (Za (Zc 1) (Za (Zc 0) Zi)))) (Zc 0) r (L.map tupI)=Z ((L.filter λc=>ZR w c).map tupI):=λr r0=>by
  rw[Zct tupI (λc=>ZR w c) tupI]
  ·intro c hc
   have:=Zq6 (w:=w) (c:=c) (by have:=(hcr c hc).len; have:=hv.m2; omega);simp[r0,this]
  ·intro c _ _
   simp
 have hc:ZP (ZaV 1) (tV (Zm ZbY (Za (Zc 1) (Za (Zc 0) Zi)))) (Zc 0) [Z (.pl w.d),Z (.hd (Zg (Zu wf L))),Z (.pl (fnD t cs)),Z (.ot (encM [])),Z (.pl (dI 0)),Z_,Z_,Z_]=Z (.ol ((L.filter λc=>ZR w c).map tupI)):=by unfold ZP;rw[hw];dsimp only;rw[if_pos (by rw[ZBb]; exact hlb),hgo _ rfl];rfl
 have hh:Ze8 1 (Z8 5 (ZP (ZaV 1) (tV (Zm ZbY (Za (Zc 1) (Za (Zc 0) Zi)))) (Zc 0))) [Z (.pl w.d),Z (.pl (.dict (Zg (Zu wf L)))),Z (.pl (fnD t cs)),Z (.ot (encM [])),Z (.pl (dI 0)),Z_,Z_,Z_]=Z (.nx [Z (.pl w.d),Z (.pl (.dict (Zg (Zu wf L)))),Z (.pl (fnD t cs)),Z (.ot (encM [])),Z (.pl (dI 0)),Z (.ol ((L.filter λc=>ZR w c).map tupI)),Z_,Z_]):=by show(match Z8 5 _ [Z (.pl w.d),Z (.hd (Zg (Zu wf L))),Z (.pl (fnD t cs)),Z (.ot (encM [])),Z (.pl (dI 0)),Z_,Z_,Z_]with | some (.nx r')=>_ | some (.rt d)=>_ | _=>Z_)=_;unfold Z8;rw[hc];rfl
 show ZG (Zfv ap [Z (.pl w.d),Z (.pl (.dict (Zg (Zu wf L)))),Z (.pl (fnD t cs)),Z_,Z_,Z_,Z_,Z_])=_;have e:Zfv ap [Z (.pl w.d),Z (.pl (.dict (Zg (Zu wf L)))),Z (.pl (fnD t cs)),Z_,Z_,Z_,Z_,Z_]=Z (.rt (.dict (Zg (encM R)))):=by unfold Zfv;refine ZO (P:=λq=>q=_) (r':=[Z (.pl w.d),Z (.pl (.dict (Zg (Zu wf L)))),Z (.pl (fnD t cs)),Z (.ot (encM [])),Z_,Z_,Z_,Z_]) rfl ?_;refine ZO (P:=λq=>q=_) (r':=[Z (.pl w.d),Z (.pl (.dict (Zg (Zu wf L)))),Z (.pl (fnD t cs)),Z (.ot (encM [])),Z (.pl (dI 0)),Z_,Z_,Z_]) rfl ?_;refine ZO (P:=λq=>q=_) hh ?_;refine ZO (P:=λq=>q=_) g ?_;simp
 rw[e];rfl
end
end
end HG5
namespace HG5
open PySem HM HG
end HG5
namespace HG5
open PySem HM HG HG4
variable{g:Gs}{L ps:List (List Int)}{b c ls:List Int}{M R:Tb}{w:Wk}
section
inductive Zpi(w:Wk)(ls b:List Int):List Int->Prop where
 | beg {p:List Int} (h:p∈Zx w ls b):Zpi w ls b p
 | step {c p:List Int} {d:Nat} (r:Zpi w ls b c) (hd:d<w.deeds.length) (hc:Zbz w c d=ZGH) (h:p∈Zx w ls (ZD w c d)):Zpi w ls b p
def Zcr(w:Wk)(ls c:List Int)(d:Int):Wy:=(dI d,ZB w ls (ZD w c d))
def wfV(w:Wk)(ls:List Int):Wf:=λc=>(doV w c).map (Zcr w ls c)
abbrev ZbA(w:Wk)(ls:List Int)(L:List (List Int)):List (List Ky × D):=Zu (wfV w ls) L
theorem Zul(w:Wk)(ls c:List Int):Zoh w ls c=.list ((wfV w ls c).map wyD):=by unfold Zoh wfV;rw[ZBz];rfl
theorem ZAZ(w:Wk)(ls c:List Int)(d:Int):wyP (Zcr w ls c d)=Zx w ls (ZD w c d):=rfl
abbrev OkC(w:Wk)(c:List Int):Prop:=Cr w.many c/\c≠[]
structure ApD(ap:AP):Prop where
 d0:∀ds,ap 0 [] ds=Zd8 ds
 l1:∀cs ds,ap 1 cs ds=Zhk 1 2 (Zm Zar (Za (Zc 1) (Za (Zc 2) (Za (Zc 0) Zi)))) cs ds
section
variable{w:Wk}(hv:Wk.V w)(h7:w.many<=7){ls:List Int}(hl:Cr w.looks.length ls)
include hv h7
theorem ZzB:Zp9 (wfV w ls) (OkC w):=by
 refine⟨λc hc y hy p hp=>?_,λc hc=>?_,λc hc y hy=>?_,λC hn hC=>?_⟩
 ·obtain⟨d,hd,rfl⟩:=ZBh.mp hy
  obtain⟨d0,d1,_⟩:=Zan hd;have:=Zgy (ZcI hv hc.1 d0 d1) (show p∈Zx w ls (ZD w c d) from hp);exact⟨this.1,this.2.1⟩
 ·unfold wfV
  rw[ZBb];have:=ZeD w c;have:=hv.d2;omega
 ·obtain⟨d,hd,rfl⟩:=ZBh.mp hy
  obtain⟨d0,d1,_⟩:=Zan hd;have:=split_len (w:=w) (ls:=ls) (c:=ZD w c d);have:=(ZcI hv hc.1 d0 d1).len;show(ZB w ls (ZD w c d)).length<=8;omega
 ·have h1:=Zma hn λc hc=>(hC c hc).1
  have h2:2 ^ w.many<=2 ^ 7:=Nat.pow_le_pow_right (by decide) h7;have h3:2 ^ 7=128:=rfl;omega
omit hv h7 in
theorem Zzg(r:Zna (wfV w ls) (Zx w ls b) c):Zpi w ls b c:=by
 induction r with
 | beg h=>exact .beg h
 | @step c p y _ hy hp ih=>obtain⟨d,hd,rfl⟩:=ZBh.mp hy;obtain⟨d0,d1,d2⟩:=Zan hd;have e:((d.toNat:Nat):Int)=d:=ZCr d0;exact .step (d:=d.toNat) ih (by omega) (by rw[e]; exact d2) (by rw[e]; exact hp)
include hl
theorem Zie{ap:AP}(A:ApD ap)(hb:Cr w.many b):∃L,ZbC ap [w.d,tupI ls,tupI b]=Z (.dict (Zg (ZbA w ls L)))/\L.Nodup/\L.length<=128/\(∀c∈L,Cr w.many c/\c≠[])/\(∀c∈L,Zpi w ls b c)/\ZbO w ls L/\∀p∈Zx w ls b,p∈L:=by
 have hp:=ZfM hv hl hb;have hsl:=split_len (w:=w) (ls:=ls) (c:=b);have hbl:=hb.len;have hci:=Zg4 (ZB w ls b) (by omega);have hpl:(Zx w ls b).length<=100:=by unfold Zx; rw[ZBb]; omega
 have O:=ZzB hv h7 (ls:=ls);have ha:∀c,OkC w c->ap 1 [w.d,tupI ls] [tupI c]=Z (.list ((wfV w ls c).map wyD)):=λc hc=>by rw[A.l1,<-Zul];unfold Zhk;rw[if_pos ⟨rfl,rfl,by rw[ZCp,ZcE 19]; rfl⟩];exact ZjV hv hl hc.1
 obtain⟨L,e,J⟩:=Zml O ha (B:=Zx w ls b) (λc h=>⟨(Zgy hb h).1,(Zgy hb h).2.1⟩) hpl;refine⟨L,?_,J.nd,O.cs L J.nd J.cr,J.cr,λc hc=>Zzg (J.rc c hc),λc hc d hd can p hp=>?_,λp hp=>?_⟩
 ·show ZG (Zfe ap [Z (.pl w.d),Z (.pl (tupI ls)),Z (.pl (tupI b))])=_
  have h1:Zm ZX (Za (Zm Zaj (Za (Zc 0) (Za (Zc 1) (Za (Zc 2) Zi)))) Zi) [Z (.pl w.d),Z (.pl (tupI ls)),Z (.pl (tupI b))]=Z (.list ((Zx w ls b).map tupI)):=by unfold Zm Za;show(match(match Zaj [w.d,tupI ls,tupI b]with | some x=>(Zi _).map (x::·) | none=>Z_)with | some ds=>ZX ds | none=>Z_)=_;rw[hp];exact hci
  have hn1:[w.d,tupI ls].all (noF 20)=ZGH:=by rw[ZCp,ZCp,Zwl,ZcE 19];rfl
  have hn2:noF 20 (.dict (Zg (ZbA w ls L)))=ZGH:=Zwm (n:=14) λc _ y hy=>by obtain⟨d,_,rfl⟩:=ZBh.mp hy;exact ZxD _ _
  unfold Zfe ZC Zfo;rw[h1];show ZG (ZCJ Out.rt (if[w.d,tupI ls].all (noF 20)=ZGH then(match Zba ap [.list ((Zx w ls b).map tupI),fnD 1 [w.d,tupI ls]]with | some d=>if noF 20 d=ZGH then Z d else Z_ | none=>Z_)else Z_))=_;rw[if_pos hn1,e];dsimp only;rw[if_pos hn2];rfl
 ·rcases J.cl c hc (Zcr w ls c d) (ZBh.mpr ⟨(d:Int),ZkB hd can,rfl⟩) p hp with h | h
  ·exact h
  ·simp at h
 ·rcases J.bg p hp with h | h
  ·exact h
  ·simp at h
end
def Zax(ps:List (List Int))(M:Tb):Option Int:=if ps.all (Zz M)then(ps.filterMap λp=>Zj M p).max? else Z_
def cbD:Cb:=λy M=>(Zax (wyP y) M).map (·+1)
theorem Zjd{α β:Type}{f:α->Option β}:∀{xs:List α},((xs.filterMap f).length=xs.length↔xs.all (λx=>(f x).isSome)=ZGH)
 | []=>by simp
 | x::xs=>by
  have ih:=Zjd (f:=f) (xs:=xs);have hl:(xs.filterMap f).length<=xs.length:=ZF0 f xs;rw[ZCE,ZCp];cases h:f x with
  | none=>simp; omega
  | some y=>simpa using ih
theorem ZcP(hg:g.length<1000)(h0:g≠[]):ZH [.list (g.map Zad),.dict (Zg (encM M))]=Z (oI (Zax (g.map (·.2)) M)):=by
 have hci:=Zg4 g (by omega);have hlen:((g.map (·.2)).map tupI).length<big:=by rw[ZBb,ZBb]; show _<1000000; omega
 have h1:Zaa (bOf (Zm ZX (Za (Zc 0) Zi))) [Z (.pl (.list (g.map Zad))),Z (.pl (.dict (Zg (encM M)))),Z_]=Z ((g.map (·.2)).map tupI):=by unfold Zaa bOf;show(match ZCJ B.pl (ZX [.list (g.map Zad)])with | some x=>Zgb x | none=>Z_)=_;rw[hci];rfl
 have h2:ZaP (tV (ZpX (Zc 0) (Zo 2))) (Zak (Zo 2) (Zc 0)) [Z (.pl (.list (g.map Zad))),Z (.pl (.dict (Zg (encM M)))),Z_] ((g.map (·.2)).map tupI)=Z (((g.map (·.2)).filterMap λp=>Zj M p).map dI):=by
  rw[Zct tupI (Zz M) (λp=>dI ((Zj M p).getD 0))]
  ·congr 1
   generalize g.map (·.2)=ps
   induction ps with
   | nil=>rfl
   | cons p ps ih =>
    rw[ZDt,ZCE];unfold Zz at ih ⊢;cases hq:Zj M p with
    | none=>rw[if_neg (by simp)]; exact ih
    | some k=>rw[if_pos (by rfl),ZBn,ZBn,ih,hq]; rfl
  ·intro p _
   have hk:ZbG (tupI p)=Z (Zae p):=ZbF p;simp[dec_enc,hk,ZdF,Zz]
  ·intro p _ hp
   have hk:ZbG (tupI p)=Z (Zae p):=ZbF p;unfold Zz at hp;obtain⟨k,hk'⟩:=ZBM.mp hp;have hlk:=ZdF M p;rw[hk']at hlk;simp[dec_enc,hk,hlk,hk']
 have hfl:=Zjd (f:=λp=>Zj M p) (xs:=g.map (·.2));rw[ZBb]at hfl;have hall:(g.map (·.2)).all (λx=>(Zj M x).isSome)=(g.map (·.2)).all (Zz M):=rfl;rw[hall]at hfl;generalize hN:(g.map (·.2)).filterMap (λp=>Zj M p)=ns at *;show ZG (Zeo [Z (.pl (.list (g.map Zad))),Z (.pl (.dict (Zg (encM M)))),Z_])=_;unfold Zeo;refine ZO (P:=λq=>ZG q=_) (r':=[Z (.pl (.list (g.map Zad))),Z (.pl (.dict (Zg (encM M)))),Z (.ol (ns.map dI))]) ?_ ?_
 ·unfold Z8 ZP
  rw[h1];dsimp only;rw[if_pos hlen,h2];rfl
 ·have h3:op2 gEq (Zaz (Zo 2)) (Zaz (Zo 0)) [Z (.pl (.list (g.map Zad))),Z (.pl (.dict (Zg (encM M)))),Z (.ol (ns.map dI))]=Z (.bool (decide (ns.length=g.length))):=by
   show gEq (.int ((ns.map dI).length:Int)) (.int ((g.map Zad).length:Int))=_;rw[ZBb,ZBb]
   by_cases e:ns.length=g.length
   ·rw[e,ZiC (ZdM 1 _) (by decide)]
    simp
   ·rw[ZjY (ZdM 1 _) (ZdM 1 _) (by decide) (by decide) (λz=>e (by injection z with z; omega))]
    simp[e]
  have h4:Zl7 (Zo 2) [Z (.pl (.list (g.map Zad))),Z (.pl (.dict (Zg (encM M)))),Z (.ol (ns.map dI))]=ns.max?.map λi=>ZBO i:=by show(match Zap (ns.map dI)with | some ns=>ns.max?.map λi=>ZBO i | none=>Z_)=_;rw[ZcR]
  unfold ZC eIf tV;rw[h3];unfold Zax;rw[hN]
  by_cases e:ns.length=g.length
  ·rw[if_pos (hfl.mp e),decide_eq_true e]
   show ZG (ZCJ Out.rt (Zl7 (Zo 2) _))=_;rw[h4];have hne:ns≠[]:=λz=>by rw[z]at e;exact h0 (ZCD e.symm)
   cases hq:ns.max? with
   | none=>rw[ZEb]at hq; exact absurd hq hne
   | some m=>rfl
  ·rw[if_neg λz=>e (hfl.mpr z),decide_eq_false e]
   rfl
theorem Zh3{y:Wy}(hy:y.2.length<1000)(h0:y.2≠[])(M:Tb):Zd8 [wyD y,.dict (Zg (encM M))]=Z (oI (cbD y M)):=by
 have h:=ZcP hy h0 (M:=M);have h':ZH [.list (y.2.map Zad),.dict (Zg (encM M))]=Z (oI (Zax (wyP y) M)):=h;show ZG (Zhv [Z (.pl (wyD y)),Z (.pl (.dict (Zg (encM M)))),Z_])=_;unfold Zhv cbD;refine ZO (P:=λq=>ZG q=_) (r':=[Z (.pl (wyD y)),Z (.pl (.dict (Zg (encM M)))),Z (.pl (oI (Zax (wyP y) M)))]) ?_ ?_
 ·unfold ZT Zm
  show ZCJ _ (ZH [.list (y.2.map Zad),.dict (Zg (encM M))])=_;rw[h'];rfl
 ·cases Zax (wyP y) M<;>rfl
def Zeu(w:Wk)(ls:List Int)(L:List (List Int))(M:Tb):Prop:=∃t,ZhV w ls L t M/\ZfJ w ls L M=[]
theorem ZiV{m:Int}(h:Zax ps M=Z m):(∀p∈ps,∃k,Zj M p=Z k/\k<=m)/\∃p∈ps,Zj M p=Z m:=by
 unfold Zax at h;split at h
 ·rename_i ha
  obtain⟨m1,m2⟩:=ZDB.mp h;refine⟨λp hp=>?_,?_⟩
  ·have hh:=ZBj.mp ha p hp
   unfold Zz at hh;obtain⟨k,hk⟩:=ZBM.mp hh;exact⟨k,hk,m2 _ (ZBU.mpr ⟨p,hp,hk⟩)⟩
  ·obtain⟨p,hp,e⟩:=ZBU.mp m1
   exact⟨p,hp,e⟩
 ·cases h
theorem Zgq(h0:ps≠[])(h:Zax ps M=Z_):ps.all (Zz M)=ZGI:=by
 cases hq:ps.all (Zz M)with
 | false=>rfl
 | true=>unfold Zax at h;rw[hq,if_pos rfl,ZEb]at h;obtain⟨p,r,rfl⟩:=ZFC h0;have hh:=ZBj.mp hq p (ZBf ..);unfold Zz at hh;obtain⟨k,hk⟩:=ZBM.mp hh;rw[ZCE,hk]at h;cases h
section
variable{w:Wk}{ls:List Int}{L:List (List Int)}(hL:ZbO w ls L)(hne:∀c∈L,c≠[])
include hL hne
theorem Zsi{t:Nat}(T:ZhV w ls L t M)(hc:c∈L)(hn:Zz M c=ZGI):Za8 cbD (wfV w ls c) M=if Zf7 w ls c M then Z ((t+1:Nat):Int)else Z_:=by
 have known:∀{p:List Int} {k:Int},Zj M p=Z k->∃n:Nat,k=(n:Int)/\n<=t/\Win w ls n p=ZGH:=λ{p k} h=>by
  rw[T.look]at h;split at h
  ·obtain⟨n,h1,h2,h3,_⟩:=Zmj h
   exact⟨n,h1,h2,h3⟩
  ·cases h
 have val:∀y∈wfV w ls c,∀k,cbD y M=Z k->k=((t+1:Nat):Int)/\Zf7 w ls c M=ZGH:=λy hy k hk=>by
  obtain⟨d,hd,rfl⟩:=ZBh.mp hy;obtain⟨d0,d1,d2⟩:=Zan hd;have e:((d.toNat:Nat):Int)=d:=ZCr d0;obtain⟨m,h1,h2⟩:=ZBc.mp hk;have h1:Zax (Zx w ls (ZD w c d)) M=Z m:=h1;obtain⟨w1,p,hp,w2⟩:=ZiV h1;obtain⟨n,rfl,hnt,_⟩:=known w2;refine⟨?_,ZBS.mpr ⟨d.toNat,ZBD.mpr (by omega),?_⟩⟩
  ·subst h2
   by_cases hlt:n<t
   ·-- then the crowd would be known already
    have hw:Win w ls (n+1) c=ZGH:=by show(ZR w c||_)=ZGH;rw[ZCq];refine .inr (ZBS.mpr ⟨d.toNat,ZBD.mpr (by omega),?_⟩);rw[e,d2,ZGw];refine ZBj.mpr λq hq=>?_;obtain⟨k,k1,k2⟩:=w1 q hq;obtain⟨n',rfl,_,hw'⟩:=known k1;exact Zc3 (by omega) hw'
    have:Zz M c=ZGH:=by unfold Zz;rw[T.look,if_pos hc,ZcT];exact Zc3 (by omega) hw
    rw[hn]at this;cases this
   ·show(n:Int)+1=_
    omega
  ·rw[e,d2,ZGw]
   refine ZBj.mpr λq hq=>?_;obtain⟨k,k1,_⟩:=w1 q hq;unfold Zz;rw[k1];rfl
 have all_eq:∀k∈(wfV w ls c).filterMap (λy=>cbD y M),k=((t+1:Nat):Int)/\Zf7 w ls c M=ZGH:=λk hk=>by obtain⟨y,hy,e⟩:=ZBU.mp hk;exact val y hy k e
 unfold Za8;cases hcan:Zf7 w ls c M with
 | false =>
  have:(wfV w ls c).filterMap (λy=>cbD y M)=[]:=List.eq_nil_iff_forall_not_mem.mpr λk hk=>by have:=(all_eq k hk).2;rw[hcan]at this;cases this
  rw[this];rfl
 | true =>
  obtain⟨d,hd,hq⟩:=ZBS.mp hcan;rw[ZBx]at hq;have hd':=ZBD.mp hd;have hy:Zcr w ls c (d:Int)∈wfV w ls c:=ZBh.mpr ⟨(d:Int),ZkB hd' hq.1,rfl⟩;have hpn:Zx w ls (ZD w c d)≠[]:=Zb8 (Zeb (hne c hc) hq.1);have hk:∃k,cbD (Zcr w ls c d) M=Z k:=by
   unfold cbD;cases hw:Zax (wyP (Zcr w ls c d)) M with
   | none=>have:=Zgq hpn hw;rw[show(Zx w ls (ZD w c d)).all (Zz M)=ZGH from hq.2]at this;cases this
   | some m=>exact⟨m+1,rfl⟩
  obtain⟨k,hk⟩:=hk;have hm:k∈(wfV w ls c).filterMap (λy=>cbD y M):=ZBU.mpr ⟨_,hy,hk⟩;cases hmin:((wfV w ls c).filterMap λy=>cbD y M).min? with
  | none=>rw[ZDC]at hmin; rw[hmin]at hm; simp at hm
  | some m=>have:=(ZCt.mp hmin).1;rw[(all_eq m this).1];rfl
theorem Zps{t:Nat}(T:ZhV w ls L t M):ZaG (wfV w ls) cbD L M=(ZfJ w ls L M).map λc=>(c,((t+1:Nat):Int)):=by
 unfold ZaG ZfJ;have key:∀K:List (List Int),(∀c∈K,c∈L)->(K.filterMap λc=>if Zz M c then Z_ else(Za8 cbD (wfV w ls c) M).map λk=>(c,k))=(K.filter λc=>!Zz M c&&Zf7 w ls c M).map λc=>(c,((t+1:Nat):Int)):=by
  intro K
  induction K with
  | nil=>intro _; rfl
  | cons c K ih =>
   intro hK;have ih:=ih λx hx=>hK x (ZBi _ hx);rw[ZCE,ZDt];cases hh:Zz M c with
   | true=>simpa using ih
   | false =>
    have hle:=Zsi hL hne T (hK c (ZBf ..)) hh;rw[hle];cases hcan:Zf7 w ls c M with
    | false=>simpa [hcan]using ih
    | true=>simpa [hcan]using ih
 exact key L λ_ h=>h
theorem Zw7{k:Option Int}{found:List (List Int)}(r:Zg0 (wfV w ls) cbD L M k found R):∀t:Nat,(found=[]->ZhV w ls L t M/\ZfJ w ls L M=[])->(found≠[]->k=Z (t:Int)/\ZhV w ls L t (ZaB found t M))->Zeu w ls L R:=by
 induction r with
 | done=>intro t h _; exact⟨t,h rfl⟩
 | @step M R k found hf _ ih =>
  intro t _ h;obtain⟨hk,T⟩:=h hf;cases hk;have ho:=Zps hL hne T;have hmin:∀ms:List (List Int),Zew (ms.map λc=>(c,((t+1:Nat):Int)))=ms/\(ms≠[]->Zbo (ms.map λc=>(c,((t+1:Nat):Int)))=Z ((t+1:Nat):Int)):=λms=>by
   cases ms with
   | nil=>exact⟨rfl,λz=>absurd rfl z⟩
   | cons c ms =>
    have hO:Zbo ((c::ms).map λc=>(c,((t+1:Nat):Int)))=Z ((t+1:Nat):Int):=by unfold Zbo;rw[ZBz];refine ZCt.mpr ⟨ZBh.mpr ⟨c,ZBf ..,rfl⟩,λb hb=>?_⟩;obtain⟨c',_,rfl⟩:=ZBh.mp hb;exact ZFk _
    refine⟨?_,λ_=>hO⟩;unfold Zew;rw[hO];have:∀xs:List (List Int),((xs.map λc=>(c,((t+1:Nat):Int))).filter λp=>Z p.2==Z ((t+1:Nat):Int)).map (·.1)=xs:=by
     intro xs
     induction xs with
     | nil=>rfl
     | cons x xs ih=>simp at ih ⊢; exact ih
    exact this _
  obtain⟨m1,m2⟩:=hmin (ZfJ w ls L (ZaB found t M));rw[ho,m1]at ih;refine ih (if ZfJ w ls L (ZaB found t M)=[]then t else t+1) (λe=>?_) λe=>?_
  ·rw[if_pos e]
   exact⟨T,e⟩
  ·rw[if_neg e]
   exact⟨m2 e,Zly hL T⟩
theorem Zpv(hv:Wk.V w)(r:Zg0 (wfV w ls) cbD L [] (Z 0) (L.filter λc=>ZR w c) R):Zeu w ls L R:=by
 refine Zw7 hL hne r 0 (λe=>?_) λ_=>⟨rfl,Zll⟩;have T:ZhV w ls L 0 (M0 w L):=Zll;have e0:M0 w L=[]:=by unfold M0; rw[e]; rfl
 rw[e0]at T;refine⟨T,ZEQ.mpr λc hc h=>?_⟩;rw[ZBx]at h;obtain⟨d,hd,hq⟩:=ZBS.mp h.2;rw[ZBx]at hq;obtain⟨p,hp⟩:=ZCW _ (Zb8 (w:=w) (ls:=ls) (Zeb (hne c hc) hq.1));have:=ZBj.mp hq.2 p hp;cases this
end
theorem ZpB(hv:Wk.V w){ap:AP}(A:ApD ap)(hnd:L.Nodup)(hcr:∀c∈L,Cr w.many c/\c≠[])(hlen:L.length<=128)(hL:ZbO w ls L):∃M,ZbJ ap [w.d,.dict (Zg (ZbA w ls L))]=Z (.dict (Zg (encM M)))/\Zeu w ls L M:=by
 have hys:∀c∈L,(wfV w ls c).length<1000:=λc hc=>by unfold wfV;rw[ZBb];have:=ZeD w c;have:=hv.d2;omega
 obtain⟨R,e,r⟩:=ZhX hv (ap:=ap) (wf:=wfV w ls) (t:=0) (cs:=[]) (cb:=cbD) hnd hlen (λc hc=>(hcr c hc).1) hys λc hc y hy M=>by
  rw[A.d0];obtain⟨d,hd,rfl⟩:=ZBh.mp hy;obtain⟨d0,d1,d2⟩:=Zan hd;refine Zh3 ?_ ?_ M
  ·have:=split_len (w:=w) (ls:=ls) (c:=ZD w c d)
   have:=(ZcI hv (hcr c hc).1 d0 d1).len;have:=hv.m2;show(ZB w ls (ZD w c d)).length<1000;omega
  ·exact λz=>Zb8 (w:=w) (ls:=ls) (Zeb (hcr c hc).2 d2) (by unfold Zx; rw[show ZB w ls (ZD w c d)=[] from z]; rfl)
 refine⟨R,?_,Zpv hL (λc hc=>(hcr c hc).2) hv r⟩;show ZG (Zdx ap [Z (.pl w.d),Z (.pl (.dict (Zg (ZbA w ls L))))])=_;unfold Zdx ZC Zm;show ZG (ZCJ Out.rt (ZbH ap [w.d,.dict (Zg (Zu (wfV w ls) L)),fnD 0 []]))=_;rw[e];rfl
end
section
theorem Zeu.cost(F:Zeu w ls L M){k:Int}(h:Zj M c=Z k):c∈L/\∃n:Nat,k=(n:Int)/\Win w ls n c=ZGH/\∀m,m<n->Win w ls m c=ZGI:=by
 obtain⟨t,T,_⟩:=F;rw[T.look]at h;split at h
 ·rename_i hc
  obtain⟨n,h1,_,h2,h3⟩:=Zmj h;exact⟨hc,n,h1,h2,h3⟩
 ·cases h
theorem Zeu.all(hL:ZbO w ls L)(F:Zeu w ls L M)(hc:c∈L){n:Nat}(h:Win w ls n c=ZGH):Zz M c=ZGH:=by
 obtain⟨t,T,hm⟩:=F;have T':=Zly hL T;rw[hm]at T';have st:∀c∈L,Win w ls (t+1) c=ZGH->Win w ls t c=ZGH:=λc hc q=>by have e1:=T.look c;have e2:=T'.look c;rw[if_pos hc]at e1 e2;have e3:ZcQ w ls t c=ZcQ w ls (t+1) c:=e1.symm.trans e2;rw[<-ZcT,e3,ZcT];exact q
 have:=Zix hL st n c hc h;unfold Zz;rw[T.look,if_pos hc,ZcT];exact this
def ZAM(w:Wk)(ls:List Int)(P:List (List Int))(d:D):Prop:=(∃n:Nat,d=.int n/\(∀p∈P,Win w ls n p=ZGH)/\∀m,m<n->¬∀p∈P,Win w ls m p=ZGH)\/(d=.none/\∀n,¬∀p∈P,Win w ls n p=ZGH)
theorem ZuT(hL:ZbO w ls L)(F:Zeu w ls L M)(hg:g.length<1000)(h0:g≠[])(hp:∀p∈g.map (·.2),p∈L):∃d,ZH [.list (g.map Zad),.dict (Zg (encM M))]=Z d/\ZAM w ls (g.map (·.2)) d:=by
 rw[ZcP hg h0];refine⟨_,rfl,?_⟩;have hne:g.map (·.2)≠[]:=λe=>h0 (ZDS.mp e);cases hq:Zax (g.map (·.2)) M with
 | none=>refine .inr ⟨rfl,λn hn=>?_⟩;have h1:=Zgq hne hq;have:(g.map (·.2)).all (Zz M)=ZGH:=ZBj.mpr λp h=>F.all hL (hp p h) (hn p h);rw[h1]at this;cases this
 | some m =>
  obtain⟨w1,p,hpm,w2⟩:=ZiV hq;obtain⟨_,n,rfl,k3,k4⟩:=F.cost w2;refine .inl ⟨n,rfl,λq hq'=>?_,λj hj hw=>?_⟩
  ·obtain⟨k,a1,a2⟩:=w1 q hq'
   obtain⟨_,n',rfl,a3,_⟩:=F.cost a1;exact Zc3 (by omega) a3
  ·have:=hw p hpm
   rw[k4 j hj]at this;cases this
section
variable{w:Wk}(hv:Wk.V w)(h7:w.many<=7){ls:List Int}(hl:Cr w.looks.length ls)
include hv h7 hl
theorem ZtE{ap:AP}(A:ApD ap):∃d,Zhf ap [w.d,tupI ls]=Z d/\Few w ls d:=by obtain⟨L,hco,hnd,hlen,hcr,_,hL,hbg⟩:=Zie hv h7 hl A hv.bc;obtain⟨M,hde,F⟩:=ZpB hv A hnd hcr hlen hL;have hpa:=ZfM hv hl hv.bc;have hsl:=split_len (w:=w) (ls:=ls) (c:=w.beg);have hbl:=hv.bc.len;have hsn:ZB w ls w.beg≠[]:=λe=>Zb8 (w:=w) (ls:=ls) hv.b1 (by unfold Zx; rw[e]; rfl);obtain⟨d,hm,fw⟩:=ZuT hL F (g:=ZB w ls w.beg) (by omega) hsn hbg;refine⟨d,?_,fw⟩;have hc1:=Zgn hv;have hc2:=Zha hv hl;have hb:=ZfC w;show ZG (Zjs ap [Z (.pl w.d),Z (.pl (tupI ls)),Z_,Z_])=_;simp[Zjs,hc1,hc2,hb,hco,hde,hpa,hm,ZG]
end
end
end HG5
namespace HG6
open PySem HM
open HG
open HG5
def Zhw(ap:AP):SF :=
 (Zs (ZT 3 (Zm (Zbf ap) (Za (Zc 0) (Za (Zc 1) (Za (Zc 2) Zi)))))
  (ZC (eIx (ZP (Zaa (bOf (Zc 0))) (tV (op2 gEq (Zc6 ap 3 (Za (Zc 0) (Za (Zc 2) Zi))) (Zc 4))) (Zc 0)) (eC (.int 0)))))
def Zbp(ap:AP):List D->Option D:=fnOf 3 4 (Zhw ap)
def ZbK(ap:AP):SF :=
 (sIf (tV (op2 gEq (Zak (Zo 1) (Zc 5)) (eC (.int 0)))) (Zh2 4 (Zc 5) (eC (.tuple [.str (ZBY "done")]))) (Zh2 4 (Zc 5) (Zgw ap 3 (Za (Zm (Zbp ap) (Za (Zak (Zo 0) (Zc 5)) (Za (eHd 1) (Za (Zc 2) Zi)))) (Za (Ziy (Zo 4)) Zi)))))
def Zfw(ap:AP):SF :=
 (Zs (Z8 4 fDt)
  (Zs (Ze8 1 (ZbS 5 (ZaV 1) (ZbK ap)))
  (Zhd 4 (ZC (Zc 4)))))
def Zfx(ap:AP):List D->Option D:=fnOf 4 6 (Zfw ap)
def ZrW:SF :=
 (ZC (Z2 (Zc2 (Zaa (bOf (Zc 0))) ZW (Zal (Za (Zc 0) (Za (Zak (Zo 3) (Zc 1)) Zi))))))
def Zci:List D->Option D:=fnOf 2 2 ZrW
def Zim:SF :=
 (ZC (Zal (Za (eC (.str (ZBY "do"))) (Za (eIx (Zo 0) (eC (.int 0))) (Za (Zm Zci (Za (eIx (Zo 0) (eC (.int 1))) (Za (Zc 1) Zi))) Zi)))))
def ZeQ:List D->Option D:=fnOf 2 2 Zim
def Zhg(ap:AP):SF :=
 (Zs (ZiO (Zm Zbr (Za (Zc 0) Zi)))
  (Zs (ZiO (Zm Zbh (Za (Zc 0) (Za (Zc 1) Zi))))
  (Zs (ZT 2 (Zm Zaj (Za (Zc 0) (Za (Zc 1) (Za (Zm Za1 (Za (Zc 0) Zi)) Zi)))))
  (Zs (ZT 3 (Zm (ZbC ap) (Za (Zc 0) (Za (Zc 1) (Za (Zm Za1 (Za (Zc 0) Zi)) Zi)))))
  (Zs (ZT 4 (Zm (ZbJ ap) (Za (Zc 0) (Za (Zc 3) Zi))))
  (Zs (sIf (tV (op2 ZiZ (Zm ZH (Za (Zc 2) (Za (Zc 4) Zi))) (eC .none))) (ZC (eC .none)) ZaN)
  (ZC (Zm Zci (Za (Zc 2) (Za (Zm (Zfx ap) (Za (Zc 3) (Za (Zc 4) (Za (eC (fnD 0 [])) (Za (eC (fnD 2 [])) Zi))))) Zi))))))))))
def ZcK(ap:AP):List D->Option D:=fnOf 2 5 (Zhg ap)
end HG6
namespace HG6
open PySem HM HG4
open HG
open HG5
variable{g:Gs}{m:Int}{L post pre:List (List Int)}{c ls p:List Int}{S:List Int->D}{n:Nat}{M:Tb}{w:Wk}
section
structure Ord(M:Tb)(t:Int):Prop where
 nd:(M.map (·.1)).Nodup
 up:(M.map (·.2)).Pairwise (·<=·)
 lt:∀x∈M,x.2<t
theorem ZkA(M:Tb)(c:List Int):Zz M c=ZGH↔c∈M.map (·.1):=by
 unfold Zz
 induction M with
 | nil=>exact⟨λh=>(by cases h),λh=>(by simp at h)⟩
 | cons p M ih =>
  obtain⟨a,b⟩:=p;rw[Zbw,ZBn,ZBq]
  by_cases h:a=c
  ·rw[if_pos h]
   exact⟨λ_=>.inl h.symm,λ_=>rfl⟩
  ·rw[if_neg h,ih]
   exact⟨.inr,λz=>z.elim (λe=>absurd e.symm h) id⟩
theorem Zxi{v:Int}(h:c ∉ M.map (·.1)):putD M c v=M++[(c,v)]:=by unfold putD;rw[if_neg];intro z;obtain⟨p,hp,e⟩:=ZBS.mp z;exact h (ZBh.mpr ⟨p,hp,of_decide_eq_true e⟩)
theorem Zpm(t:Int):∀(ms:List (List Int)) (M:Tb),ms.Nodup->(∀c∈ms,c ∉ M.map (·.1))->ms.foldl (λM c=>putD M c t) M=M++ms.map λc=>(c,t)
 | [],M,_,_=>by simp
 | c::ms,M,hn,h=>by
  obtain⟨n1,n2⟩:=ZB4.mp hn;rw[ZDj,Zxi (h c (ZBf ..)),Zpm t ms _ n2 λx hx z=>?_]
  ·simp
  ·rw[ZBJ]at z
   rcases ZBI.mp z with z | z
   ·exact h x (ZBi _ hx) z
   ·have e:x=c:=by simpa using z
    exact n1 (e▸hx)
theorem Ord.step{M:Tb}{t:Nat}(o:Ord M t){ms:List (List Int)}(hn:ms.Nodup)(h:∀c∈ms,c ∉ M.map (·.1)):Ord (ms.foldl (λM c=>putD M c (t:Int)) M) ((t+1:Nat):Int):=by
 rw[Zpm _ _ _ hn h];refine⟨?_,?_,λx hx=>?_⟩
 ·rw[ZBJ,ZBz]
  have e:ms.map ((λx:List Int × Int=>x.1)∘λc=>(c,(t:Int)))=ms:=by have:((λx:List Int × Int=>x.1)∘λc=>(c,(t:Int)))=id:=rfl;rw[this,List.map_id]
  rw[e,ZDn];exact⟨o.nd,hn,λa ha b hb e=>h b hb (e▸ha)⟩
 ·rw[ZBJ,ZBz,ZEe]
  refine⟨o.up,?_,λa ha b hb=>?_⟩
  ·rw[ZEJ]
   exact List.pairwise_of_forall λ_ _=>ZFk _
  ·obtain⟨x,hx,rfl⟩:=ZBh.mp ha
   obtain⟨y,_,rfl⟩:=ZBh.mp hb;have:=o.lt x hx;show x.2<=(t:Int);omega
 ·rcases ZBI.mp hx with hx | hx
  ·have:=o.lt x hx
   omega
  ·obtain⟨y,_,rfl⟩:=ZBh.mp hx
   show(t:Int)<((t+1:Nat):Int);omega
def ZAs(w:Wk)(ls:List Int)(L:List (List Int))(M:Tb):Prop:=Zeu w ls L M/\(M.map (·.1)).Nodup/\(M.map (·.2)).Pairwise (·<=·)
section
variable{w:Wk}{ls:List Int}{L:List (List Int)}(hL:ZbO w ls L)(hne:∀c∈L,c≠[])(hnd:L.Nodup)
include hL hne hnd
theorem ZxH{R:Tb}{k:Option Int}{found:List (List Int)}(r:Zg0 (wfV w ls) cbD L M k found R):∀t:Nat,Ord M t->found.Nodup->(∀c∈found,c ∉ M.map (·.1))->(found≠[]->k=Z (t:Int)/\ZhV w ls L t (ZaB found t M))->(R.map (·.1)).Nodup/\(R.map (·.2)).Pairwise (·<=·):=by
 induction r with
 | done=>intro t o _ _ _; exact⟨o.nd,o.up⟩
 | @step M R k found hf _ ih =>
  intro t o hn hno h;obtain⟨hk,T⟩:=h hf;cases hk;have ho:=Zps hL hne T;have hmin:∀ms:List (List Int),Zew (ms.map λc=>(c,((t+1:Nat):Int)))=ms/\(ms≠[]->Zbo (ms.map λc=>(c,((t+1:Nat):Int)))=Z ((t+1:Nat):Int)):=λms=>by
   cases ms with
   | nil=>exact⟨rfl,λz=>absurd rfl z⟩
   | cons c ms =>
    have hO:Zbo ((c::ms).map λc=>(c,((t+1:Nat):Int)))=Z ((t+1:Nat):Int):=by unfold Zbo;rw[ZBz];refine ZCt.mpr ⟨ZBh.mpr ⟨c,ZBf ..,rfl⟩,λb hb=>?_⟩;obtain⟨c',_,rfl⟩:=ZBh.mp hb;exact ZFk _
    refine⟨?_,λ_=>hO⟩;unfold Zew;rw[hO];have:∀xs:List (List Int),((xs.map λc=>(c,((t+1:Nat):Int))).filter λp=>Z p.2==Z ((t+1:Nat):Int)).map (·.1)=xs:=by
     intro xs
     induction xs with
     | nil=>rfl
     | cons x xs ih=>simp at ih ⊢; exact ih
    exact this _
  obtain⟨m1,m2⟩:=hmin (ZfJ w ls L (ZaB found t M));rw[ho,m1]at ih;have o2:Ord (ZaB found t M) ((t+1:Nat):Int):=o.step hn hno;refine ih (t+1) o2 (hnd.filter _) (λc hc z=>?_) λe=>⟨m2 e,Zly hL T⟩;obtain⟨_,h2⟩:=ZBF.mp hc;rw[ZBx]at h2;rw[(ZkA _ c).mpr z]at h2;cases h2.1
end
theorem Zsz(hv:Wk.V w){ap:AP}(A:ApD ap)(hnd:L.Nodup)(hcr:∀c∈L,Cr w.many c/\c≠[])(hlen:L.length<=128)(hL:ZbO w ls L):∃M,ZbJ ap [w.d,.dict (Zg (ZbA w ls L))]=Z (.dict (Zg (encM M)))/\Zg0 (wfV w ls) cbD L [] (Z 0) (L.filter λc=>ZR w c) M:=by
 have hys:∀c∈L,(wfV w ls c).length<1000:=λc hc=>by unfold wfV;rw[ZBb];have:=ZeD w c;have:=hv.d2;omega
 obtain⟨R,e,r⟩:=ZhX hv (ap:=ap) (wf:=wfV w ls) (t:=0) (cs:=[]) (cb:=cbD) hnd hlen (λc hc=>(hcr c hc).1) hys λc hc y hy M=>by
  rw[A.d0];obtain⟨d,hd,rfl⟩:=ZBh.mp hy;obtain⟨d0,d1,d2⟩:=Zan hd;refine Zh3 ?_ ?_ M
  ·have:=split_len (w:=w) (ls:=ls) (c:=ZD w c d)
   have:=(ZcI hv (hcr c hc).1 d0 d1).len;have:=hv.m2;show(ZB w ls (ZD w c d)).length<1000;omega
  ·exact λz=>Zb8 (w:=w) (ls:=ls) (Zeb (hcr c hc).2 d2) (by unfold Zx; rw[show ZB w ls (ZD w c d)=[] from z]; rfl)
 refine⟨R,?_,r⟩;show ZG (Zdx ap [Z (.pl w.d),Z (.pl (.dict (Zg (ZbA w ls L))))])=_;unfold Zdx ZC Zm;show ZG (ZCJ Out.rt (ZbH ap [w.d,.dict (Zg (Zu (wfV w ls) L)),fnD 0 []]))=_;rw[e];rfl
theorem Zsy(hv:Wk.V w){ap:AP}(A:ApD ap)(hnd:L.Nodup)(hcr:∀c∈L,Cr w.many c/\c≠[])(hlen:L.length<=128)(hL:ZbO w ls L):∃M,ZbJ ap [w.d,.dict (Zg (ZbA w ls L))]=Z (.dict (Zg (encM M)))/\ZAs w ls L M:=by obtain⟨M,e,r⟩:=Zsz hv A hnd hcr hlen hL;have hne:=λc hc=>(hcr c hc).2;obtain⟨n1,n2⟩:=ZxH hL hne hnd r 0 ⟨.nil,.nil,λx h=>(by simp at h)⟩ (hnd.filter _) (λc _ z=>by simp at z) λ_=>⟨rfl,Zll⟩;exact⟨M,e,Zpv hL hne hv r,n1,n2⟩
end
section
def ZaH(f:List Int->D)(C:List (List Int)):List (List Ky × D):=C.map λc=>(Zae c,f c)
theorem Zti(f:List Int->D)(C:List (List Int))(k:List Int):Zj (ZaH f C) (Zae k)=if k∈C then Z (f k)else Z_:=by
 unfold Zj ZaH
 induction C with
 | nil=>rfl
 | cons c C ih =>
  rw[ZBn,ZCc]
  by_cases h:c=k
  ·subst h
   rw[if_pos (ZBf ..)];simp
  ·have h':decide ((Zae c,f c).1=Zae k)=ZGI:=decide_eq_false λe=>h (Zer e)
   rw[h'];dsimp only;rw[ih]
   by_cases q:k∈C
   ·rw[if_pos q,if_pos (ZBi _ q)]
   ·rw[if_neg q,if_neg λz=>by
     rcases ZBq.mp z with e | e
     ·exact h e.symm
     ·exact q e]
theorem Zv7{f:List Int->D}{C:List (List Int)}{k:List Int}(h:k ∉ C):putD (ZaH f C) (Zae k) (f k)=ZaH f (C++[k]):=by
 unfold putD;rw[if_neg]
 ·unfold ZaH
  rw[ZBJ];rfl
 ·intro z
  obtain⟨p,hp,e⟩:=ZBS.mp z;unfold ZaH at hp;obtain⟨c,hc,rfl⟩:=ZBh.mp hp;have e:=Zer (of_decide_eq_true e);subst e;exact h hc
abbrev Zdl:D:=.tuple [.str (ZBY "done")]
abbrev doS:D:=.str (ZBY "do")
def ZbW(S:List Int->D)(g:Gs):D:=.tuple (g.map λp=>.tuple [tupI p.1,S p.2])
section
variable(M:Tb)(w:Wk)(ls:List Int)
def okB(c:List Int)(k:Int)(d:Int):Bool:=cbD (Zcr w ls c d) M==Z k
def Zao(c:List Int)(k:Int):Int:=((doV w c).find? (okB M w ls c k)).getD 0
def Zei:Nat->List Int->D
 | 0,_=>Zdl
 | n+1,c=>if Zj M c=Z 0 then Zdl else .tuple [doS,dI (Zao M w ls c ((Zj M c).getD 0)),ZbW (Zei n) (ZB w ls (ZD w c (Zao M w ls c ((Zj M c).getD 0))))]
def ZfI(c:List Int):Nat:=((Zj M c).getD 0).toNat
def ZM(c:List Int):D:=Zei M w ls (ZfI M c) c
end
section
variable{M:Tb}{w:Wk}{ls:List Int}{L:List (List Int)}(hL:ZbO w ls L)(F:Zeu w ls L M)
include hL F
theorem ZwJ{d:Int}(hd:d∈doV w c)(h:∀p∈Zx w ls (ZD w c d),Win w ls n p=ZGH):Win w ls (n+1) c=ZGH:=by
 obtain⟨d0,d1,d2⟩:=Zan hd;have e:((d.toNat:Nat):Int)=d:=ZCr d0;show(ZR w c||(ZBm w.deeds.length).any λd=>Zbz w c d&&(Zx w ls (ZD w c d)).all λp=>Win w ls n p)=ZGH;rw[ZCq]
 right
 refine ZBS.mpr ⟨d.toNat,ZBD.mpr (by omega),?_⟩;rw[e,ZBx];exact⟨d2,ZBj.mpr h⟩
omit hL in
theorem Zkl{d:Int}(h:cbD (Zcr w ls c d) M=Z m):∃n:Nat,m=((n+1:Nat):Int)/\(∀p∈Zx w ls (ZD w c d),∃j:Nat,j<=n/\Zj M p=Z (j:Int))/\∃p∈Zx w ls (ZD w c d),Zj M p=Z (n:Int):=by
 unfold cbD at h;cases hq:Zax (wyP (Zcr w ls c d)) M with
 | none=>rw[hq]at h; cases h
 | some m'=>rw[hq]at h;cases h;obtain⟨a1,p,hp,a2⟩:=ZiV hq;obtain⟨_,n,rfl,_,_⟩:=F.cost a2;refine⟨n,(show(n:Int)+1=((n+1:Nat):Int) by omega),λq hq'=>?_,p,hp,a2⟩;obtain⟨k,b1,b2⟩:=a1 q hq';obtain⟨_,j,rfl,_,_⟩:=F.cost b1;exact⟨j,by omega,b1⟩
theorem ZpN{k:Nat}(hk:Zj M c=Z ((k+1:Nat):Int)){d:Int}(hd:d∈doV w c)(h:cbD (Zcr w ls c d) M=Z m):((k+1:Nat):Int)<=m:=by
 obtain⟨n,rfl,h1,_⟩:=Zkl F h;obtain⟨_,k',e,_,h2⟩:=F.cost hk;obtain rfl:k'=k+1:=by omega
 have hw:=ZwJ hL F (n:=n) hd λp hp=>by
  obtain⟨j,hj,hl⟩:=h1 p hp;obtain⟨_,j',e,g1,_⟩:=F.cost hl;obtain rfl:j=j':=by omega
  exact Zc3 hj g1
 apply ZDe;intro z;rw[h2 (n+1) (by omega)]at hw;cases hw
theorem Zgx{k:Nat}(hk:Zj M c=Z ((k+1:Nat):Int)):Zao M w ls c ((k+1:Nat):Int)∈doV w c/\okB M w ls c ((k+1:Nat):Int) (Zao M w ls c ((k+1:Nat):Int))=ZGH/\(doV w c).find? (okB M w ls c ((k+1:Nat):Int))=Z (Zao M w ls c ((k+1:Nat):Int)):=by
 obtain⟨hc,n,e,h1,h2⟩:=F.cost hk;obtain rfl:n=k+1:=by omega
 have hw:(ZR w c||(ZBm w.deeds.length).any λd=>Zbz w c d&&(Zx w ls (ZD w c d)).all λp=>Win w ls k p)=ZGH:=h1;have ht:ZR w c=ZGI:=h2 0 (by omega);rw[ht,ZFt]at hw;obtain⟨d,hd,hq⟩:=ZBS.mp hw;rw[ZBx]at hq;have hdo:=ZkB (ZBD.mp hd) hq.1;have hcn:c≠[]:=λz=>by rw[z]at ht; cases ht
 have hall:(wyP (Zcr w ls c d)).all (Zz M)=ZGH:=ZBj.mpr λp hp=>F.all hL (hL c hc d (ZBD.mp hd) hq.1 p hp) (ZBj.mp hq.2 p hp);have hok:okB M w ls c ((k+1:Nat):Int) d=ZGH:=by
  cases hcb:cbD (Zcr w ls c d) M with
  | none=>unfold cbD at hcb;rw[ZGg]at hcb;have:=Zgq (Zb8 (w:=w) (ls:=ls) (Zeb hcn hq.1)) hcb;rw[show(Zx w ls (ZD w c d)).all (Zz M)=ZGH from hall]at this;cases this
  | some m =>
   have h3:=ZpN hL F hk hdo hcb;obtain⟨n,rfl,_,p,hp,hl⟩:=Zkl F hcb;obtain⟨_,n',e,_,g2⟩:=F.cost hl;obtain rfl:n=n':=by omega
   have hwp:=ZBj.mp hq.2 p hp;have:n<=k:=by apply ZDe;intro z;rw[g2 k (by omega)]at hwp;cases hwp
   obtain rfl:n=k:=by omega
   unfold okB;rw[hcb];exact beq_self_eq_true _
 have hs:((doV w c).find? (okB M w ls c ((k+1:Nat):Int))).isSome=ZGH:=ZEK.mpr ⟨d,hdo,hok⟩;obtain⟨d',hd'⟩:=ZBM.mp hs;have ed:Zao M w ls c ((k+1:Nat):Int)=d':=by unfold Zao; rw[hd']; rfl
 rw[ed];exact⟨ZDf hd',ZFa (p:=okB M w ls c ((k+1:Nat):Int)) hd',hd'⟩
theorem ZmR{k:Nat}(hk:Zj M c=Z ((k+1:Nat):Int)):cbD (Zcr w ls c (Zao M w ls c ((k+1:Nat):Int))) M=Z ((k+1:Nat):Int):=by obtain⟨_,h2,_⟩:=Zgx hL F hk;unfold okB at h2;exact eq_of_beq h2
theorem Zvd{k:Nat}(hk:Zj M c=Z ((k+1:Nat):Int)):Za8 cbD (wfV w ls c) M=Z ((k+1:Nat):Int):=by obtain⟨h1,_,_⟩:=Zgx hL F hk;have h2:=ZmR hL F hk;unfold Za8;refine ZCt.mpr ⟨ZBU.mpr ⟨_,ZBh.mpr ⟨_,h1,rfl⟩,h2⟩,λb hb=>?_⟩;obtain⟨y,hy,hb⟩:=ZBU.mp hb;obtain⟨d,hd,rfl⟩:=ZBh.mp hy;exact ZpN hL F hk hd hb
theorem ZiP{k:Nat}(hk:Zj M c=Z ((k+1:Nat):Int))(hp:p∈Zx w ls (ZD w c (Zao M w ls c ((k+1:Nat):Int)))):∃j:Nat,j<=k/\Zj M p=Z (j:Int):=by
 obtain⟨n,e,h1,_⟩:=Zkl F (ZmR hL F hk);obtain rfl:n=k:=by omega
 exact h1 p hp
theorem ZsG{k:Nat}(hk:Zj M c=Z ((k+1:Nat):Int)):∃p∈Zx w ls (ZD w c (Zao M w ls c ((k+1:Nat):Int))),Zj M p=Z (k:Int):=by
 obtain⟨n,e,_,h1⟩:=Zkl F (ZmR hL F hk);obtain rfl:n=k:=by omega
 exact h1
omit hL F in
theorem Zmn{T:List Int->D}(h:∀p∈g.map (·.2),S p=T p):ZbW S g=ZbW T g:=by unfold ZbW;congr 1;refine ZCF λp hp=>?_;rw[h p.2 (ZBh.mpr ⟨p,hp,rfl⟩)]
theorem Zq3:∀(k:Nat) (c:List Int),Zj M c=Z (k:Int)->∀n,k<=n->Zei M w ls n c=Zei M w ls k c:=by
 intro k
 induction k using Nat.strongRecOn with
 | ind k ih =>
  intro c hk n hn;cases k with
  | zero =>
   cases n with
   | zero=>rfl
   | succ n=>show(if Zj M c=Z 0 then Zdl else _)=Zdl;rw[if_pos (show Zj M c=Z 0 from hk)]
  | succ k =>
   obtain⟨n,rfl⟩:∃m,n=m+1:=⟨n-1,by omega⟩;have hne:Zj M c≠Z 0:=by
    rw[hk];intro e;injection e with e
    omega
   show(if Zj M c=Z 0 then Zdl else _)=if Zj M c=Z 0 then Zdl else _
   rw[if_neg hne,if_neg hne,hk];have:ZbW (Zei M w ls n) (ZB w ls (ZD w c (Zao M w ls c ((k+1:Nat):Int))))=ZbW (Zei M w ls k) (ZB w ls (ZD w c (Zao M w ls c ((k+1:Nat):Int)))):=Zmn λp hp=>by obtain⟨j,hj,hl⟩:=ZiP hL F hk hp;rw[ih j (by omega) p hl n (by omega),ih j (by omega) p hl k hj]
   show ZBL [_,_,ZbW (Zei M w ls n) (ZB w ls (ZD w c (Zao M w ls c ((k+1:Nat):Int))))]=ZBL [_,_,ZbW (Zei M w ls k) (ZB w ls (ZD w c (Zao M w ls c ((k+1:Nat):Int))))];rw[this]
theorem ZnA(hk:Zj M c=Z 0):ZM M w ls c=Zdl:=by unfold ZM ZfI;rw[hk];rfl
theorem Zno{k:Nat}(hk:Zj M c=Z ((k+1:Nat):Int)):ZM M w ls c=.tuple [doS,dI (Zao M w ls c ((k+1:Nat):Int)),ZbW (ZM M w ls) (ZB w ls (ZD w c (Zao M w ls c ((k+1:Nat):Int))))]:=by
 have hne:Zj M c≠Z 0:=by
  rw[hk];intro e;injection e with e
  omega
 have hcn:ZfI M c=k+1:=by unfold ZfI;rw[hk];show(((k+1:Nat):Int)).toNat=k+1;omega
 unfold ZM;rw[hcn];show(if Zj M c=Z 0 then Zdl else _)=_;rw[if_neg hne,hk];have:ZbW (Zei M w ls k) (ZB w ls (ZD w c (Zao M w ls c ((k+1:Nat):Int))))=ZbW (λp=>Zei M w ls (ZfI M p) p) (ZB w ls (ZD w c (Zao M w ls c ((k+1:Nat):Int)))):=Zmn λp hp=>by
  obtain⟨j,hj,hl⟩:=ZiP hL F hk hp;have hcp:ZfI M p=j:=by unfold ZfI;rw[hl];rfl
  rw[hcp];exact Zq3 hL F j p hl k hj
 show ZBL [_,_,ZbW (Zei M w ls k) (ZB w ls (ZD w c (Zao M w ls c ((k+1:Nat):Int))))]=_;rw[this];rfl
end
theorem ZsW:∀(n m:Nat) (d:D),n<=m->Zel n d=ZGH->Zel m d=ZGH:=by
 intro n
 induction n with
 | zero=>intro m d h q;cases d<;>first | (cases q; done) | (cases m<;>rfl)
 | succ n ih =>
  intro m d h q;obtain⟨m,rfl⟩:∃k,m=k+1:=⟨m-1,by omega⟩;cases d with
  | tuple ds=>exact ZBj.mpr λx hx=>ih m x (by omega) (ZBj.mp (show ds.all (Zel n)=ZGH from q) x hx)
  | none=>rfl
  | bool _=>rfl
  | int _=>rfl
  | str _=>rfl
  | _=>cases q
theorem Zsr(n:Nat)(ns:List Int):Zel (n+1) (tupI ns)=ZGH:=ZBj.mpr λd hd=>by obtain⟨i,_,rfl⟩:=ZBh.mp hd;cases n<;>rfl
theorem Zsq(h:∀c,Zel (n+1) (S c)=ZGH)(g:Gs):Zel (n+3) (ZbW S g)=ZGH:=ZBj.mpr λd hd=>by
 obtain⟨p,_,rfl⟩:=ZBh.mp hd;refine ZBj.mpr λx hx=>?_;rcases ZBq.mp hx with e | hx
 ·rw[e]; exact Zsr n p.1
 ·rw[ZBk.mp hx]; exact h p.2
theorem ZsN(M:Tb)(w:Wk)(ls:List Int):∀(n:Nat) (c:List Int),Zel (3*n+1) (Zei M w ls n c)=ZGH:=by
 intro n
 induction n with
 | zero=>intro c; rfl
 | succ n ih =>
  intro c;show Zel (3*n+3+1) (if Zj M c=Z 0 then Zdl else _)=ZGH;split
  ·rfl
  ·refine ZBj.mpr λx hx=>?_
   rcases ZBq.mp hx with e | hx
   ·rw[e]; rfl
   ·rcases ZBq.mp hx with e | hx
    ·rw[e]; rfl
    ·rw[ZBk.mp hx]
     exact Zsq ih _
end
section
theorem ZwG{k:Int}(h:Zj M c=Z k):(c,k)∈M:=by
 unfold Zj at h;obtain⟨x,hx,e⟩:=ZBc.mp h;have h1:=ZDf hx;have h2:x.1=c:=by simpa using ZFa hx
 have:x=(c,k):=by rw[<-h2,<-e]
 rw[<-this];exact h1
theorem ZwK(nd:(M.map (·.1)).Nodup){k:Int}(h:(c,k)∈M):Zj M c=Z k:=by
 induction M with
 | nil=>simp at h
 | cons p M ih =>
  obtain⟨a,b⟩:=p;rw[ZBn]at nd;obtain⟨n1,n2⟩:=ZB4.mp nd;rw[Zbw];rcases ZBq.mp h with e | h
  ·injection e with e1 e2
   rw[if_pos e1.symm,e2]
  ·rw[if_neg λe=>n1 (by rw[show(a,b).1=c from e]; exact ZBh.mpr ⟨_,h,rfl⟩)]
   exact ih n2 h
theorem ZwV(nd:(M.map (·.1)).Nodup)(up:(M.map (·.2)).Pairwise (·<=·)){k j:Int}(e:M.map (·.1)=pre++c::post)(hk:Zj M c=Z k)(hj:Zj M p=Z j)(hjk:j<k):p∈pre:=by
 obtain⟨A,B,rfl,eA,eB⟩:=List.map_eq_append_iff.mp e;obtain⟨x,B',rfl,ex,eB'⟩:=List.map_eq_cons_iff.mp eB;have hx:Zj (A++x::B') c=Z x.2:=ZwK nd (by rw[<-ex]; exact ZBE _ (ZBf ..));rw[hk]at hx;cases hx;rcases ZBI.mp (ZwG hj)with h | h
 ·rw[<-eA]
  exact ZBh.mpr ⟨_,h,rfl⟩
 ·rcases ZBq.mp h with h | h
  ·rw[<-h]at hjk
   exact absurd hjk (Int.lt_irrefl _)
  ·rw[ZBJ,ZEe]at up
   have h2:=(ZB5.mp (show(x.2::B'.map (·.2)).Pairwise (·<=·) from up.2.1)).1 j (ZBh.mpr ⟨_,h,rfl⟩);omega
theorem Zmr{P:List (List Int)}(hg:g.length<1000000)(h:∀p∈g.map (·.2),p∈P):Zci [.list (g.map Zad),.dict (Zg (ZaH S P))]=Z (ZbW S g):=by
 have e:=Zht (c:=ZW) (e:=Zal (Za (Zc 0) (Za (Zak (Zo 3) (Zc 1)) Zi))) (r:=[Z (.pl (.list (g.map Zad))),Z (.pl (.dict (Zg (ZaH S P))))]) (λp:List Int × List Int=>tupI p.1) (λp=>tupI p.2) (λ_=>ZGH) (λp=>ZBL [tupI p.1,S p.2]) g (λ_ _=>rfl) (λp hp _=>by have hk:ZbG (tupI p.2)=Z (Zae p.2):=ZbF p.2;have hlk:=Zti S P p.2;rw[if_pos (h p.2 (ZBh.mpr ⟨p,hp,rfl⟩))]at hlk;simp[dec_enc,hk,hlk]);rw[ZCG.mpr λ_ _=>rfl]at e;have hi:Zaa (bOf (Zc 0)) [Z (.pl (.list (g.map Zad))),Z (.pl (.dict (Zg (ZaH S P))))]=Z (g.map Zad):=rfl;show ZG (ZC (Z2 (Zc2 (Zaa (bOf (Zc 0))) ZW (Zal (Za (Zc 0) (Za (Zak (Zo 3) (Zc 1)) Zi))))) [Z (.pl (.list (g.map Zad))),Z (.pl (.dict (Zg (ZaH S P))))])=_;have hf:Zc2 (Zaa (bOf (Zc 0))) ZW (Zal (Za (Zc 0) (Za (Zak (Zo 3) (Zc 1)) Zi))) [Z (.pl (.list (g.map Zad))),Z (.pl (.dict (Zg (ZaH S P))))]=Z (.ol (g.map λp=>ZBL [tupI p.1,S p.2])):=by unfold Zc2;rw[hi];dsimp only;rw[if_pos (show(g.map Zad).length<big by rw[ZBb]; exact hg)];refine(congrArg (ZCJ _) e).trans ?_;rfl
 unfold ZC Z2;rw[hf];rfl
theorem Zrf{ap:AP}{t:Nat}{cs:List D}{cb:Cb}{ys:List Wy}(hy:ys.length<1000)(ha:∀y∈ys,ap t cs [wyD y,.dict (Zg (encM M))]=Z (oI (cb y M))){k:Int}(hk:Za8 cb ys M=Z k){y:Wy}(hf:ys.find? (λy=>cb y M==Z k)=Z y) :
  Zbp ap [.list (ys.map wyD),.dict (Zg (encM M)),fnD t cs]=Z (wyD y):=by
 have h1:=Zjc (t:=t) (cs:=cs) hy ha;rw[hk]at h1;have hb:ys.length<big:=by show _<1000000; omega
 show ZG (Zhw ap [Z (.pl (.list (ys.map wyD))),Z (.pl (.dict (Zg (encM M)))),Z (.pl (fnD t cs)),Z_])=_;unfold Zhw;refine ZO (P:=λq=>ZG q=_) (r':=[Z (.pl (.list (ys.map wyD))),Z (.pl (.dict (Zg (encM M)))),Z (.pl (fnD t cs)),Z (.pl (.int k))]) ?_ ?_
 ·have:Zm (Zbf ap) (Za (Zc 0) (Za (Zc 1) (Za (Zc 2) Zi))) [Z (.pl (.list (ys.map wyD))),Z (.pl (.dict (Zg (encM M)))),Z (.pl (fnD t cs)),Z_]=Z (.int k):=h1
  unfold ZT;rw[this];rfl
 ·have e1:ZaP (tV (op2 gEq (Zc6 ap 3 (Za (Zc 0) (Za (Zc 2) Zi))) (Zc 4))) (Zc 0) [Z (.pl (.list (ys.map wyD))),Z (.pl (.dict (Zg (encM M)))),Z (.pl (fnD t cs)),Z (.pl (.int k))] (ys.map wyD)=Z ((ys.filter λy=>cb y M==Z k).map wyD):=by
   rw[Zct wyD (λy=>cb y M==Z k) wyD]
   ·intro y h
    have hc:Zc6 ap 3 (Za (Zc 0) (Za (Zc 2) Zi)) (Z (.pl (wyD y))::[Z (.pl (.list (ys.map wyD))),Z (.pl (.dict (Zg (encM M)))),Z (.pl (fnD t cs)),Z (.pl (.int k))])=Z (oI (cb y M)):=by show(match ZiQ (fnD t cs)with | some (t,cs)=>_ | none=>Z_)=_;rw[ZkC];exact ha y h
    unfold tV op2;rw[hc];show(match gEq (oI (cb y M)) (.int k)with | some (.bool b)=>Z b | _=>Z_)=_;cases hq:cb y M with
    | none=>rfl
    | some m =>
     show(match gEq (.int m) (.int k)with | some (.bool b)=>Z b | _=>Z_)=_
     by_cases e:m=k
     ·subst e
      rw[ZiC (ZdM 1 _) (by decide)];simp
     ·rw[ZjY (ZdM 1 _) (ZdM 1 _) (by decide) (by decide) (λz=>e (by injection z))]
      simp[e]
   ·intro y _ _
    rfl
  have e2:ZP (Zaa (bOf (Zc 0))) (tV (op2 gEq (Zc6 ap 3 (Za (Zc 0) (Za (Zc 2) Zi))) (Zc 4))) (Zc 0) [Z (.pl (.list (ys.map wyD))),Z (.pl (.dict (Zg (encM M)))),Z (.pl (fnD t cs)),Z (.pl (.int k))]=Z (.ol ((ys.filter λy=>cb y M==Z k).map wyD)):=by unfold ZP;show(if(ys.map wyD).length<big then _ else Z_)=_;rw[if_pos (by rw[ZBb]; exact hb),e1];rfl
  rw[ZFb]at hf;obtain⟨hyk,as,bs,rfl,hno⟩:=hf;have hfl:((as++y::bs).filter λy=>cb y M==Z k)=y::bs.filter λy=>cb y M==Z k:=by rw[List.filter_append,ZEQ.mpr (λx hx=>by have:=hno x hx; simpa using this),ZDk,ZDt,if_pos hyk]
  rw[hfl]at e2;have e3:eIx (ZP (Zaa (bOf (Zc 0))) (tV (op2 gEq (Zc6 ap 3 (Za (Zc 0) (Za (Zc 2) Zi))) (Zc 4))) (Zc 0)) (eC (.int 0)) [Z (.pl (.list ((as++y::bs).map wyD))),Z (.pl (.dict (Zg (encM M)))),Z (.pl (fnD t cs)),Z (.pl (.int k))]=Z (wyD y):=by unfold eIx;rw[e2];exact ZdQ (ds:=wyD y::(bs.filter λy=>cb y M==Z k).map wyD) (j:=0) rfl
  unfold ZC;rw[e3];rfl
section
variable{w:Wk}(hv:Wk.V w){ls:List Int}{L:List (List Int)}{M:Tb}(hcr:∀c∈L,Cr w.many c/\c≠[])(hlen:L.length<=128)(hL:ZbO w ls L)(F:Zeu w ls L M)(nd:(M.map (·.1)).Nodup)(up:(M.map (·.2)).Pairwise (·<=·))
include hlen hL F
theorem ZrE{k:Nat}(h:Zj M c=Z (k:Int)):k<=128:=by
 obtain⟨hc,n,e,h1,h2⟩:=F.cost h;have:=Zw5 hL hc h1;obtain rfl:k=n:=by omega
 by_cases hn:k<=L.length
 ·omega
 ·rw[h2 L.length (by omega)]at this
  cases this
theorem Zvr(c:List Int):ZfI M c<=128:=by
 unfold ZfI;cases h:Zj M c with
 | none=>exact ZCC _
 | some v=>obtain⟨_,n,rfl,_,_⟩:=F.cost h;have:=ZrE hlen hL F h;show((n:Int)).toNat<=128;omega
theorem Zsd(c:List Int):Zel 400 (ZM M w ls c)=ZGH :=
 ZsW _ _ _ (by have:=Zvr hlen hL F c; omega) (ZsN M w ls (ZfI M c) c)
structure _root_.HG6.ApP(ap:AP):Prop where
 d:ApD ap
 d2:∀ds,ap 2 [] ds=ZeQ ds
include hv hcr nd up
theorem ZsM{ap:AP}(A:ApP ap)(e:M.map (·.1)=pre++c::post)(hpl:pre.length<1000000) :
  ZbK ap [Z (.pl (.dict (Zg (ZbA w ls L)))),Z (.hd (Zg (encM M))),Z (.pl (fnD 0 [])),Z (.pl (fnD 2 [])),Z (.ot (ZaH (ZM M w ls) pre)),Z (.pl (tupI c))]=Z (.nx [Z (.pl (.dict (Zg (ZbA w ls L)))),Z (.hd (Zg (encM M))),Z (.pl (fnD 0 [])),Z (.pl (fnD 2 [])),Z (.ot (ZaH (ZM M w ls) (pre++[c]))),Z (.pl (tupI c))]):=by
 have hcm:c∈M.map (·.1):=by rw[e]; exact ZBE _ (ZBf ..)
 have hh:=(ZkA M c).mpr hcm;unfold Zz at hh;obtain⟨v,hv'⟩:=ZBM.mp hh;obtain⟨hcl,n,rfl,_,_⟩:=F.cost hv';have hnp:c ∉ pre:=λz=>by rw[e]at nd;exact(ZDn.mp nd).2.2 c z c (ZBf ..) rfl
 have hk:ZbG (tupI c)=Z (Zae c):=ZbF c;have hlk:=ZdF M c;rw[hv']at hlk;have hel:(ZaH (ZM M w ls) pre).length<1000000:=by unfold ZaH; rw[ZBb]; exact hpl
 have hput:=Zv7 (f:=ZM M w ls) hnp;cases n with
 | zero =>
  have hs:=ZnA (ls:=ls) hL F (c:=c) hv';rw[<-hput,hs];have hz:tV (op2 gEq (Zak (Zo 1) (Zc 5)) (eC (.int 0))) [Z (.pl (.dict (Zg (ZbA w ls L)))),Z (.hd (Zg (encM M))),Z (.pl (fnD 0 [])),Z (.pl (fnD 2 [])),Z (.ot (ZaH (ZM M w ls) pre)),Z (.pl (tupI c))]=Z ZGH:=by simp[dec_enc,hk,hlk]
  unfold ZbK sIf;rw[hz];simp[hk,hel]
 | succ k =>
  have hs:=Zno (ls:=ls) hL F (c:=c) hv';have hto:=Zsd (w:=w) (ls:=ls) hlen hL F c;obtain⟨hd,_,hfind⟩:=Zgx hL F hv';have hmin:=Zvd hL F hv';have hparts:=λp hp=>ZiP hL F hv' (p:=p) hp;have hcc:=(hcr c hcl).1;obtain⟨d0,d1,d2⟩:=Zan hd;have hsl:=split_len (w:=w) (ls:=ls) (c:=ZD w c (Zao M w ls c ((k+1:Nat):Int)));have hll:=(ZcI hv hcc d0 d1).len;have hm2:=hv.m2;have hpo:=Zmr (S:=ZM M w ls) (P:=pre) (g:=ZB w ls (ZD w c (Zao M w ls c ((k+1:Nat):Int)))) (by omega) λp hp=>by obtain⟨j,hj,hl⟩:=hparts p hp;exact ZwV nd up e hv' hl (by omega)
  have hlw:=Zhr (wfV w ls) L c;rw[if_pos hcl]at hlw;have hbw:Zbp ap [.list ((wfV w ls c).map wyD),.dict (Zg (encM M)),fnD 0 []]=Z (wyD (Zcr w ls c (Zao M w ls c ((k+1:Nat):Int)))):=by
   refine Zrf (cb:=cbD) (k:=((k+1:Nat):Int)) ?_ (λy hy=>?_) hmin ?_
   ·unfold wfV
    rw[ZBb];have:=ZeD w c;have:=hv.d2;omega
   ·rw[A.d.d0]
    obtain⟨d,hd,rfl⟩:=ZBh.mp hy;obtain⟨e0,e1,e2⟩:=Zan hd;refine Zh3 ?_ ?_ M
    ·have:=split_len (w:=w) (ls:=ls) (c:=ZD w c d)
     have:=(ZcI hv hcc e0 e1).len;show(ZB w ls (ZD w c d)).length<1000;omega
    ·exact λz=>Zb8 (w:=w) (ls:=ls) (Zeb (hcr c hcl).2 e2) (by unfold Zx; rw[show ZB w ls (ZD w c d)=[] from z]; rfl)
   ·unfold wfV
    rw[ZGs];have hfind':(doV w c).find? ((λy=>cbD y M==Z ((k+1:Nat):Int))∘Zcr w ls c)=Z (Zao M w ls c ((k+1:Nat):Int)):=hfind;rw[hfind'];rfl
  rw[<-hput,hs];rw[hs]at hto;generalize Zao M w ls c ((k+1:Nat):Int)=d at *;have hz:tV (op2 gEq (Zak (Zo 1) (Zc 5)) (eC (.int 0))) [Z (.pl (.dict (Zg (ZbA w ls L)))),Z (.hd (Zg (encM M))),Z (.pl (fnD 0 [])),Z (.pl (fnD 2 [])),Z (.ot (ZaH (ZM M w ls) pre)),Z (.pl (tupI c))]=Z ZGI:=by
   have hb:(((k+1:Nat):Int)==0)=ZGI:=by rw[beq_eq_false_iff_ne]; omega
   generalize ((k+1:Nat):Int)=k1 at hb hlk;simp[dec_enc,hk,hlk,hb]
  have hst:ZeQ [wyD (Zcr w ls c d),.dict (Zg (ZaH (ZM M w ls) pre))]=Z (.tuple [doS,dI d,ZbW (ZM M w ls) (ZB w ls (ZD w c d))]):=by show ZG (Zim [Z (.pl (wyD (Zcr w ls c d))),Z (.pl (.dict (Zg (ZaH (ZM M w ls) pre))))])=_;have h1:Zm Zci (Za (eIx (Zo 0) (eC (.int 1))) (Za (Zc 1) Zi)) [Z (.pl (wyD (Zcr w ls c d))),Z (.pl (.dict (Zg (ZaH (ZM M w ls) pre))))]=Z (ZbW (ZM M w ls) (ZB w ls (ZD w c d))):=hpo;have h2:eIx (Zo 0) (eC (.int 0)) [Z (.pl (wyD (Zcr w ls c d))),Z (.pl (.dict (Zg (ZaH (ZM M w ls) pre))))]=Z (dI d):=rfl;unfold Zim;generalize Zm Zci (Za (eIx (Zo 0) (eC (.int 1))) (Za (Zc 1) Zi))=E at h1 ⊢;generalize eIx (Zo 0) (eC (.int 0))=E2 at h2 ⊢;simp[h1,h2,ZG]
  have hw2:Zm (Zbp ap) (Za (Zak (Zo 0) (Zc 5)) (Za (eHd 1) (Za (Zc 2) Zi))) [Z (.pl (.dict (Zg (ZbA w ls L)))),Z (.hd (Zg (encM M))),Z (.pl (fnD 0 [])),Z (.pl (fnD 2 [])),Z (.ot (ZaH (ZM M w ls) pre)),Z (.pl (tupI c))]=Z (wyD (Zcr w ls c d)):=by simp[dec_enc,hk,hlw,hbw]
  have hval:Zgw ap 3 (Za (Zm (Zbp ap) (Za (Zak (Zo 0) (Zc 5)) (Za (eHd 1) (Za (Zc 2) Zi)))) (Za (Ziy (Zo 4)) Zi)) [Z (.pl (.dict (Zg (ZbA w ls L)))),Z (.hd (Zg (encM M))),Z (.pl (fnD 0 [])),Z (.pl (fnD 2 [])),Z (.ot (ZaH (ZM M w ls) pre)),Z (.pl (tupI c))]=Z (.tuple [doS,dI d,ZbW (ZM M w ls) (ZB w ls (ZD w c d))]):=by
   have ha:Za (Zm (Zbp ap) (Za (Zak (Zo 0) (Zc 5)) (Za (eHd 1) (Za (Zc 2) Zi)))) (Za (Ziy (Zo 4)) Zi) [Z (.pl (.dict (Zg (ZbA w ls L)))),Z (.hd (Zg (encM M))),Z (.pl (fnD 0 [])),Z (.pl (fnD 2 [])),Z (.ot (ZaH (ZM M w ls) pre)),Z (.pl (tupI c))]=Z [wyD (Zcr w ls c d),.dict (Zg (ZaH (ZM M w ls) pre))]:=by generalize Zm (Zbp ap) (Za (Zak (Zo 0) (Zc 5)) (Za (eHd 1) (Za (Zc 2) Zi)))=E at hw2 ⊢;simp[hw2]
   unfold Zgw;show(match ZiQ (fnD 2 [])with | some (t,cs)=>_ | none=>Z_)=_;rw[ZkC];dsimp only;rw[ha];dsimp only;rw[A.d2,hst];dsimp only;rw[if_pos hto]
  unfold ZbK sIf;rw[hz];generalize Zgw ap 3 (Za (Zm (Zbp ap) (Za (Zak (Zo 0) (Zc 5)) (Za (eHd 1) (Za (Zc 2) Zi)))) (Za (Ziy (Zo 4)) Zi))=E at hval ⊢;simp[hval,hk,hel]
theorem Zqk{ap:AP}(A:ApP ap):∀(post pre:List (List Int)) (q5:Option B),M.map (·.1)=pre++post->pre.length+post.length<1000000->Zbe q5=ZGI ->
  ∃p5,Zbe p5=ZGI/\Zbm 5 (ZbK ap) (post.map tupI) [Z (.pl (.dict (Zg (ZbA w ls L)))),Z (.hd (Zg (encM M))),Z (.pl (fnD 0 [])),Z (.pl (fnD 2 [])),Z (.ot (ZaH (ZM M w ls) pre)),q5]=Z (.nx [Z (.pl (.dict (Zg (ZbA w ls L)))),Z (.hd (Zg (encM M))),Z (.pl (fnD 0 [])),Z (.pl (fnD 2 [])),Z (.ot (ZaH (ZM M w ls) (pre++post))),p5])
 | [],pre,q5,_,_,h5=>⟨q5,h5,by rw[ZDw,ZBW]; rfl⟩
 | c::post,pre,q5,e,hl,h5=>by rw[ZBy]at hl;have e1:=ZsM hv hcr hlen hL F nd up A e (by omega);obtain⟨r5,g5,ih⟩:=Zqk A post (pre++[c]) (Z (.pl (tupI c))) (by rw[e]; simp) (by rw[ZBv,ZCs]; omega) rfl;refine⟨r5,g5,?_⟩;rw[show pre++c::post=(pre++[c])++post by simp,<-ih,ZBn];show(match ZbK ap [Z (.pl (.dict (Zg (ZbA w ls L)))),Z (.hd (Zg (encM M))),Z (.pl (fnD 0 [])),Z (.pl (fnD 2 [])),Z (.ot (ZaH (ZM M w ls) pre)),Z (.pl (tupI c))]with | some (.nx r')=>_ | some (.ct r')=>_ | some (.bk r')=>_ | some (.rt d)=>_ | none=>_)=_;rw[e1]
theorem Zq9{ap:AP}(A:ApP ap)(hML:M.length<1000000):Zfx ap [.dict (Zg (ZbA w ls L)),.dict (Zg (encM M)),fnD 0 [],fnD 2 []]=Z (.dict (Zg (ZaH (ZM M w ls) (M.map (·.1))))):=by
 obtain⟨p5,g5,hgo⟩:=Zqk hv hcr hlen hL F nd up A (M.map (·.1)) [] Z_ rfl (by simp; exact hML) rfl;rw[ZDk]at hgo;show ZG (Zfw ap [Z (.pl (.dict (Zg (ZbA w ls L)))),Z (.pl (.dict (Zg (encM M)))),Z (.pl (fnD 0 [])),Z (.pl (fnD 2 [])),Z_,Z_])=_;have e:Zfw ap [Z (.pl (.dict (Zg (ZbA w ls L)))),Z (.pl (.dict (Zg (encM M)))),Z (.pl (fnD 0 [])),Z (.pl (fnD 2 [])),Z_,Z_]=Z (.rt (.dict (Zg (ZaH (ZM M w ls) (M.map (·.1)))))):=by
  unfold Zfw;refine ZO (P:=λq=>q=_) (r':=[Z (.pl (.dict (Zg (ZbA w ls L)))),Z (.pl (.dict (Zg (encM M)))),Z (.pl (fnD 0 [])),Z (.pl (fnD 2 [])),Z (.ot (ZaH (ZM M w ls) [])),Z_]) rfl ?_;refine ZO (P:=λq=>q=_) (r':=[Z (.pl (.dict (Zg (ZbA w ls L)))),Z (.pl (.dict (Zg (encM M)))),Z (.pl (fnD 0 [])),Z (.pl (fnD 2 [])),Z (.ot (ZaH (ZM M w ls) (M.map (·.1)))),p5]) ?_ (by simp);have hw:ZaV 1 [Z (.pl (.dict (Zg (ZbA w ls L)))),Z (.hd (Zg (encM M))),Z (.pl (fnD 0 [])),Z (.pl (fnD 2 [])),Z (.ot (ZaH (ZM M w ls) [])),Z_]=Z ((M.map (·.1)).map tupI):=by show(Zfj (Zg (encM M))).map _=_;rw[dec_enc,<-Zkk M];rfl
  have hs:ZbS 5 (ZaV 1) (ZbK ap) [Z (.pl (.dict (Zg (ZbA w ls L)))),Z (.hd (Zg (encM M))),Z (.pl (fnD 0 [])),Z (.pl (fnD 2 [])),Z (.ot (ZaH (ZM M w ls) [])),Z_]=Z (.nx [Z (.pl (.dict (Zg (ZbA w ls L)))),Z (.hd (Zg (encM M))),Z (.pl (fnD 0 [])),Z (.pl (fnD 2 [])),Z (.ot (ZaH (ZM M w ls) (M.map (·.1)))),p5]):=by unfold ZbS;rw[hw];dsimp only;rw[if_pos (by rw[ZBb,ZBb]; exact hML)];exact hgo
  have a2:([Z (B.pl (.dict (Zg (ZbA w ls L)))),Z_,Z (.pl (fnD 0 [])),Z (.pl (fnD 2 [])),Z (.ot (ZaH (ZM M w ls) (M.map (·.1)))),p5]:HM.Env).all (λq=>!Zbe q)=ZGH:=by simp only[ZCp,ZFZ,g5];rfl
  show(match ZbS 5 (ZaV 1) (ZbK ap) [Z (.pl (.dict (Zg (ZbA w ls L)))),Z (.hd (Zg (encM M))),Z (.pl (fnD 0 [])),Z (.pl (fnD 2 [])),Z (.ot (ZaH (ZM M w ls) [])),Z_]with | some (.nx r')=>_ | some (.rt d)=>_ | _=>Z_)=_;rw[hs];show(if([Z (B.pl (.dict (Zg (ZbA w ls L)))),Z_,Z (.pl (fnD 0 [])),Z (.pl (fnD 2 [])),Z (.ot (ZaH (ZM M w ls) (M.map (·.1)))),p5]:HM.Env).all (λq=>!Zbe q)=ZGH then _ else _)=_;rw[if_pos a2];rfl
 rw[e];rfl
end
end
section
section
variable{w:Wk}(hv:Wk.V w)(h7:w.many<=7){ls:List Int}(hl:Cr w.looks.length ls)
include hv h7 hl
theorem Ztn{ap:AP}(A:ApP ap):∃L M,L.length<=128/\L.Nodup/\(∀c∈L,Cr w.many c/\c≠[])/\ZbO w ls L/\Zeu w ls L M/\(∀p∈Zx w ls w.beg,p∈L)/\ZcK ap [w.d,tupI ls]=Z (if(Zx w ls w.beg).all (Zz M)then ZbW (ZM M w ls) (ZB w ls w.beg)else .none):=by
 obtain⟨L,hco,hnd,hlen,hcr,_,hL,hbg⟩:=Zie hv h7 hl A.d hv.bc;obtain⟨M,hde,F,nd,up⟩:=Zsy hv A.d hnd hcr hlen hL;refine⟨L,M,hlen,hnd,hcr,hL,F,hbg,?_⟩;have hMl:M.length<=128:=by
  have h1:(M.map (·.1)).length<=L.length:=ZCz nd λc hc=>by have hh:=(ZkA M c).mpr hc;unfold Zz at hh;obtain⟨k,hk⟩:=ZBM.mp hh;exact(F.cost hk).1
  rw[ZBb]at h1;omega
 have hst:=Zq9 hv hcr hlen hL F nd up A (by omega);have hpa:=ZfM hv hl hv.bc;have hsl:=split_len (w:=w) (ls:=ls) (c:=w.beg);have hbl:=hv.bc.len;have hsn:ZB w ls w.beg≠[]:=λe=>Zb8 (w:=w) (ls:=ls) hv.b1 (by unfold Zx; rw[e]; rfl);have hmo:=ZcP (g:=ZB w ls w.beg) (M:=M) (by omega) hsn;have hc1:=Zgn hv;have hc2:=Zha hv hl;have hb:=ZfC w;have hall:(Zx w ls w.beg).all (Zz M)=((ZB w ls w.beg).map (·.2)).all (Zz M):=rfl;rw[hall];show ZG (Zhg ap [Z (.pl w.d),Z (.pl (tupI ls)),Z_,Z_,Z_])=_;cases hq:((ZB w ls w.beg).map (·.2)).all (Zz M)with
 | false =>
  have hmo:ZH [.list ((ZB w ls w.beg).map Zad),.dict (Zg (encM M))]=Z .none:=by rw[hmo];unfold Zax;rw[hq];rfl
  simp[Zhg,hc1,hc2,hb,hco,hde,hpa,hmo,ZG]
 | true =>
  rw[if_pos rfl];have hne:((ZB w ls w.beg).map (·.2))≠[]:=λe=>hsn (ZDS.mp e);obtain⟨m,hm⟩:∃m,Zax ((ZB w ls w.beg).map (·.2)) M=Z m:=by
   cases q:Zax ((ZB w ls w.beg).map (·.2)) M with
   | none=>have:=Zgq hne q; rw[hq]at this; cases this
   | some m=>exact⟨m,rfl⟩
  rw[hm]at hmo;have hmo:ZH [.list ((ZB w ls w.beg).map Zad),.dict (Zg (encM M))]=Z (.int m):=hmo;have hpo:=Zmr (S:=ZM M w ls) (P:=M.map (·.1)) (g:=ZB w ls w.beg) (by omega) λp hp=>(ZkA M p).mp (ZBj.mp hq p hp);simp[Zhg,hc1,hc2,hb,hco,hde,hpa,hmo,hst,hpo,ZG]
end
end
end HG6
namespace HG21
open PySem HM
open HG
open HG5
open HG6
def Zee(ap:AP):SF :=
 (Zs (ZeF 2 (eIx (Zo 3) (eC (.int 1))))
  (ZT 3 (eIx (bOf (eIx (bOf (eIx (Zo 3) (eC (.int 2)))) (eC (.int 0)))) (eC (.int 1)))))
def Zdy(ap:AP):SF :=
 (Zs (ZT 1 (Zm (ZcK ap) (Za (Zc 0) (Za (Zal Zi) Zi))))
  (Zs (sIf (tV (op2 ZiZ (Zc 1) (eC .none))) (ZC (eC .none)) ZaN)
  (Zs (Z8 2 (Zf4 Zi))
  (Zs (ZT 3 (eIx (bOf (eIx (Zo 1) (eC (.int 0)))) (eC (.int 1))))
  (Zs (Zl8 100000 (tV (op2 gGt (Zaz (Zo 3)) (eC (.int 1)))) (Zee ap))
  (Zhd 2 (ZC (Zc 2))))))))
def Zcz(ap:AP):List D->Option D:=fnOf 1 4 (Zdy ap)
end HG21
namespace HG21
open PySem HM HG4
open HG
open HG5
open HG6
variable{c:List Int}{w:Wk}
theorem ZvF(w:Wk)(c:List Int)(s:Int):Zcd w [] c s=c:=by unfold Zcd;exact ZCG.mpr λ_ _=>rfl
theorem Zhl(h0:c≠[]):Zx w [] c=[c]:=by
 have hn:=Zk0 w [] c;have hne:=Zb8 (w:=w) (ls:=[]) h0;have hm:∀p∈Zx w [] c,p=c:=λp hp=>by obtain⟨s,_,rfl⟩:=ZaM.mp hp;exact ZvF w c s
 cases hq:Zx w [] c with
 | nil=>exact absurd hq hne
 | cons p ps =>
  rw[hq]at hn hm;have e1:=hm p (ZBf ..);cases ps with
  | nil=>rw[e1]
  | cons q ps=>have e2:=hm q (ZBi _ (ZBf ..));exact absurd (e1.trans e2.symm) (λz=>(ZB4.mp hn).1 (by rw[z]; exact ZBf ..))
theorem Znu(h0:c≠[]):∃k,ZB w [] c=[(k,c)]:=by
 have h:=Zhl (w:=w) h0;unfold Zx at h;cases hq:ZB w [] c with
 | nil=>rw[hq]at h; cases h
 | cons p ps =>
  rw[hq,ZBn]at h;injection h with h1 h2
  rw[ZDS]at h2;exact⟨p.1,by rw[h2,<-h1]⟩
def Za9(M:Tb)(w:Wk):Nat->List Int->List Int
 | 0,_=>[]
 | k+1,c=>Zao M w [] c ((k+1:Nat):Int)::Za9 M w k (ZD w c (Zao M w [] c ((k+1:Nat):Int)))
theorem Zo6(M:Tb)(w:Wk):∀(n:Nat) (c:List Int),(Za9 M w n c).length=n
 | 0,_=>rfl
 | n+1,c=>by show(Za9 M w n _).length+1=n+1;rw[Zo6 M w n]
section
variable{ap:AP}{w:Wk}(hv:Wk.V w)(h7:w.many<=7){L:List (List Int)}{M:Tb}(hcr:∀c∈L,Cr w.many c/\c≠[])(hL:ZbO w [] L)(F:Zeu w [] L M)
include hcr hL F
theorem Zro{k:Nat}(hk:Zj M c=Z ((k+1:Nat):Int)):Zao M w [] c ((k+1:Nat):Int)∈doV w c/\ZD w c (Zao M w [] c ((k+1:Nat):Int))≠[]/\Zj M (ZD w c (Zao M w [] c ((k+1:Nat):Int)))=Z (k:Int):=by obtain⟨h1,_,_⟩:=Zgx hL F hk;obtain⟨hc,_⟩:=F.cost hk;obtain⟨d0,d1,d2⟩:=Zan h1;have hne:=Zeb (hcr c hc).2 d2;obtain⟨p,hp,hl⟩:=ZsG hL F hk;rw[Zhl hne]at hp;rw[ZBk.mp hp]at hl;exact⟨h1,hne,hl⟩
theorem Zp3(e0 e1:Option B):∀(n:Nat) (c acc:List Int) (fuel:Nat),Zj M c=Z (n:Int)->n<fuel->acc.length+n<1000 ->
  ZaR (tV (op2 gGt (Zaz (Zo 3)) (eC (.int 1)))) (Zee ap) fuel [e0,e1,Z (.ol (acc.map dI)),Z (.pl (ZM M w [] c))]=Z (.nx [e0,e1,Z (.ol ((acc++Za9 M w n c).map dI)),Z (.pl Zdl)])
 | 0,c,acc,fuel,hk,hf,_=>by obtain⟨f,rfl⟩:∃f,fuel=f+1:=⟨fuel-1,by omega⟩;rw[ZnA (ls:=[]) hL F hk];show ZaR _ _ (f+1) _=Z (.nx [e0,e1,Z (.ol ((acc++[]).map dI)),Z (.pl Zdl)]);rw[ZBW];unfold ZaR;have:tV (op2 gGt (Zaz (Zo 3)) (eC (.int 1))) [e0,e1,Z (.ol (acc.map dI)),Z (.pl Zdl)]=Z ZGI:=rfl;rw[this]
 | n+1,c,acc,fuel,hk,hf,hl=>by
  obtain⟨f,rfl⟩:∃f,fuel=f+1:=⟨fuel-1,by omega⟩;obtain⟨h1,h2,h3⟩:=Zro hcr hL F hk;obtain⟨k,hs⟩:=Znu (w:=w) h2;have hst:=Zno (ls:=[]) hL F hk;rw[hs]at hst;have ih:=Zp3 e0 e1 n (ZD w c (Zao M w [] c ((n+1:Nat):Int))) (acc++[Zao M w [] c ((n+1:Nat):Int)]) f h3 (by omega) (by rw[ZBv,ZCs]; omega);show ZaR _ _ (f+1) _=Z (.nx [e0,e1,Z (.ol ((acc++Zao M w [] c ((n+1:Nat):Int)::Za9 M w n (ZD w c (Zao M w [] c ((n+1:Nat):Int)))).map dI)),Z (.pl Zdl)]);generalize Zao M w [] c ((n+1:Nat):Int)=d at *;generalize ZD w c d=b at *;rw[show acc++d::Za9 M w n b=(acc++[d])++Za9 M w n b by simp,<-ih,hst];show ZaR _ _ (f+1) [e0,e1,Z (.ol (acc.map dI)),Z (.pl (.tuple [doS,dI d,.tuple [.tuple [tupI k,ZM M w [] b]]]))]=_;have ht:tV (op2 gGt (Zaz (Zo 3)) (eC (.int 1))) [e0,e1,Z (.ol (acc.map dI)),Z (.pl (.tuple [doS,dI d,.tuple [.tuple [tupI k,ZM M w [] b]]]))]=Z ZGH:=rfl;have hb:Zee ap [e0,e1,Z (.ol (acc.map dI)),Z (.pl (.tuple [doS,dI d,.tuple [.tuple [tupI k,ZM M w [] b]]]))]=Z (.nx [e0,e1,Z (.ol ((acc++[d]).map dI)),Z (.pl (ZM M w [] b))]):=by
   have hal:(acc.map dI).length<1000000:=by rw[ZBb]; omega
   have hz:eIx (Zo 3) (eC (.int 1)) [e0,e1,Z (.ol (acc.map dI)),Z (.pl (.tuple [doS,dI d,.tuple [.tuple [tupI k,ZM M w [] b]]]))]=Z (dI d):=rfl;unfold Zee;refine ZO (P:=λq=>q=_) (r':=[e0,e1,Z (.ol ((acc++[d]).map dI)),Z (.pl (.tuple [doS,dI d,.tuple [.tuple [tupI k,ZM M w [] b]]]))]) ?_ rfl;generalize eIx (Zo 3) (eC (.int 1))=E at hz ⊢;have hal':acc.length<1000000:=by omega
   simp[hz,hal']
  conv=>lhs; unfold ZaR
  rw[ht];dsimp only;rw[hb]
end
section
variable{w:Wk}(hv:Wk.V w)(h7:w.many<=7)
include hv h7
theorem Zvx{ap:AP}(A:ApP ap):∃L M,(∀c∈L,Cr w.many c/\c≠[])/\ZbO w [] L/\Zeu w [] L M/\w.beg∈L /\
  ((Zj M w.beg=Z_/\Zcz ap [w.d]=Z .none)\/∃n:Nat,n<=128/\Zj M w.beg=Z (n:Int)/\Zcz ap [w.d]=Z (.list ((Za9 M w n w.beg).map dI))):=by
 have hl:Cr w.looks.length []:=⟨.nil,λx hx=>by simp at hx⟩;obtain⟨L,M,hlen,hnd,hcr,hL,F,hbg,hp⟩:=Ztn hv h7 hl A;rw[Zhl hv.b1]at hbg hp;have hbL:=hbg w.beg (ZBk.mpr rfl);refine⟨L,M,hcr,hL,F,hbL,?_⟩;have hp':ZcK ap [w.d,.tuple []]=Z (if Zz M w.beg then ZbW (ZM M w []) (ZB w [] w.beg)else .none):=by
  have:([w.beg].all (Zz M))=Zz M w.beg:=by simp
  rw[this]at hp;exact hp
 obtain⟨k,hs⟩:=Znu (w:=w) hv.b1;rw[hs]at hp';have hh:Zz M w.beg=(Zj M w.beg).isSome:=rfl;have hcall:Zm (ZcK ap) (Za (Zc 0) (Za (Zal Zi) Zi)) [Z (.pl w.d),Z_,Z_,Z_]=ZcK ap [w.d,.tuple []]:=rfl;cases hq:Zj M w.beg with
 | none=>refine .inl ⟨rfl,?_⟩;rw[hh,hq]at hp';show ZG (Zdy ap [Z (.pl w.d),Z_,Z_,Z_])=_;unfold Zdy;refine ZO (P:=λq=>ZG q=_) (r':=[Z (.pl w.d),Z (.pl .none),Z_,Z_]) ?_ rfl;unfold ZT;rw[hcall,hp'];rfl
 | some v =>
  obtain⟨_,n,rfl,_,_⟩:=F.cost hq;have hn:=ZrE hlen hL F hq;refine .inr ⟨n,hn,rfl,?_⟩;rw[hh,hq]at hp';have hp2:ZcK ap [w.d,.tuple []]=Z (.tuple [.tuple [tupI k,ZM M w [] w.beg]]):=hp';have hgo:=Zp3 (ap:=ap) hcr hL F (Z (.pl w.d)) (Z (.pl (.tuple [.tuple [tupI k,ZM M w [] w.beg]]))) n w.beg [] 100000 hq (by omega) (by simp; omega);rw[ZDk,ZDw]at hgo;show ZG (Zdy ap [Z (.pl w.d),Z_,Z_,Z_])=_;unfold Zdy;refine ZO (P:=λq=>ZG q=_) (r':=[Z (.pl w.d),Z (.pl (.tuple [.tuple [tupI k,ZM M w [] w.beg]])),Z_,Z_]) ?_ ?_
  ·unfold ZT
   rw[hcall,hp2];rfl
  refine ZO (P:=λq=>ZG q=_) (r':=[Z (.pl w.d),Z (.pl (.tuple [.tuple [tupI k,ZM M w [] w.beg]])),Z_,Z_]) rfl ?_;refine ZO (P:=λq=>ZG q=_) (r':=[Z (.pl w.d),Z (.pl (.tuple [.tuple [tupI k,ZM M w [] w.beg]])),Z (.ol []),Z_]) rfl ?_;refine ZO (P:=λq=>ZG q=_) (r':=[Z (.pl w.d),Z (.pl (.tuple [.tuple [tupI k,ZM M w [] w.beg]])),Z (.ol []),Z (.pl (ZM M w [] w.beg))]) rfl ?_;refine ZO (P:=λq=>ZG q=_) (r':=[Z (.pl w.d),Z (.pl (.tuple [.tuple [tupI k,ZM M w [] w.beg]])),Z (.ol ((Za9 M w n w.beg).map dI)),Z (.pl Zdl)]) hgo rfl
end
theorem Zu1(hv:Wk.V w)(n:Nat):Zga w [] n↔Win w [] n w.beg=ZGH:=by
 unfold Zga;rw[Zhl hv.b1]
 constructor
 ·intro h; exact h _ (ZBk.mpr rfl)
 ·intro h p hp; rw[ZBk.mp hp]; exact h
end HG21
namespace HG23
open PySem HM
open HG
open HG4
open HG5
variable{cb:Cb}{r:HM.Env}{l s:Int}{L ps:List (List Int)}{c c' la xs:List Int}{ys:List Wy}{m n:Nat}{M R:Tb}{wf:Wf}{w:Wk}{y:Wy}
section
def Zhh:SF :=
 (ZC (ZhQ (Zm Zaw (Za (Zc 0) (Za (Zc 1) (Za (Zc 1) Zi)))) (ZiN (ZP (Zaa (bOf (Zc 0))) ZW (Zm ZaC (Za (Zc 0) (Za (eC (.int 1)) (Za (eC (.int 20)) Zi))))))))
def ZbP:List D->Option D:=fnOf 2 2 Zhh
def ZdZ:SF :=
 (Zs (sIf (Zde (tV (Zm Zaw (Za (Zc 1) (Za (eC (.int 2)) (Za (eC (.int 2)) Zi)))))) Zkb ZaN)
  (Zs (sIf (tOr (Zde (tV (Zm ZbP (Za (eIx (Zo 1) (eC (.int 0))) (Za (Zaz (bOf (Zm Zbc (Za (Zc 0) Zi)))) Zi))))) (Zde (tV (Zm ZbP (Za (eIx (Zo 1) (eC (.int 1))) (Za (Zaz (bOf (Zm Zbd (Za (Zc 0) Zi)))) Zi)))))) Zkb ZaN)
  (ZC (Zc 1))))
def Zcv:List D->Option D:=fnOf 2 2 ZdZ
def ZeR:SF :=
 (ZC (eOf (Zc2 (Zaa (bOf (Zm Zar (Za (Zc 0) (Za (Zal Zi) (Za (Zc 2) Zi)))))) ZW (Zal (Za (Zal (Za (eC (.str (ZBY "do"))) (Za (Zc 0) (Za (eIx (bOf (eIx (Zo 3) (eC (.int 0)))) (Zc 0)) Zi)))) (Za (Zc 1) Zi))))))
def Zdg:List D->Option D:=fnOf 3 3 ZeR
def ZeS:SF :=
 (Zs (Z8 3 (Zc2 (Zol (eIx (Zo 1) (eC (.int 1)))) ZW (Zal (Za (Zal (Za (eC (.str (ZBY "look"))) (Za (Zc 0) (Za (Zc 1) Zi)))) (Za (Zm Zaj (Za (Zc 2) (Za (Zal (Za (Zc 0) Zi)) (Za (Zc 4) Zi)))) Zi)))))
  (Zhd 3 (ZC (eOf (ZP (Zaa (bOf (Zc 3))) (tV (op2 gGt (Zaz (bOf (eIx (Zo 0) (eC (.int 1))))) (eC (.int 1)))) (Zc 0))))))
def Zdh:List D->Option D:=fnOf 3 4 ZeS
def Zh7:SF :=
 (ZC (eOf (ZsK (bOf (Zm Zdg (Za (Zc 0) (Za (Zc 1) (Za (Zc 2) Zi))))) (bOf (Zm Zdh (Za (Zc 0) (Za (Zc 1) (Za (Zc 2) Zi))))))))
def Za4:List D->Option D:=fnOf 3 3 Zh7
def Zhx:SF :=
 (Zs (ZT 2 (Zm ZH (Za (eIx (Zo 0) (eC (.int 1))) (Za (Zc 1) Zi))))
  (ZC (eIf (tV (op2 ZiZ (Zc 2) (eC .none))) (eC .none) (op2 Z9 (Zc 2) (eIx (bOf (eIx (Zo 0) (eC (.int 0)))) (eC (.int 2)))))))
def Zd9:List D->Option D:=fnOf 2 3 Zhx
def Zdz(ap:AP):SF :=
 (ZC (Zfo (Zba ap) 6 [0,1] (eOf (Zf4 (Za (Zm Za1 (Za (Zc 0) Zi)) Zi)))))
def Zbk(ap:AP):List D->Option D:=fnOf 2 2 (Zdz ap)
def Zhy(ap:AP):SF :=
 (Zs (ZiO (Zm Zbr (Za (Zc 0) Zi)))
  (Zs (ZiO (Zm Zcv (Za (Zc 0) (Za (Zc 1) Zi))))
  (Zs (ZT 2 (Zm (ZbH ap) (Za (Zc 0) (Za (Zm (Zbk ap) (Za (Zc 0) (Za (Zc 1) Zi))) (Za (eC (fnD 5 [])) Zi)))))
  (ZC (ZpL (Zo 2) (Zm Za1 (Za (Zc 0) Zi)))))))
def Zcq(ap:AP):List D->Option D:=fnOf 2 3 (Zhy ap)
def ZfW:SF :=
 (Zs (ZT 2 (Z2 (ZP (ZbI (Zaz (bOf (eIx (Zo 0) (eC (.int 1)))))) ZW (op2 Z9 (eC (.int 1)) (Zm ZL (Za (op2 Z9 (Zc 2) (op2 Za0 (eC (.int 37)) (Zc 0))) (Za (eC (.int 9817)) (Za (eC (.int 9)) Zi))))))))
  (Zs (ZT 3 (Z2 (ZP (ZbI (Zaz (bOf (eIx (Zo 0) (eC (.int 2)))))) ZW (op2 Z9 (eC (.int 1)) (Zm ZL (Za (op2 Z9 (op2 Z9 (Zc 2) (op2 Za0 (eC (.int 41)) (Zc 0))) (eC (.int 7))) (Za (eC (.int 9811)) (Za (eC (.int 9)) Zi))))))))
  (ZC (Zal (Za (Zc 2) (Za (Zc 3) Zi))))))
def Zef:List D->Option D:=fnOf 2 4 ZfW
end
section
def prY(y:Wy):Int:=match y.1 with
 | .tuple [_,_,.int k]=>k
 | _=>1
def cbP:Cb:=λy M=>(Zax (wyP y) M).map (·+prY y)
inductive Buy(w:Wk)(wf:Wf):Nat->List Int->Prop where
 | there {n:Nat} {c:List Int} (h:ZR w c=ZGH):Buy w wf n c
 | way {n k:Nat} {c:List Int} {y:Wy} (hy:y∈wf c) (hk:prY y=(k:Int)) (h1:1<=k) (hp:∀p∈wyP y,Buy w wf n p):Buy w wf (n+k) c
theorem Buy.le(h:Buy w wf n c):∀{m:Nat},n<=m->Buy w wf m c:=by
 induction h with
 | there h=>intro m _; exact .there h
 | @way n k c y hy hk h1 _ ih =>
  intro m hm;have:=Buy.way (n:=m-k) hy hk h1 λp hp=>ih p hp (m:=m-k) (by omega)
  rwa [show m-k+k=m by omega]at this
def Zgo(w:Wk)(wf:Wf)(c:List Int)(n:Nat):Prop:=Buy w wf n c/\∀m,m<n->¬Buy w wf m c
theorem Zgo.min(h1:Zgo w wf c n)(h:Buy w wf m c):n<=m:=by apply ZDr;intro q;exact h1.2 m q h
def ZmS(wf:Wf)(L:List (List Int)):Prop:=∀c∈L,∀y∈wf c,∀p∈wyP y,p∈L
structure Gd(wf:Wf)(L:List (List Int)):Prop where
 cl:ZmS wf L
 ne:∀c∈L,∀y∈wf c,wyP y≠[]
 pr:∀c∈L,∀y∈wf c,∃k:Nat,prY y=(k:Int)/\1<=k
structure Zsx(w:Wk)(wf:Wf)(L:List (List Int))(M:Tb):Prop where
 ok:∀c k,Zj M c=Z k->c∈L/\∃n:Nat,k=(n:Int)/\Zgo w wf c n
 th:∀c∈L,ZR w c=ZGH->Zz M c=ZGH
theorem Zv4{n:Int}(h0:ps≠[])(h:∀p∈ps,∃k,Zj M p=Z k/\k<=n):∃k,Zax ps M=Z k/\k<=n:=by
 unfold Zax;have hall:ps.all (Zz M)=ZGH:=ZBj.mpr λp hp=>by obtain⟨k,hk,_⟩:=h p hp;unfold Zz;rw[hk];rfl
 rw[if_pos hall];cases hm:(ps.filterMap λp=>Zj M p).max? with
 | none=>rw[ZEb]at hm;obtain⟨p,hp⟩:=ZCW _ h0;obtain⟨k,hk,_⟩:=h p hp;have:k∈ps.filterMap λp=>Zj M p:=ZBU.mpr ⟨p,hp,hk⟩;rw[hm]at this;simp at this
 | some k=>refine⟨k,rfl,?_⟩;have hk:=List.max?_mem hm;obtain⟨p,hp,e⟩:=ZBU.mp hk;obtain⟨k',hk',hle⟩:=h p hp;rw[e]at hk';cases hk';exact hle
theorem Zvs{k:Int}(h:Zax ps M=Z k):(∃p∈ps,Zj M p=Z k)/\∀p∈ps,∃v,Zj M p=Z v/\v<=k:=by
 unfold Zax at h;split at h
 ·rename_i hall
  have hk:=List.max?_mem h;obtain⟨p,hp,e⟩:=ZBU.mp hk;refine⟨⟨p,hp,e⟩,λq hq=>?_⟩;have:=ZBj.mp hall q hq;unfold Zz at this;obtain⟨v,hv⟩:=ZBM.mp this;refine⟨v,hv,?_⟩;have:=(ZDB.mp h).2;exact this v (ZBU.mpr ⟨q,hq,hv⟩)
 ·cases h
section
variable{w:Wk}{wf:Wf}{L:List (List Int)}(G:Gd wf L){M:Tb}(T:Zsx w wf L M)
include T
theorem Zya{k:Int}(hc:c∈L)(hy:y∈wf c)(G:Gd wf L)(h:cbP y M=Z k):∃n:Nat,k=(n:Int)/\Buy w wf n c:=by unfold cbP at h;obtain⟨v,hv,rfl⟩:=ZBc.mp h;obtain⟨⟨p,hp,ep⟩,hall⟩:=Zvs hv;obtain⟨q,hq,h1⟩:=G.pr c hc y hy;obtain⟨_,n,rfl,_⟩:=T.ok p v ep;refine⟨n+q,by rw[hq]; omega,.way hy hq h1 λp' hp'=>?_⟩;obtain⟨v',hv',hle⟩:=hall p' hp';obtain⟨_,n',rfl,hl⟩:=T.ok p' v' hv';exact hl.1.le (by omega)
include G
theorem ZyF{x:List Int}(h:Buy w wf n x):x∈L->Zz M x=ZGI->∃x'∈L,Zz M x'=ZGI/\∃y∈wf x',∃k,cbP y M=Z k/\k<=(n:Int):=by
 induction h with
 | there h=>intro hx hn; rw[T.th _ hx h]at hn; cases hn
 | @way n k c y hy hk h1 hp ih =>
  intro hx hn
  by_cases hall:∀p∈wyP y,Zz M p=ZGH
  ·refine⟨c,hx,hn,y,hy,?_⟩
   obtain⟨v,hv,hle⟩:=Zv4 (M:=M) (n:=(n:Int)) (G.ne c hx y hy) λp hp'=>by have:=hall p hp';unfold Zz at this;obtain⟨v,hv⟩:=ZBM.mp this;obtain⟨_,m,rfl,hl⟩:=T.ok p v hv;have:=hl.min (hp p hp');exact⟨_,hv,by omega⟩
   refine⟨v+prY y,by unfold cbP; rw[hv]; rfl,by rw[hk]; omega⟩
  ·obtain⟨p,hp',hn'⟩:∃p∈wyP y,Zz M p=ZGI:=by
    apply ZDe;intro z;refine hall λp hp'=>?_;cases q:Zz M p with
    | true=>rfl
    | false=>exact absurd ⟨p,hp',q⟩ z
   obtain⟨x',hx',hn'',y',hy',k',hk',hle⟩:=ih p hp' (G.cl c hx y hy p hp') hn';exact⟨x',hx',hn'',y',hy',k',hk',by omega⟩
theorem ZsD{k:Int}(hc:c∈L)(hn:Zz M c=ZGI)(hy:y∈wf c)(h:cbP y M=Z k)(hmin:∀x∈L,Zz M x=ZGI->∀y∈wf x,∀v,cbP y M=Z v->k<=v):∃n:Nat,k=(n:Int)/\Zgo w wf c n:=by obtain⟨n,rfl,hb⟩:=Zya T hc hy G h;refine⟨n,rfl,hb,λm hm hb'=>?_⟩;obtain⟨x,hx,hn',y',hy',v,hv,hle⟩:=ZyF G T hb' hc hn;have:=hmin x hx hn' y' hy' v hv;omega
theorem Zw3(hno:∀x∈L,Zz M x=ZGI->∀y∈wf x,cbP y M=Z_)(hc:c∈L)(hb:Buy w wf n c):Zz M c=ZGH:=by
 cases hn:Zz M c with
 | true=>rfl
 | false=>obtain⟨x,hx,hn',y,hy,v,hv,_⟩:=ZyF G T hb hc hn;rw[hno x hx hn' y hy]at hv;cases hv
end
structure Zqm(w:Wk)(wf:Wf)(L:List (List Int))(M:Tb):Prop where
 tab:Zsx w wf L M
 all:∀c∈L,∀n,Buy w wf n c->Zz M c=ZGH
theorem Zqm.at_(F:Zqm w wf L M)(hc:c∈L):(∃n:Nat,Zj M c=Z (n:Int)/\Zgo w wf c n)\/(Zj M c=Z_/\∀n,¬Buy w wf n c):=by
 cases hq:Zj M c with
 | some k=>obtain⟨_,n,rfl,h⟩:=F.tab.ok c k hq;exact .inl ⟨n,rfl,h⟩
 | none=>refine .inr ⟨rfl,λn hb=>?_⟩;have:=F.all c hc n hb;unfold Zz at this;rw[hq]at this;cases this
theorem Zmp{k:Int}(h:Za8 cb ys M=Z k):(∃y∈ys,cb y M=Z k)/\∀y∈ys,∀v,cb y M=Z v->k<=v:=by unfold Za8 at h;have h1:=List.min?_mem h;obtain⟨y,hy,e⟩:=ZBU.mp h1;refine⟨⟨y,hy,e⟩,λy' hy' v hv=>?_⟩;exact(ZCt.mp h).2 v (ZBU.mpr ⟨y',hy',hv⟩)
theorem Zl3(h:Za8 cb ys M=Z_):∀y∈ys,cb y M=Z_:=λy hy=>by unfold Za8 at h;rw[ZDC,List.filterMap_eq_nil_iff]at h;exact h y hy
theorem Zxp{k:Int}(h:Zbo (ZaG wf cb L M)=Z k):∀x∈L,Zz M x=ZGI->∀y∈wf x,∀v,cb y M=Z v->k<=v:=λx hx hn y hy v hv=>by
 unfold Zbo at h;have h2:=(ZCt.mp h).2;cases hl:Za8 cb (wf x) M with
 | none=>rw[Zl3 hl y hy]at hv; cases hv
 | some u=>have:=h2 u (ZBh.mpr ⟨(x,u),ZkD.mpr ⟨hx,hn,hl⟩,rfl⟩);have:=(Zmp hl).2 y hy v hv;omega
theorem ZuV(G:Gd wf L){k:Option Int}{found:List (List Int)}(r:Zg0 wf cbP L M k found R) :
  (∀c v,Zj M c=Z v->c∈L/\∃n:Nat,v=(n:Int)/\Zgo w wf c n)->(∀c∈L,ZR w c=ZGH->Zz M c=ZGH\/c∈found)->(∀c∈found,c∈L/\∃n:Nat,k=Z (n:Int)/\Zgo w wf c n)->(found=[]->∀x∈L,Zz M x=ZGI->∀y∈wf x,cbP y M=Z_)->Zqm w wf L R:=by
 induction r with
 | done=>intro h1 h2 _ h4;have T:Zsx w wf L _:=⟨h1,λc hc ht=>(h2 c hc ht).elim id λz=>by simp at z⟩;exact⟨T,λc hc n hb=>Zw3 G T (h4 rfl) hc hb⟩
 | @step M R k found hf _ ih =>
  intro h1 h2 h3 _;have hlk:∀c,Zj (ZaB found k M) c=if c∈found then Z k else Zj M c:=λc=>ZfP k c found M
  have T:Zsx w wf L (ZaB found k M):=by
   refine⟨λc v hv=>?_,λc hc ht=>?_⟩
   ·rw[hlk]at hv
    split at hv
    ·rename_i hm
     obtain⟨hc,n,e,hl⟩:=h3 c hm;cases hv;exact⟨hc,n,ZCa e,hl⟩
    ·exact h1 c v hv
   ·unfold Zz
    rw[hlk];split
    ·rfl
    ·rename_i hm
     exact(h2 c hc ht).elim (λz=>z) λz=>absurd z hm
  refine ih T.ok (λc hc ht=>.inl (T.th c hc ht)) (λc hc=>?_) λhe x hx hn y hy=>?_
  ·obtain⟨⟨c',v⟩,h5,rfl⟩:=ZBh.mp hc
   obtain⟨h6,h7⟩:=ZBF.mp h5;obtain⟨hcL,hn,hl⟩:=ZkD.mp h6;have h7:=beq_iff_eq.mp h7;obtain⟨⟨y,hy,hcb⟩,_⟩:=Zmp hl;obtain⟨n,rfl,hL⟩:=ZsD G T hcL hn hy hcb (Zxp h7.symm);exact⟨hcL,n,h7.symm,hL⟩
  ·cases hl:Za8 cbP (wf x) (ZaB found k M)with
   | none=>exact Zl3 hl y hy
   | some u =>
    have hm:(x,u)∈ZaG wf cbP L (ZaB found k M):=ZkD.mpr ⟨hx,hn,hl⟩;cases ho:Zbo (ZaG wf cbP L (ZaB found k M))with
    | none=>unfold Zbo at ho;rw[ZDC]at ho;rw[ZDS.mp ho]at hm;simp at hm
    | some v=>have hv:=ho;unfold Zbo at ho;obtain⟨q,hq,e⟩:=ZBh.mp (List.min?_mem ho);have:q.1∈Zew (ZaG wf cbP L (ZaB found k M)):=ZBh.mpr ⟨q,ZBF.mpr ⟨hq,by rw[hv,e]; exact beq_self_eq_true _⟩,rfl⟩;rw[he]at this;simp at this
theorem ZtG(G:Gd wf L)(r:Zg0 wf cbP L [] (Z 0) (L.filter λc=>ZR w c) R):Zqm w wf L R:=by
 refine ZuV G r (λc v hv=>by cases hv) (λc hc ht=>.inr (ZBF.mpr ⟨hc,ht⟩)) (λc hc=>?_) λ_ x hx _ y hy=>?_
 ·obtain⟨h1,h2⟩:=ZBF.mp hc
  exact⟨h1,0,rfl,.there h2,λm hm=>by omega⟩
 ·unfold cbP Zax
  rw[if_neg]
  ·rfl
  ·intro h
   obtain⟨p,hp⟩:=ZCW _ (G.ne x hx y hy);have:=ZBj.mp h p hp;cases this
end
section
theorem Zg6{I:IF}{c:TF}{e:EF}{ds ys:List D}(hI:I r=Z ds)(hl:ds.length<1000000)(hg:ZaP c e r ds=Z ys):ZP I c e r=Z (.ol ys):=by unfold ZP;rw[hI];dsimp only;rw[if_pos (show ds.length<big from hl),hg];rfl
structure Pr where
 ds:List Int
 ls:List Int
def Pr.d(p:Pr):D:=.tuple [tupI p.ds,tupI p.ls]
structure Pr.V(p:Pr)(w:Wk):Prop where
 dl:p.ds.length=w.deeds.length
 ll:p.ls.length=w.looks.length
 db:∀x∈p.ds,1<=x/\x<=20
 lb:∀x∈p.ls,1<=x/\x<=20
def dP(p:Pr)(d:Int):Int:=p.ds[d.toNat]?.getD 1
def lP(p:Pr)(l:Int):Int:=p.ls[l.toNat]?.getD 1
theorem ZfS{i:Int}(h0:0<=i)(h1:i<xs.length):atD (xs.map dI) i=Z (.int (xs[i.toNat]?.getD 1))/\(xs[i.toNat]?.getD 1)∈xs:=by
 have e:((i.toNat:Nat):Int)=i:=ZCr h0;have hn:i.toNat<xs.length:=by omega
 have:=ZdQ (ds:=xs.map dI) (j:=i.toNat) (d:=.int xs[i.toNat]) (by simp[hn]);rw[e]at this;rw[this,ZBu hn];exact⟨rfl,ZCY hn⟩
def doY(w:Wk)(p:Pr)(c:List Int)(d:Int):Wy:=(.tuple [.str (ZBY "do"),.int d,.int (dP p d)],ZB w [] (ZD w c d))
def Zbl(w:Wk)(p:Pr)(c:List Int)(l:Int):Wy:=(.tuple [.str (ZBY "look"),.int l,.int (lP p l)],ZB w [l] c)
def wfB(w:Wk)(p:Pr):Wf:=λc=>(doV w c).map (doY w p c)++((alV w).map (Zbl w p c)).filter λy=>decide (1<y.2.length)
theorem ZjZ(w:Wk)(p:Pr)(c:List Int)(d:Int):prY (doY w p c d)=dP p d:=rfl
theorem Zfr(w:Wk)(p:Pr)(c:List Int)(l:Int):prY (Zbl w p c l)=lP p l:=rfl
theorem ZxZ(n:Nat):Cr n []:=⟨.nil,λx hx=>by simp at hx⟩
theorem Zyi(h0:0<=l)(h1:l<n):Cr n [l]:=⟨List.pairwise_singleton ..,λx hx=>by rw[ZBk.mp hx]; exact⟨h0,h1⟩⟩
theorem ZmT(h:l∈alV w):0<=l/\l<(w.looks.length:Int):=(Zj5 w).2 l h
section
variable{w:Wk}(hv:Wk.V w){p:Pr}(hp:p.V w)
include hp
theorem Zfl{d:Int}(h0:0<=d)(h1:d<w.deeds.length):1<=dP p d/\dP p d<=20:=hp.db _ (ZfS h0 (by rw[hp.dl]; exact h1)).2
theorem ZjQ(h0:0<=l)(h1:l<w.looks.length):1<=lP p l/\lP p l<=20:=hp.lb _ (ZfS h0 (by rw[hp.ll]; exact h1)).2
theorem Znp(h:∀x∈xs,1<=x/\x<=20)(hl:xs.length<1000):ZbP [tupI xs,.int xs.length]=Z (.bool ZGH):=by
 have h1:=ZdJ (tupI xs) xs.length xs.length;have hr:Zdd (tupI xs) xs.length xs.length=ZGH:=by show(decide ((xs.length:Int)<=((xs.map dI).length:Int))&&decide (((xs.map dI).length:Int)<=(xs.length:Int)))=ZGH;rw[ZBb];simp
 rw[hr]at h1;have hb:xs.length<1000000:=by omega
 have hc:ZaP ZW (Zm ZaC (Za (Zc 0) (Za (eC (.int 1)) (Za (eC (.int 20)) Zi)))) [Z (.pl (tupI xs)),Z (.pl (.int xs.length))] (xs.map dI)=Z (xs.map λ_=>.bool ZGH):=by rw[ZaY dI (λ_=>.bool ZGH)];intro x hx;have:=Ze5 (.int x) 1 20;have hb:=h x hx;rw[show Zg9 (.int x) 1 20=ZGH by show(decide (1<=x)&&decide (x<=20))=ZGH; rw[decide_eq_true hb.1,decide_eq_true hb.2]; rfl]at this;exact this
 have hbs:Zfb (xs.map λ_=>ZCl ZGH)=Z (xs.map λ_=>ZGH):=by
  have:=Zfa (xs.map λ_=>ZGH)
  rwa [ZBz]at this
 have ha:(xs.map λ_=>ZGH).all id=ZGH:=by simp
 simp[ZbP,Zhh,h1,hb,hc,hbs,ha]
include hv
theorem ZkM:Zcv [w.d,p.d]=Z p.d:=by
 have h1:=ZdJ p.d 2 2;have hr:Zdd p.d 2 2=ZGH:=rfl;rw[hr]at h1;have h2:=Znp hp hp.db (by rw[hp.dl]; have:=hv.d2; omega);have h3:=Znp hp hp.lb (by rw[hp.ll]; have:=hv.l2; omega);rw[hp.dl]at h2;rw[hp.ll]at h3;have e0:∀r:HM.Env,r[1]?=Z (Z (.pl p.d))->eIx (Zo 1) (eC (.int 0)) r=Z (tupI p.ds):=λr h=>by simp[h,Pr.d]
 have e1:∀r:HM.Env,r[1]?=Z (Z (.pl p.d))->eIx (Zo 1) (eC (.int 1)) r=Z (tupI p.ls):=λr h=>by simp[h,Pr.d]
 show ZG (ZdZ [Z (.pl w.d),Z (.pl p.d)])=_;unfold ZdZ;refine ZO (P:=λq=>ZG q=_) (r':=[Z (.pl w.d),Z (.pl p.d)]) (by simp[h1]) ?_;refine ZO (P:=λq=>ZG q=_) (r':=[Z (.pl w.d),Z (.pl p.d)]) ?_ rfl;have a0:=e0 [Z (.pl w.d),Z (.pl p.d)] rfl;have a1:=e1 [Z (.pl w.d),Z (.pl p.d)] rfl;generalize eIx (Zo 1) (eC (.int 0))=E0 at a0 ⊢;generalize eIx (Zo 1) (eC (.int 1))=E1 at a1 ⊢;simp[a0,a1,ZfE,ZfK,h2,h3]
theorem Zl5(hc:Cr w.many c):Zdg [w.d,p.d,tupI c]=Z (.list (((doV w c).map (doY w p c)).map wyD)):=by
 have h1:=ZjV hv (ls:=[]) (ZxZ _) hc;have h1':Zar [w.d,.tuple [],tupI c]=Z (.list ((doV w c).map (Zlj w [] c))):=h1;have hb:(doV w c).length<1000000:=by have:=ZeD w c; have:=hv.d2; omega
 have hg:ZdU ZW (Zal (Za (Zal (Za (eC (.str (ZBY "do"))) (Za (Zc 0) (Za (eIx (bOf (eIx (Zo 3) (eC (.int 0)))) (Zc 0)) Zi)))) (Za (Zc 1) Zi))) [Z (.pl w.d),Z (.pl p.d),Z (.pl (tupI c))] ((doV w c).map (Zlj w [] c))=Z ((doV w c).map λd=>wyD (doY w p c d)):=by
  have:=Zht (c:=ZW) (e:=Zal (Za (Zal (Za (eC (.str (ZBY "do"))) (Za (Zc 0) (Za (eIx (bOf (eIx (Zo 3) (eC (.int 0)))) (Zc 0)) Zi)))) (Za (Zc 1) Zi))) (r:=[Z (.pl w.d),Z (.pl p.d),Z (.pl (tupI c))]) dI (λd=>ZGk ((ZB w [] (ZD w c d)).map Zad)) (λ_=>ZGH) (λd=>wyD (doY w p c d)) (doV w c) (λ_ _=>rfl) λd hd _=>by obtain⟨d0,d1,_⟩:=Zan hd;have ha:=(ZfS (xs:=p.ds) d0 (by rw[hp.dl]; exact d1)).1;have ha':eIx (bOf (eIx (Zo 3) (eC (.int 0)))) (Zc 0) (Z (.pl (dI d))::Z (.pl (ZGk ((ZB w [] (ZD w c d)).map Zad)))::[Z (.pl w.d),Z (.pl p.d),Z (.pl (tupI c))])=Z (.int (dP p d)):=ha;generalize eIx (bOf (eIx (Zo 3) (eC (.int 0)))) (Zc 0)=E at ha' ⊢;simp[ha'];rfl
  rw[ZCG.mpr λ_ _=>rfl]at this;exact this
 show ZG (ZeR [Z (.pl w.d),Z (.pl p.d),Z (.pl (tupI c))])=_;have hi:Zaa (bOf (Zm Zar (Za (Zc 0) (Za (Zal Zi) (Za (Zc 2) Zi))))) [Z (.pl w.d),Z (.pl p.d),Z (.pl (tupI c))]=Z ((doV w c).map (Zlj w [] c)):=by simp[h1']
 unfold ZeR ZC eOf Zc2;rw[hi];dsimp only;rw[if_pos (by rw[ZBb]; exact hb),hg,ZBz];rfl
omit hp hv in
theorem Zp0(f:Nat->Int):∀(n k:Nat) (xs:List Int),xs.length=n->(∀i,i<n->xs[i]?=Z (f (k+i)))->ZiB k (xs.map dI)=(List.range' k n).map λ(j:Nat)=>ZBL [dI (j:Int),dI (f j)]
 | 0,k,xs,h,_=>by rw[ZCD h]; rfl
 | n+1,k,x::xs,h,hx=>by
  have h0:=hx 0 (by omega);have ih:=Zp0 f n (k+1) xs (by simpa using h) λi hi=>by have:=hx (i+1) (by omega);rw[show k+1+i=k+(i+1) by omega,<-this];rfl
  rw[ZBn,List.range'_succ,ZBn,<-ih];have:x=f k:=by simpa using h0
  rw[this];rfl
 | n+1,k,[],h,_=>by simp at h
theorem Zmt(hc:Cr w.many c):Zdh [w.d,p.d,tupI c]=Z (.list ((((alV w).map (Zbl w p c)).filter λy=>decide (1<y.2.length)).map wyD)):=by
 have hl2:=hv.l2;have hen:ZiB 0 (p.ls.map dI)=(alV w).map λl=>ZBL [dI l,dI (lP p l)]:=by
  rw[Zp0 (λj=>lP p (j:Int)) w.looks.length 0 p.ls hp.ll λi hi=>?_]
  ·unfold alV
   rw[ZBz,List.range_eq_range'];rfl
  ·rw[Nat.zero_add]
   unfold lP;rw[ZCd,ZBu (by rw[hp.ll]; exact hi)];rfl
 have hal:(alV w).length<1000000:=by have:=(Zj5 w).len; omega
 have hi:Zol (eIx (Zo 1) (eC (.int 1))) [Z (.pl w.d),Z (.pl p.d),Z (.pl (tupI c)),Z_]=Z ((alV w).map λl=>ZBL [dI l,dI (lP p l)]):=by rw[<-hen];rfl
 have hg:ZdU ZW (Zal (Za (Zal (Za (eC (.str (ZBY "look"))) (Za (Zc 0) (Za (Zc 1) Zi)))) (Za (Zm Zaj (Za (Zc 2) (Za (Zal (Za (Zc 0) Zi)) (Za (Zc 4) Zi)))) Zi))) [Z (.pl w.d),Z (.pl p.d),Z (.pl (tupI c)),Z_] ((alV w).map λl=>ZBL [dI l,dI (lP p l)])=Z (((alV w).map (Zbl w p c)).map wyD):=by
  have:=Zht (c:=ZW) (e:=Zal (Za (Zal (Za (eC (.str (ZBY "look"))) (Za (Zc 0) (Za (Zc 1) Zi)))) (Za (Zm Zaj (Za (Zc 2) (Za (Zal (Za (Zc 0) Zi)) (Za (Zc 4) Zi)))) Zi))) (r:=[Z (.pl w.d),Z (.pl p.d),Z (.pl (tupI c)),Z_]) dI (λl=>dI (lP p l)) (λ_=>ZGH) (λl=>wyD (Zbl w p c l)) (alV w) (λ_ _=>rfl) λl hl _=>by obtain⟨l0,l1⟩:=ZmT hl;have ha:Zaj [w.d,.tuple [dI l],tupI c]=Z (.list ((ZB w [l] c).map Zad)):=ZfM hv (Zyi l0 l1) hc;simp[ha];rfl
  rw[ZCG.mpr λ_ _=>rfl]at this;rw[ZBz];exact this
 have hy:∀y∈(alV w).map (Zbl w p c),y.2.length<1000:=λy hy=>by obtain⟨l,_,rfl⟩:=ZBh.mp hy;have:=split_len (w:=w) (ls:=[l]) (c:=c);have:=hc.len;have:=hv.m2;show(ZB w [l] c).length<1000;omega
 have hf:ZaP (tV (op2 gGt (Zaz (bOf (eIx (Zo 0) (eC (.int 1))))) (eC (.int 1)))) (Zc 0) [Z (.pl w.d),Z (.pl p.d),Z (.pl (tupI c)),Z (.pl (.list (((alV w).map (Zbl w p c)).map wyD)))] (((alV w).map (Zbl w p c)).map wyD)=Z ((((alV w).map (Zbl w p c)).filter λy=>decide (1<y.2.length)).map wyD):=by refine Zct wyD (λy=>decide (1<y.2.length)) wyD _ (λy _=>?_) λy _ _=>rfl;show Z (decide (((1:Int))<(((y.2.map Zad).length:Nat):Int)))=_;rw[ZBb];congr 1;rw[decide_eq_decide];omega
 show ZG (ZeS [Z (.pl w.d),Z (.pl p.d),Z (.pl (tupI c)),Z_])=_;unfold ZeS;refine ZO (P:=λq=>ZG q=_) (r':=[Z (.pl w.d),Z (.pl p.d),Z (.pl (tupI c)),Z (.ol (((alV w).map (Zbl w p c)).map wyD))]) ?_ ?_
 ·unfold Z8 Zc2
  rw[hi];dsimp only;rw[if_pos (by rw[ZBb]; exact hal),hg];rfl
 ·show ZG (ZC (eOf (ZP (Zaa (bOf (Zc 3))) _ (Zc 0))) [Z (.pl w.d),Z (.pl p.d),Z (.pl (tupI c)),Z (.pl (.list (((alV w).map (Zbl w p c)).map wyD)))])=_
  have hq:=Zg6 (I:=Zaa (bOf (Zc 3))) (r:=[Z (.pl w.d),Z (.pl p.d),Z (.pl (tupI c)),Z (.pl (.list (((alV w).map (Zbl w p c)).map wyD)))]) rfl (by rw[ZBb,ZBb]; exact hal) hf;unfold ZC eOf;rw[hq];rfl
theorem Zm5(hc:Cr w.many c):Za4 [w.d,p.d,tupI c]=Z (.list ((wfB w p c).map wyD)):=by
 have h1:=Zl5 hv hp hc;have h2:=Zmt hv hp hc;have hb:(doV w c).length<1000:=by have:=ZeD w c; have:=hv.d2; omega
 have hal:(alV w).length<1000:=by have:=(Zj5 w).len; have:=hv.l2; omega
 have hfl:=ZCu (λy:Wy=>decide (1<y.2.length)) ((alV w).map (Zbl w p c));rw[ZBb]at hfl;unfold wfB;rw[ZBJ];generalize hA:((doV w c).map (doY w p c)).map wyD=A at h1 ⊢;generalize hB:(((alV w).map (Zbl w p c)).filter λy=>decide (1<y.2.length)).map wyD=B at h2 ⊢;have lA:A.length<1000:=by rw[<-hA,ZBb,ZBb]; exact hb
 have lB:B.length<1000:=by rw[<-hB,ZBb]; omega
 have hz:A.length+B.length<1000000:=by omega
 simp[Za4,Zh7,h1,h2,hz]
end
end
section
theorem ZeE{p:Pr}(h:y∈wfB w p c):(∃d∈doV w c,y=doY w p c d)\/∃l∈alV w,y=Zbl w p c l/\1<y.2.length:=by
 rcases ZBI.mp h with h | h
 ·obtain⟨d,hd,rfl⟩:=ZBh.mp h
  exact .inl ⟨d,hd,rfl⟩
 ·obtain⟨h1,h2⟩:=ZBF.mp h
  obtain⟨l,hl,rfl⟩:=ZBh.mp h1;exact .inr ⟨l,hl,rfl,of_decide_eq_true h2⟩
theorem ZtK(w:Wk)(p:Pr)(c:List Int)(d:Int):wyP (doY w p c d)=Zx w [] (ZD w c d):=rfl
structure ApB(ap:AP):Prop where
 d:ApD ap
 p5:∀ds,ap 5 [] ds=Zd9 ds
 l6:∀cs ds,ap 6 cs ds=Zhk 1 2 (Zm Za4 (Za (Zc 1) (Za (Zc 2) (Za (Zc 0) Zi)))) cs ds
def Chp(w:Wk)(p:Pr)(d:D):Prop:=(∃n:Nat,d=.int n/\Zgo w (wfB w p) w.beg n)\/(d=.none/\∀n,¬Buy w (wfB w p) n w.beg)
section
variable{w:Wk}(hv:Wk.V w)(h7:w.many<=7){p:Pr}(hp:p.V w)
include hv h7
omit hv h7 in
theorem ZnE(h:y∈wfB w p c):∃a b k,y.1=.tuple [a,b,.int k]/\noF 17 y.1=ZGH:=by
 rcases ZeE h with⟨d,_,rfl⟩ | ⟨l,_,rfl,_⟩
 ·exact⟨_,_,_,rfl,rfl⟩
 ·exact⟨_,_,_,rfl,rfl⟩
theorem ZtT:Zp9 (wfB w p) (OkC w):=by
 refine⟨λc hc y hy q hq=>?_,λc hc=>?_,λc hc y hy=>?_,λC hn hC=>?_⟩
 ·rcases ZeE hy with⟨d,hd,rfl⟩ | ⟨l,hl,rfl,_⟩
  ·obtain⟨d0,d1,_⟩:=Zan hd
   have:=Zgy (ZcI hv hc.1 d0 d1) (show q∈Zx w [] (ZD w c d) from hq);exact⟨this.1,this.2.1⟩
  ·have:=Zgy hc.1 (show q∈Zx w [l] c from hq)
   exact⟨this.1,this.2.1⟩
 ·unfold wfB
  rw[ZBv,ZBb];have h1:=ZeD w c;have h2:=hv.d2;have h3:=ZCu (λy:Wy=>decide (1<y.2.length)) ((alV w).map (Zbl w p c));rw[ZBb]at h3;have h4:=(Zj5 w).len;have h5:=hv.l2;omega
 ·rcases ZeE hy with⟨d,hd,rfl⟩ | ⟨l,hl,rfl,_⟩
  ·obtain⟨d0,d1,_⟩:=Zan hd
   have:=split_len (w:=w) (ls:=[]) (c:=ZD w c d);have:=(ZcI hv hc.1 d0 d1).len;show(ZB w [] (ZD w c d)).length<=8;omega
  ·have:=split_len (w:=w) (ls:=[l]) (c:=c)
   have:=hc.1.len;show(ZB w [l] c).length<=8;omega
 ·have h1:=Zma hn λc hc=>(hC c hc).1
  have h2:2 ^ w.many<=2 ^ 7:=Nat.pow_le_pow_right (by decide) h7;have h3:2 ^ 7=128:=rfl;omega
omit hv h7 in
theorem Zza(hc:c≠[])(hy:y∈wfB w p c):wyP y≠[]:=by
 rcases ZeE hy with⟨d,hd,rfl⟩ | ⟨l,hl,rfl,h1⟩
 ·exact Zb8 (Zeb hc (Zan hd).2.2)
 ·intro z
  have:(wyP (Zbl w p c l)).length=(Zbl w p c l).2.length:=by unfold wyP; rw[ZBb]
  rw[z]at this;rw[<-this]at h1;cases h1
include hp
omit hv h7 in
theorem ZyT(hy:y∈wfB w p c):∃k:Nat,prY y=(k:Int)/\1<=k:=by
 rcases ZeE hy with⟨d,hd,rfl⟩ | ⟨l,hl,rfl,h1⟩
 ·obtain⟨d0,d1,_⟩:=Zan hd
  have:=Zfl hp d0 d1;exact⟨(dP p d).toNat,by rw[ZjZ]; omega,by omega⟩
 ·obtain⟨l0,l1⟩:=ZmT hl
  have:=ZjQ hp l0 l1;exact⟨(lP p l).toNat,by rw[Zfr]; omega,by omega⟩
omit hv h7 in
theorem gdB(cl:ZmS (wfB w p) L)(ne:∀c∈L,c≠[]):Gd (wfB w p) L:=⟨cl,λc hc y hy=>Zza (ne c hc) hy,λc hc y hy=>ZyT hp hy⟩
omit hp hv h7 in
theorem Zrb(hy:y.2.length<1000)(h0:y.2≠[])(hk:∃a b k,y.1=.tuple [a,b,.int k])(M:Tb):Zd9 [wyD y,.dict (Zg (encM M))]=Z (oI (cbP y M)):=by
 have h:=ZcP hy h0 (M:=M);have h':ZH [.list (y.2.map Zad),.dict (Zg (encM M))]=Z (oI (Zax (wyP y) M)):=h;obtain⟨a,b,k,hk⟩:=hk;have hpr:prY y=k:=by unfold prY; rw[hk]
 show ZG (Zhx [Z (.pl (wyD y)),Z (.pl (.dict (Zg (encM M)))),Z_])=_;unfold Zhx cbP;rw[hpr];refine ZO (P:=λq=>ZG q=_) (r':=[Z (.pl (wyD y)),Z (.pl (.dict (Zg (encM M)))),Z (.pl (oI (Zax (wyP y) M)))]) ?_ ?_
 ·unfold ZT Zm
  show ZCJ _ (ZH [.list (y.2.map Zad),.dict (Zg (encM M))])=_;rw[h'];rfl
 ·unfold wyD
  rw[hk];cases Zax (wyP y) M<;>rfl
theorem Zuu{ap:AP}(A:ApB ap):∃L,Zbk ap [w.d,p.d]=Z (.dict (Zg (Zu (wfB w p) L)))/\Zf9 (wfB w p) (OkC w) [w.beg] L []:=by
 have O:=ZtT hv h7 (p:=p);have ha:∀c,OkC w c->ap 6 [w.d,p.d] [tupI c]=Z (.list ((wfB w p c).map wyD)):=λc hc=>by rw[A.l6];unfold Zhk;rw[if_pos ⟨rfl,rfl,by rw[ZCp,ZcE 19]; rfl⟩];exact Zm5 hv hp hc.1
 obtain⟨L,e,J⟩:=Zml O ha (B:=[w.beg]) (λc h=>by rw[ZBk.mp h]; exact⟨hv.bc,hv.b1⟩) (by simp);refine⟨L,?_,J⟩;have h1:eOf (Zf4 (Za (Zm Za1 (Za (Zc 0) Zi)) Zi)) [Z (.pl w.d),Z (.pl p.d)]=Z (.list ([w.beg].map tupI)):=by have hb:=ZfC w;simp[hb]
 have hpd:noF 20 p.d=ZGH:=ZdI λd hd=>by
  rcases ZBq.mp hd with e | hd
  ·subst e; exact ZcE 18 _
  ·rw[ZBk.mp hd]; exact ZcE 18 _
 have hn1:[w.d,p.d].all (noF 20)=ZGH:=by rw[ZCp,ZCp,Zwl,hpd];rfl
 have hn2:noF 20 (.dict (Zg (Zu (wfB w p) L)))=ZGH:=Zwm (n:=14) λc _ y hy=>(ZnE hy).choose_spec.choose_spec.choose_spec.2;show ZG (Zdz ap [Z (.pl w.d),Z (.pl p.d)])=_;unfold Zdz ZC Zfo;rw[h1];show ZG (ZCJ Out.rt (if[w.d,p.d].all (noF 20)=ZGH then(match Zba ap [.list ([w.beg].map tupI),fnD 6 [w.d,p.d]]with | some d=>if noF 20 d=ZGH then Z d else Z_ | none=>Z_)else Z_))=_;rw[if_pos hn1,e];dsimp only;rw[if_pos hn2];rfl
theorem ZtO{ap:AP}(A:ApB ap):∃L R,Zbk ap [w.d,p.d]=Z (.dict (Zg (Zu (wfB w p) L)))/\ZbH ap [w.d,.dict (Zg (Zu (wfB w p) L)),fnD 5 []]=Z (.dict (Zg (encM R)))/\Zf9 (wfB w p) (OkC w) [w.beg] L []/\Gd (wfB w p) L/\Zqm w (wfB w p) L R/\w.beg∈L:=by
 have O:=ZtT hv h7 (p:=p);obtain⟨L,e1,J⟩:=Zuu hv h7 hp A;have cl:ZmS (wfB w p) L:=λc hc y hy q hq=>(J.cl c hc y hy q hq).elim id λz=>by simp at z
 have G:=gdB hp cl λc hc=>(J.cr c hc).2;have hbl:w.beg∈L:=(J.bg w.beg (ZBk.mpr rfl)).elim id λz=>by simp at z
 obtain⟨R,e,r⟩:=ZhX hv (ap:=ap) (wf:=wfB w p) (t:=5) (cs:=[]) (cb:=cbP) J.nd (O.cs L J.nd J.cr) (λc hc=>(J.cr c hc).1) (λc hc=>by have:=O.ys c (J.cr c hc); omega) λc hc y hy M=>by
  rw[A.p5];refine Zrb (by have:=O.ps c (J.cr c hc) y hy; omega) (λz=>?_) ?_ M
  ·refine G.ne c hc y hy ?_
   unfold wyP;rw[z];rfl
  ·obtain⟨a,b,k,h,_⟩:=ZnE hy
   exact⟨a,b,k,h⟩
 exact⟨L,R,e1,e,J,G,ZtG G r,hbl⟩
theorem ZfG{ap:AP}(A:ApB ap):∃d,Zcq ap [w.d,p.d]=Z d/\Chp w p d:=by
 obtain⟨L,R,e1,e2,J,G,F,hbl⟩:=ZtO hv h7 hp A;have hc1:=Zgn hv;have hc2:=ZkM hv hp;have hb:=ZfC w;refine⟨oI (Zj R w.beg),?_,?_⟩
 ·show ZG (Zhy ap [Z (.pl w.d),Z (.pl p.d),Z_])=_
  unfold Zhy;refine ZO (P:=λq=>ZG q=_) (r':=[Z (.pl w.d),Z (.pl p.d),Z_]) (by simp[hc1]) ?_;refine ZO (P:=λq=>ZG q=_) (r':=[Z (.pl w.d),Z (.pl p.d),Z_]) (by simp[hc2]) ?_;refine ZO (P:=λq=>ZG q=_) (r':=[Z (.pl w.d),Z (.pl p.d),Z (.pl (.dict (Zg (encM R))))]) (by simp[e1,e2]) ?_;have hk:ZbG (tupI w.beg)=Z (Zae w.beg):=ZbF w.beg;have hlk:=ZdF R w.beg;simp[hb,dec_enc,hk,hlk];cases Zj R w.beg<;>rfl
 ·rcases F.at_ hbl with⟨n,h1,h2⟩ | ⟨h1,h2⟩
  ·rw[h1]; exact .inl ⟨n,rfl,h2⟩
  ·rw[h1]; exact .inr ⟨rfl,h2⟩
end
end
section
def prV(w:Wk)(c:Int):Pr:=⟨(ZBm w.deeds.length).map λ(k:Nat)=>1+ZV (c+37*(k:Int)) 9817 9,(ZBm w.looks.length).map λ(k:Nat)=>1+ZV (c+41*(k:Int)+7) 9811 9⟩
theorem Zs2(w:Wk)(c:Int):(∀x∈(prV w c).ds,1<=x/\x<=9)/\∀x∈(prV w c).ls,1<=x/\x<=9:=by
 refine⟨λx hx=>?_,λx hx=>?_⟩
 ·obtain⟨k,_,rfl⟩:=ZBh.mp hx
  have:=Zau (c+37*(k:Int)) 9817 9 (by decide);omega
 ·obtain⟨k,_,rfl⟩:=ZBh.mp hx
  have:=Zau (c+41*(k:Int)+7) 9811 9 (by decide);omega
theorem ZzG(w:Wk)(c:Int):(prV w c).V w :=
 ⟨by unfold prV; rw[ZBb,ZCv],by unfold prV; rw[ZBb,ZCv],λx hx=>by have:=(Zs2 w c).1 x hx; omega,λx hx=>by have:=(Zs2 w c).2 x hx; omega⟩
theorem Zn8(hv:Wk.V w)(c:Int):Zef [w.d,.int c]=Z (prV w c).d:=by
 have hd:=hv.d2;have hl:=hv.l2;have hok1:okR (w.deeds.length:Int)=ZGH:=ZdX (by omega);have hok2:okR (w.looks.length:Int)=ZGH:=ZdX (by omega);have hb1:w.deeds.length<1000000:=by omega
 have hb2:w.looks.length<1000000:=by omega
 show ZG (ZfW [Z (.pl w.d),Z (.pl (.int c)),Z_,Z_])=_;unfold ZfW;refine ZO (P:=λq=>ZG q=_) (r':=[Z (.pl w.d),Z (.pl (.int c)),Z (.pl (tupI (prV w c).ds)),Z_]) ?_ ?_
 ·have h1:ZbI (Zaz (bOf (eIx (Zo 0) (eC (.int 1))))) [Z (.pl w.d),Z (.pl (.int c)),Z_,Z_]=Z ((ZBm w.deeds.length).map dN):=by
   have h0:Zaz (bOf (eIx (Zo 0) (eC (.int 1)))) [Z (.pl w.d),Z (.pl (.int c)),Z_,Z_]=Z (.int w.deeds.length):=by show Z (ZBO (((w.deeds.map Z0).length:Nat):Int))=_;rw[ZBb]
   unfold ZbI;rw[h0];dsimp only;rw[hok1,if_pos rfl,ZCd,Zat]
  have h2:=Zg6 (c:=ZW) (e:=op2 Z9 (eC (.int 1)) (Zm ZL (Za (op2 Z9 (Zc 2) (op2 Za0 (eC (.int 37)) (Zc 0))) (Za (eC (.int 9817)) (Za (eC (.int 9)) Zi))))) h1 (by rw[ZBb,ZCv]; exact hb1) (ZaY dN (λk=>dI (1+ZV (c+37*(k:Int)) 9817 9)) _ λk _=>by have m:=Zcb (c+37*(k:Int)) 9817 9 (by decide) (by decide);simp[m]);unfold ZT Z2;rw[h2,show tupI (prV w c).ds=.tuple ((ZBm w.deeds.length).map λ(k:Nat)=>dI (1+ZV (c+37*(k:Int)) 9817 9)) by unfold prV tupI; rw[ZBz]; rfl];rfl
 refine ZO (P:=λq=>ZG q=_) (r':=[Z (.pl w.d),Z (.pl (.int c)),Z (.pl (tupI (prV w c).ds)),Z (.pl (tupI (prV w c).ls))]) ?_ rfl;have h1:ZbI (Zaz (bOf (eIx (Zo 0) (eC (.int 2))))) [Z (.pl w.d),Z (.pl (.int c)),Z (.pl (tupI (prV w c).ds)),Z_]=Z ((ZBm w.looks.length).map dN):=by
  have h0:Zaz (bOf (eIx (Zo 0) (eC (.int 2)))) [Z (.pl w.d),Z (.pl (.int c)),Z (.pl (tupI (prV w c).ds)),Z_]=Z (.int w.looks.length):=by show Z (ZBO (((w.looks.map tupI).length:Nat):Int))=_;rw[ZBb]
  unfold ZbI;rw[h0];dsimp only;rw[hok2,if_pos rfl,ZCd,Zat]
 have h2:=Zg6 (c:=ZW) (e:=op2 Z9 (eC (.int 1)) (Zm ZL (Za (op2 Z9 (op2 Z9 (Zc 2) (op2 Za0 (eC (.int 41)) (Zc 0))) (eC (.int 7))) (Za (eC (.int 9811)) (Za (eC (.int 9)) Zi))))) h1 (by rw[ZBb,ZCv]; exact hb2) (ZaY dN (λk=>dI (1+ZV (c+41*(k:Int)+7) 9811 9)) _ λk _=>by have m:=Zcb (c+41*(k:Int)+7) 9811 9 (by decide) (by decide);simp[m]);unfold ZT Z2;rw[h2,show tupI (prV w c).ls=.tuple ((ZBm w.looks.length).map λ(k:Nat)=>dI (1+ZV (c+41*(k:Int)+7) 9811 9)) by unfold prV tupI; rw[ZBz]; rfl];rfl
theorem Zvi{α:Type}{a:α}:∀{l:List α},l.Nodup->l≠[]->(∀x∈l,x=a)->l=[a]
 | [],_,h,_=>absurd rfl h
 | [x],_,_,h=>by rw[h x (ZBk.mpr rfl)]
 | x::y::l,hn,_,h=>by have h1:=h x (ZBf ..);have h2:=h y (ZBi _ (ZBf ..));rw[h1,h2]at hn;simp at hn
theorem parts_nil(w:Wk)(hc:c≠[]):Zx w [] c=[c]:=by refine Zvi (Zk0 w [] c) (Zb8 hc) λx hx=>?_;obtain⟨s,_,rfl⟩:=ZaM.mp hx;exact ZCG.mpr λ_ _=>beq_self_eq_true _
end
section
end
section
theorem Zmh{g:D->D->Option D}{e f:EF}{x y:D}{b:Bool}(h1:e r=Z x)(h2:f r=Z y)(h:g x y=Z (.bool b)):tV (op2 g e f) r=Z b:=by unfold tV op2;rw[h1,h2];show(match g x y with | some (.bool b)=>Z b | _=>Z_)=_;rw[h]
end
section
end
section
theorem Zrr{d:Int}(h:∀x∈c',x∈c)(q:Zbz w c d=ZGH):Zbz w c' d=ZGH :=
 ZBj.mpr λs hs=>ZBj.mp q s (h s hs)
theorem ZjL(h:∀x∈c',x∈c)(q:ZR w c=ZGH):ZR w c'=ZGH :=
 ZBj.mpr λs hs=>ZBj.mp q s (h s hs)
theorem Zku(h:∀x∈c',x∈c)(d:Int):∀x∈ZD w c' d,x∈ZD w c d:=λx hx=>by obtain⟨s,hs,hr⟩:=Znb.mp hx;exact Znb.mpr ⟨s,h s hs,hr⟩
theorem ZpC(h:∀x∈c',x∈c)(s:Int):∀x∈Zcd w la c' s,x∈Zcd w la c s:=λx hx=>by obtain⟨h1,h2⟩:=ZBF.mp hx;exact ZBF.mpr ⟨h x h1,h2⟩
theorem ZrQ{w:Wk}{la:List Int}:∀(n:Nat) (c c':List Int),(∀x∈c',x∈c)->Win w la n c=ZGH->Win w la n c'=ZGH
 | 0,c,c',h,q=>ZjL h q
 | n+1,c,c',h,q=>by
  have q:(ZR w c||(ZBm w.deeds.length).any λd=>Zbz w c d&&(Zx w la (ZD w c d)).all λp=>Win w la n p)=ZGH:=q;show(ZR w c'||(ZBm w.deeds.length).any λd=>Zbz w c' d&&(Zx w la (ZD w c' d)).all λp=>Win w la n p)=ZGH;rw[ZCq]at q ⊢;rcases q with q | q
  ·exact .inl (ZjL h q)
  ·right
   obtain⟨d,hd,q⟩:=ZBS.mp q;rw[ZBx]at q;refine ZBS.mpr ⟨d,hd,?_⟩;rw[ZBx];refine⟨Zrr h q.1,ZBj.mpr λp' hp'=>?_⟩;obtain⟨s,hs,rfl⟩:=ZaM.mp hp';have hs':=Zku h d s hs;exact ZrQ n (Zcd w la (ZD w c d) s) _ (ZpC (Zku h d) s) (ZBj.mp q.2 _ (ZaM.mpr ⟨s,hs',rfl⟩))
def Uni(w:Wk)(c:List Int)(l:Int):Prop:=∀x∈c,∀y∈c,ZdV w l x=ZdV w l y
theorem Uni.sub(u:Uni w c l)(h:∀x∈c',x∈c):Uni w c' l:=λx hx y hy=>u x (h x hx) y (h y hy)
theorem Zlx{x:Int}:x∈Zcd w [l] c s↔x∈c/\ZdV w l x=ZdV w l s:=by rw[Zg7];unfold ZN;simp
theorem ZiJ(hl:l∈la):Uni w (Zcd w la c s) l:=λx hx y hy=>by have h1:=(Zg7.mp hx).2;have h2:=(Zg7.mp hy).2;unfold ZN at h1 h2;have:=List.map_inj_left.mp (h1.trans h2.symm) l hl;exact this
theorem ZpY(u:∀l∈la,Uni w c l)(hs:s∈c):Zcd w la c s=c:=ZCG.mpr λx hx=>beq_iff_eq.mpr (ZCF λl hl=>u l hl x hx s hs)
section
variable{w:Wk}(hv:Wk.V w){p:Pr}(hp:p.V w)
include hv hp
theorem Zt6(hc:c≠[]){d:Int}(hd:d∈doV w c)(h:Buy w (wfB w p) m (ZD w c d)):Buy w (wfB w p) (m+(dP p d).toNat) c:=by obtain⟨d0,d1,d2⟩:=Zan hd;have hb:=Zfl hp d0 d1;have hy:doY w p c d∈wfB w p c:=ZB6 _ (ZBh.mpr ⟨d,hd,rfl⟩);refine .way hy (by rw[ZjZ]; omega) (by omega) λq hq=>?_;rw[ZtK,parts_nil w (Zeb hc d2)]at hq;rw[ZBk.mp hq];exact h
end
theorem if_false{c:TF}{a:SF}(h:c r=Z ZGI):sIf c a ZaN r=Z (.nx r):=by unfold sIf;rw[h];rfl
end
end HG23
namespace HG26
open PySem HM
open HG
open HG4
open HG5
open HG6
open HG21
open HG23
def Zov(ap:AP):SF :=
 (Zs (ZT 1 (Zm Zbs (Za (Zc 0) (Za (eC (.int 2)) Zi))))
  (Zs (ZT 2 (Zm Zef (Za (Zc 1) (Za (Zm Z3 (Za (Zc 0) (Za (eC (.int 0)) Zi))) Zi))))
  (Zs (ZT 3 (Zm (Zcq ap) (Za (Zc 1) (Za (Zc 2) Zi))))
  (Zs (ZT 4 (Zm (Zhf ap) (Za (Zc 1) (Za (Zm Zdu (Za (Zc 1) Zi)) Zi))))
  (Zs (sIf (tV (op2 ZiZ (Zc 3) (eC .none))) (ZC (op2 ZiZ (Zc 4) (eC .none))) ZaN)
  (Zs (sIf (tOr (tV (op2 gLt (Zc 3) (op2 Za0 (Zc 4) (Zmo (eIx (Zo 2) (eC (.int 0))))))) (tV (op2 gGt (Zc 3) (op2 Z9 (op2 Za0 (Zc 4) (Zms (eIx (Zo 2) (eC (.int 0))))) (op2 Za0 (op2 Z9 (Zc 4) (eC (.int 1))) (Zmk (eIx (Zo 2) (eC (.int 1))))))))) (ZC (eC (.bool ZGI))) ZaN)
  (Zs (ZT 5 (op2 Zm4 (Zm Z3 (Za (Zc 0) (Za (eC (.int 1)) Zi))) (Zaz (bOf (eIx (Zo 1) (eC (.int 1)))))))
  (Zs (ZT 6 (Zal (Za (ZdE (ZdE (ZbV (eIx (Zo 2) (eC (.int 0))) Z_ (Z (Zc 5))) (Zal (Za (op2 Z9 (eIx (bOf (eIx (Zo 2) (eC (.int 0)))) (Zc 5)) (eC (.int 1))) Zi))) (ZbV (eIx (Zo 2) (eC (.int 0))) (Z (op2 Z9 (Zc 5) (eC (.int 1)))) Z_)) (Za (eIx (Zo 2) (eC (.int 1))) Zi))))
  (Zs (sIf (Zde (tV (Zec gLe gLe (Zc 3) (Zm (Zcq ap) (Za (Zc 1) (Za (Zc 6) Zi))) (op2 Za0 (Zc 3) (eC (.int 2)))))) (ZC (eC (.bool ZGI))) ZaN)
  (Zs (ZT 7 (Zal (Za (Z2 (ZP (Zaa (bOf (eIx (Zo 2) (eC (.int 0))))) ZW (op2 Za0 (eC (.int 2)) (Zc 0)))) (Za (Z2 (ZP (Zaa (bOf (eIx (Zo 2) (eC (.int 1))))) ZW (op2 Za0 (eC (.int 2)) (Zc 0)))) Zi))))
  (Zs (sIf (tV (op2 gNe (Zm (Zcq ap) (Za (Zc 1) (Za (Zc 7) Zi))) (op2 Za0 (eC (.int 2)) (Zc 3)))) (ZC (eC (.bool ZGI))) ZaN)
  (Zs (ZT 8 (Zm (Zcz ap) (Za (Zc 1) Zi)))
  (Zs (sIf (ZlF (tV (op2 Zgp (Zc 8) (eC .none))) (tV (op2 gGt (Zc 3) (Zoe (ZP (Zaa (bOf (Zc 8))) ZW (eIx (bOf (eIx (Zo 3) (eC (.int 0)))) (Zc 0))))))) (ZC (eC (.bool ZGI))) ZaN)
  (Zs (sIf (tV (op2 gEq (eIx (Zo 1) (eC (.int 2))) (Zal Zi))) (ZC (op2 Zgp (Zc 8) (eC .none))) ZaN)
  (Zs (ZT 9 (op2 Zm4 (Zm Z3 (Za (Zc 0) (Za (eC (.int 1)) Zi))) (Zaz (bOf (eIx (Zo 1) (eC (.int 2)))))))
  (Zs (ZT 10 (ZdE (ZdE (ZbV (Zc 1) Z_ (Z (eC (.int 2)))) (Zal (Za (ZdE (ZbV (eIx (Zo 1) (eC (.int 2))) Z_ (Z (Zc 9))) (ZbV (eIx (Zo 1) (eC (.int 2))) (Z (op2 Z9 (Zc 9) (eC (.int 1)))) Z_)) Zi))) (ZbV (Zc 1) (Z (eC (.int 3))) Z_)))
  (Zs (ZT 11 (Zm (Zcq ap) (Za (Zc 10) (Za (Zal (Za (eIx (Zo 2) (eC (.int 0))) (Za (ZdE (ZbV (eIx (Zo 2) (eC (.int 1))) Z_ (Z (Zc 9))) (ZbV (eIx (Zo 2) (eC (.int 1))) (Z (op2 Z9 (Zc 9) (eC (.int 1)))) Z_)) Zi))) Zi))))
  (ZC (eOr (op2 ZiZ (Zc 11) (eC .none)) (op2 gGe (Zc 11) (Zc 3)))))))))))))))))))))
def ZgF(ap:AP):List D->Option D:=fnOf 1 12 (Zov ap)
def ap:AP:=λt cs ds=>match t with
 | 0=>if cs.isEmpty then Zd8 ds else Z_
 | 1=>Zhk 1 2 (Zm Zar (Za (Zc 1) (Za (Zc 2) (Za (Zc 0) Zi)))) cs ds
 | 2=>if cs.isEmpty then ZeQ ds else Z_
 | 5=>if cs.isEmpty then Zd9 ds else Z_
 | 6=>Zhk 1 2 (Zm Za4 (Za (Zc 1) (Za (Zc 2) (Za (Zc 0) Zi)))) cs ds
 | _=>Z_
end HG26
namespace HG26
open PySem HM
open HG
open HG4
open HG5
open HG6
open HG23
variable{x y z:D}{g:D->D->Option D}{a b:EF}{r:HM.Env}{xs:List D}{c:List Int}{i l m mn n:Nat}{p:Pr}{w:Wk}
section
theorem Zrp{w':Wk}{wf wf':Wf}(f:Nat->Nat)(hth:∀c,ZR w c=ZGH->ZR w' c=ZGH)
  (hway:∀c,∀y∈wf c,∀k:Nat,prY y=(k:Int)->∃y'∈wf' c,∃k':Nat,wyP y'=wyP y/\prY y'=(k':Int)/\1<=k'/\∀n,f n+k'<=f (n+k)) {n:Nat} {c:List Int} (h:Buy w wf n c):Buy w' wf' (f n) c:=by
 induction h with
 | there h=>exact .there (hth _ h)
 | @way n k c y hy hk h1 _ ih=>obtain⟨y',hy',k',e,hk',h1',hf⟩:=hway c y hy k hk;exact(Buy.way hy' hk' h1' λp hp=>ih p (by rw[<-e]; exact hp)).le (hf n)
section
variable{w:Wk}(hv:Wk.V w){p p':Pr}(hp:p.V w)(hp':p'.V w)
include hp hp'
theorem Zmw(f:Nat->Nat)(hd:∀d,0<=d->d<(w.deeds.length:Int)->∀n,f n+(dP p' d).toNat<=f (n+(dP p d).toNat))(hl:∀l,0<=l->l<(w.looks.length:Int)->∀n,f n+(lP p' l).toNat<=f (n+(lP p l).toNat))(h:Buy w (wfB w p) n c):Buy w (wfB w p') (f n) c:=by
 refine Zrp f (λ_ h=>h) (λc y hy k hk=>?_) h;rcases ZeE hy with⟨d,hdo,rfl⟩ | ⟨l,hlo,rfl,h1⟩
 ·obtain⟨d0,d1,_⟩:=Zan hdo
  have hb:=Zfl hp' d0 d1;rw[ZjZ]at hk;refine⟨doY w p' c d,ZB6 _ (ZBh.mpr ⟨d,hdo,rfl⟩),(dP p' d).toNat,rfl,by rw[ZjZ]; omega,by omega,λn=>?_⟩;have:=hd d d0 d1 n
  rwa [show(dP p d).toNat=k by omega]at this
 ·obtain⟨l0,l1⟩:=ZmT hlo
  have hb:=ZjQ hp' l0 l1;rw[Zfr]at hk;refine⟨Zbl w p' c l,ZBE _ (ZBF.mpr ⟨ZBh.mpr ⟨l,hlo,rfl⟩,decide_eq_true h1⟩),(lP p' l).toNat,rfl,by rw[Zfr]; omega,by omega,λn=>?_⟩;have:=hl l l0 l1 n
  rwa [show(lP p l).toNat=k by omega]at this
end
section
variable{w:Wk}{p:Pr}(hp:p.V w)
theorem ZpM(h0:1<=mn)(hmn:∀d,0<=d->d<(w.deeds.length:Int)->(mn:Int)<=dP p d)(h:Buy w (wfB w p) m c):∀c',(∀x∈c',x∈c)->(∀l∈alV w,Uni w c' l)->Win w (alV w) (m / mn) c'=ZGH:=by
 induction h with
 | there h=>intro c' hs _; exact Zc3 (ZCC _) (n:=0) (ZjL hs h)
 | @way n k c y hy hk h1 _ ih =>
  intro c' hs hu
  by_cases hc0:c'=[]
  ·subst hc0; exact Zc3 (ZCC _) (n:=0) rfl
  rcases ZeE hy with⟨d,hd,rfl⟩ | ⟨l,hl,rfl,_⟩
  ·obtain⟨d0,d1,d2⟩:=Zan hd
   have e:((d.toNat:Nat):Int)=d:=ZCr d0;have hkm:mn<=k:=by have:=hmn d d0 d1; rw[ZjZ]at hk; omega
   have hle:n / mn+1<=(n+k) / mn:=by rw[<-Nat.add_div_right n (by omega:0<mn)];exact Nat.div_le_div_right (by omega)
   refine Zc3 hle ?_;show(ZR w c'||(ZBm w.deeds.length).any λd=>Zbz w c' d&&(Zx w (alV w) (ZD w c' d)).all λp=>Win w (alV w) (n / mn) p)=ZGH;rw[ZCq];refine .inr (ZBS.mpr ⟨d.toNat,ZBD.mpr (by omega),?_⟩);rw[e,ZBx];refine⟨Zrr hs d2,ZBj.mpr λq hq=>?_⟩;obtain⟨s,hs',rfl⟩:=ZaM.mp hq;have hne:ZD w c d≠[]:=ZEt (Zku hs d s hs');refine ih (ZD w c d) ?_ _ (λz hz=>Zku hs d z (ZBF.mp hz).1) λl hl=>ZiJ hl;rw[ZtK,parts_nil w hne];exact ZBk.mpr rfl
  ·obtain⟨s,hs'⟩:=ZCW _ hc0
   refine Zc3 (Nat.div_le_div_right (Nat.le_add_right n k)) ?_;exact ih (Zcd w [l] c s) (ZaM.mpr ⟨s,hs s hs',rfl⟩) c' (λx hx=>Zlx.mpr ⟨hs x hx,hu l hl x hx s hs'⟩) hu
include hp
def Zf2(p:Pr)(ks:List Int):Nat:=(ks.map λl=>(lP p l).toNat).sum
theorem ZuE{l:Int}(hl:l∈alV w)(h1:1<(Zx w [l] c).length)(h:∀q∈Zx w [l] c,Buy w (wfB w p) m q):Buy w (wfB w p) (m+(lP p l).toNat) c:=by
 obtain⟨l0,l1⟩:=ZmT hl;have hb:=ZjQ hp l0 l1;have hlen:(Zbl w p c l).2.length=(Zx w [l] c).length:=by unfold Zx; rw[ZBb]; rfl
 have hy:Zbl w p c l∈wfB w p c:=ZBE _ (ZBF.mpr ⟨ZBh.mpr ⟨l,hl,rfl⟩,decide_eq_true (by rw[hlen]; exact h1)⟩);exact .way hy (by rw[Zfr]; omega) (by omega) h
theorem Zi0(hv:Wk.V w){mx:Nat}(hmx:∀d,0<=d->d<(w.deeds.length:Int)->dP p d<=(mx:Int)):∀(n:Nat) (ks:List Int),(∀l∈ks,l∈alV w)->∀c,OkC w c->(∀l∈alV w,l ∉ ks->Uni w c l)->(∀s∈c,Win w (alV w) n (Zcd w (alV w) c s)=ZGH)->Buy w (wfB w p) (n*mx+n*Zf2 p (alV w)+Zf2 p ks) c
 | n,l::ks,hks,c,hc,hu,hw=>by
  have ih:=Zi0 hv hmx n ks λl hl=>hks l (ZBi _ hl);have hsum:Zf2 p (l::ks)=(lP p l).toNat+Zf2 p ks:=rfl
  by_cases h1:1<(Zx w [l] c).length
  ·have:=ZuE hp (hks l (ZBf ..)) h1 λq hq=>by
    have hqc:=Zgy hc.1 hq;obtain⟨s,hs,rfl⟩:=ZaM.mp hq;refine ih _ ⟨hqc.1,hqc.2.1⟩ (λl' hl' hn=>?_) λs' hs'=>?_
    ·by_cases e:l'=l
     ·rw[e]; exact ZiJ (ZBk.mpr rfl)
     ·exact(hu l' hl' λz=>by rcases ZBq.mp z with z | z; exact e z; exact hn z).sub hqc.2.2
    ·exact ZrQ n _ _ (ZpC hqc.2.2 s') (hw s' (hqc.2.2 s' hs'))
   exact this.le (by rw[hsum]; omega)
  ·refine(ih c hc (λl' hl' hn=>?_) hw).le (by rw[hsum]; omega)
   by_cases e:l'=l
   ·rw[e]
    intro x hx y hy;have hxp:Zcd w [l] c x∈Zx w [l] c:=ZaM.mpr ⟨x,hx,rfl⟩;have hyp:Zcd w [l] c y∈Zx w [l] c:=ZaM.mpr ⟨y,hy,rfl⟩;have exy:Zcd w [l] c x=Zcd w [l] c y:=by
     match hq:Zx w [l] c,h1,hxp,hyp with
     | [],_,hxp,_=>simp at hxp
     | [q],_,hxp,hyp=>rw[ZBk.mp hxp,ZBk.mp hyp]
     | _::_::_,h1,_,_=>simp at h1
    have:x∈Zcd w [l] c y:=by rw[<-exy]; exact Zlx.mpr ⟨hx,rfl⟩
    exact(Zlx.mp this).2
   ·exact hu l' hl' λz=>by rcases ZBq.mp z with z | z; exact e z; exact hn z
 | 0,[],_,c,hc,hu,hw=>by obtain⟨s,hs⟩:=ZCW _ hc.2;have:=hw s hs;rw[ZpY (λl hl=>hu l hl (by simp)) hs]at this;exact .there this
 | n+1,[],_,c,hc,hu,hw=>by
  obtain⟨s,hs⟩:=ZCW _ hc.2;have q:=hw s hs;rw[ZpY (λl hl=>hu l hl (by simp)) hs]at q;have q:(ZR w c||(ZBm w.deeds.length).any λd=>Zbz w c d&&(Zx w (alV w) (ZD w c d)).all λp=>Win w (alV w) n p)=ZGH:=q;rw[ZCq]at q;rcases q with q | q
  ·exact .there q
  ·obtain⟨d,hd,q⟩:=ZBS.mp q
   rw[ZBx]at q;have hd':=ZBD.mp hd;have hlc:=ZcI hv hc.1 (show(0:Int)<=(d:Int) by omega) (by omega);have hm:=Zi0 hv hmx n (alV w) (λ_ h=>h) (ZD w c d) ⟨hlc,Zeb hc.2 q.1⟩ (λl hl hn=>absurd hl hn) λs' hs'=>ZBj.mp q.2 _ (ZaM.mpr ⟨s',hs',rfl⟩);have hle:=hmx (d:Int) (by omega) (by omega);have hb:=Zfl hp (show(0:Int)<=(d:Int) by omega) (by omega);refine(Zt6 hv hp hc.2 (ZkB hd' q.1) hm).le ?_;have h0:Zf2 p []=0:=rfl;rw[h0,Nat.add_mul,Nat.add_mul];omega
termination_by n ks=>(n,ks.length)
end
theorem ZrG{w:Wk}(hv:Wk.V w){p:Pr}(hp:p.V w){L:List (List Int)}{M:Tb}(hcr:∀c∈L,Cr w.many c/\c≠[])(hL:ZbO w [] L)(F:Zeu w [] L M):∀(n:Nat) (c:List Int),Zj M c=Z (n:Int)->Buy w (wfB w p) ((HG21.Za9 M w n c).map λd=>(dP p d).toNat).sum c/\∀d∈HG21.Za9 M w n c,0<=d/\d<(w.deeds.length:Int)
 | 0,c,h=>by
  obtain⟨hc,n,e,hw,_⟩:=F.cost h;obtain rfl:n=0:=by omega
  exact⟨.there hw,λd hd=>by simp[HG21.Za9]at hd⟩
 | n+1,c,h=>by
  obtain⟨h1,h2,h3⟩:=HG21.Zro hcr hL F h;obtain⟨hc,_⟩:=F.cost h;obtain⟨d0,d1,_⟩:=Zan h1;obtain⟨ih1,ih2⟩:=ZrG hv hp hcr hL F n _ h3;refine⟨(Zt6 hv hp (hcr c hc).2 h1 ih1).le ?_,λd hd=>?_⟩
  ·show _<=(dP p _).toNat+_
   rw[Nat.add_comm];exact ZBl _
  ·rcases ZBq.mp hd with e | hd
   ·rw[e]; exact⟨d0,d1⟩
   ·exact ih2 d hd
def ZdL{α:Type}(xs:List α)(l:Nat):List α:=xs.take l++xs.drop (l+1)
theorem Ztm{α:Type}(xs:List α)(hl:l<xs.length)(i:Nat):(ZdL xs l)[i]?=xs[if i<l then i else i+1]?:=by
 unfold ZdL;have ht:(xs.take l).length=l:=by rw[ZB1]; omega
 by_cases h:i<l
 ·rw[if_pos h,ZBX (by omega),List.getElem?_take,if_pos h]
 ·rw[if_neg h,ZBQ (by omega),ht,ZFm]
  congr 1;omega
theorem Zm9{α:Type}{xs:List α}{x:α}(h:x∈ZdL xs l):x∈xs:=(ZBI.mp h).elim ZE8 List.mem_of_mem_drop
theorem Zkw{α:Type}{xs:List α}(h:l<xs.length):(ZdL xs l).length=xs.length-1:=by unfold ZdL;rw[ZBv,ZB1,ZCB];omega
def lsV(w:Wk)(l:Nat):Wk:={ w with looks:=ZdL w.looks l }
def lsP(p:Pr)(l:Nat):Pr:=⟨p.ds,ZdL p.ls l⟩
section
variable{w:Wk}(hv:Wk.V w){p:Pr}(hp:p.V w){l:Nat}(hl:l<w.looks.length)
include hl
theorem ZAG(hv:Wk.V w):Wk.V (lsV w l):=⟨hv.m1,hv.m2,hv.d1,hv.d2,hv.dl,hv.dc,by show(ZdL w.looks l).length<=4; rw[Zkw hl]; have:=hv.l2; omega,λx hx=>hv.ll x (Zm9 hx),λx hx=>hv.lc x (Zm9 hx),hv.b1,hv.bc,hv.gc⟩
theorem ZzE(hp:p.V w):(lsP p l).V (lsV w l):=⟨hp.dl,by show(ZdL p.ls l).length=(ZdL w.looks l).length; rw[Zkw hl,Zkw (by rw[hp.ll]; exact hl),hp.ll],hp.db,λx hx=>hp.lb x (Zm9 hx)⟩
def upL(l:Nat)(i:Int):Int:=((if i.toNat<l then i.toNat else i.toNat+1:Nat):Int)
theorem Zw2(i s:Int):ZdV (lsV w l) i s=ZdV w (upL l i) s:=by unfold ZdV upL lsV;show((ZdL w.looks l)[i.toNat]?.getD [])[s.toNat]?.getD 0=_;rw[Ztm w.looks hl,ZCd]
theorem Zva(hp:p.V w)(i:Int):lP (lsP p l) i=lP p (upL l i):=by unfold lP upL lsP;show(ZdL p.ls l)[i.toNat]?.getD 1=_;rw[Ztm p.ls (by rw[hp.ll]; exact hl),ZCd]
theorem ZuW(i:Int)(c:List Int):ZB (lsV w l) [i] c=ZB w [upL l i] c:=by
 have e:ZN (lsV w l) [i]=ZN w [upL l i]:=by
  funext s
  show[ZdV (lsV w l) i s]=[ZdV w (upL l i) s];rw[Zw2 hl]
 unfold ZB;rw[e]
theorem ZxX(hp:p.V w)(h:Buy (lsV w l) (wfB (lsV w l) (lsP p l)) n c):Buy w (wfB w p) n c:=by
 refine Zrp (w:=lsV w l) (w':=w) (wf:=wfB (lsV w l) (lsP p l)) (wf':=wfB w p) (λn=>n) (λ_ h=>h) (λc y hy k hk=>?_) h;rcases ZeE hy with⟨d,hdo,rfl⟩ | ⟨i,hio,rfl,h1⟩
 ·obtain⟨d0,d1,_⟩:=Zan hdo
  have d1:d<(w.deeds.length:Int):=d1;have hb:=Zfl hp d0 d1;have hk:dP p d=(k:Int):=hk;exact⟨doY w p c d,ZB6 _ (ZBh.mpr ⟨d,hdo,rfl⟩),k,rfl,hk,by omega,λn=>ZBl _⟩
 ·obtain⟨i0,i1⟩:=ZmT hio
  have i1:i<((ZdL w.looks l).length:Int):=i1;rw[Zkw hl]at i1;have hu0:0<=upL l i:=Int.natCast_nonneg _;have hu1:upL l i<(w.looks.length:Int):=by unfold upL; split<;>omega
  have hb:=ZjQ hp hu0 hu1;rw[Zfr,Zva hl hp]at hk;have hs:(Zbl (lsV w l) (lsP p l) c i).2=(Zbl w p c (upL l i)).2:=ZuW hl i c;refine⟨Zbl w p c (upL l i),ZBE _ (ZBF.mpr ⟨ZBh.mpr ⟨upL l i,?_,rfl⟩,decide_eq_true (by rw[<-hs]; exact h1)⟩),k,?_,by rw[Zfr]; exact hk,by omega,λn=>ZBl _⟩
  ·exact ZBh.mpr ⟨(upL l i).toNat,ZBD.mpr (by omega),by omega⟩
  ·unfold wyP
   rw[hs]
end
end
section
theorem ZzU(xs:List D)(k:Nat):cutD xs Z_ (Z (k:Int))=xs.take k:=by
 unfold cutD sIx;dsimp only;rw[if_neg (by omega),ZCd,Nat.sub_zero,List.drop_zero];rw[Nat.min_def];split
 ·rfl
 ·rw[ZDv (ZBl _),ZDv (by omega)]
theorem ZwU(xs:List D)(k:Nat):cutD xs (Z (k:Int)) Z_=xs.drop k:=by
 unfold cutD sIx;dsimp only;rw[if_neg (by omega),ZCd];rw[Nat.min_def];split
 ·rw[ZDv (by rw[ZCB]; exact ZBl _)]
 ·rw[ZGl (ZBl _),ZGl (by omega)]
  simp
theorem Zqc{ys:List D}(h1:a r=Z (.tuple xs))(h2:b r=Z (.tuple ys))(hl:xs.length+ys.length<1000000):ZdE a b r=Z (.tuple (xs++ys)):=by unfold ZdE;rw[h1,h2];dsimp only;rw[if_pos (show _<big from hl)]
theorem ZsL{k:EF}(h1:a r=Z (.tuple xs))(h2:k r=Z (.int (i:Int))):ZbV a Z_ (Z k) r=Z (.tuple (xs.take i)):=by unfold ZbV;rw[h1];show(match ZhR (Z k) r with | some h=>Z (ZBL (cutD xs Z_ h)) | none=>Z_)=_;unfold ZhR;dsimp only;rw[h2];dsimp only;rw[ZzU]
theorem Zsg{k:EF}(h1:a r=Z (.tuple xs))(h2:k r=Z (.int (i:Int))):ZbV a (Z k) Z_ r=Z (.tuple (xs.drop i)):=by unfold ZbV;rw[h1];show(match ZhR (Z k) r with | some l=>Z (ZBL (cutD xs l Z_)) | none=>Z_)=_;unfold ZhR;dsimp only;rw[h2];dsimp only;rw[ZwU]
theorem Zvj(h1:a r=Z x)(h2:b r=Z y):Zal (Za a (Za b Zi)) r=Z (.tuple [x,y]):=by unfold Zal Za;rw[h1];dsimp only;rw[h2];rfl
theorem Zzb(h1:a r=Z x):Zal (Za a Zi) r=Z (.tuple [x]):=by unfold Zal Za;rw[h1];rfl
theorem Zek{e f:EF}(h1:e r=Z x)(h2:f r=Z y)(h:g x y=Z z):op2 g e f r=Z z:=by unfold op2;rw[h1,h2];exact h
theorem call2{m:List D->Option D}{d:D}(h1:a r=Z x)(h2:b r=Z y)(h:m [x,y]=Z d):Zm m (Za a (Za b Zi)) r=Z d:=by unfold Zm Za;rw[h1];dsimp only;rw[h2];exact h
theorem Zif{e:EF}{d:D}(h:e r=Z d):ZT i e r=Z (.nx (r.set i (Z (.pl d)))):=by unfold ZT;rw[h];rfl
theorem ZsZ(a b:Nat)(hb:b<1000):Za0 (.int (a:Int)) (.int (b:Int))=Z (.int ((a*b:Nat):Int)):=by
 have:ZS (b:Int)=ZGH:=by unfold ZS;rw[ZEd];omega
 show(if ZS (a:Int)||ZS (b:Int)then Z (ZBO ((a:Int)*(b:Int)))else Z_)=_;rw[this,Bool.or_true,if_pos rfl,Int.natCast_mul]
def ZdW(p:Pr)(d:Nat):Pr:=⟨p.ds.take d++[dP p (d:Int)+1]++p.ds.drop (d+1),p.ls⟩
theorem Zxv(p:Pr){d:Nat}(hd:d<p.ds.length)(i:Nat):(ZdW p d).ds[i]?.getD 1=if i=d then dP p (i:Int)+1 else p.ds[i]?.getD 1:=by
 unfold ZdW;show((p.ds.take d++[dP p (d:Int)+1]++p.ds.drop (d+1)))[i]?.getD 1=_;have ht:(p.ds.take d).length=d:=by rw[ZB1]; omega
 rw[ZC3]
 by_cases h:i<d
 ·rw[if_neg (by omega),ZBX (by omega),List.getElem?_take,if_pos h]
 ·rw[ZBQ (by omega),ht]
  by_cases e:i=d
  ·subst e
   rw[if_pos rfl,Nat.sub_self];rfl
  ·rw[if_neg e,ZBQ (by simp; omega),ZFm]
   congr 2;simp;omega
def ZfR(p:Pr):Pr:=⟨p.ds.map (2*·),p.ls.map (2*·)⟩
theorem Zqf(xs:List Int)(hi:i<xs.length):(xs.map (2*·))[i]?.getD 1=2*xs[i]?.getD 1:=by rw[ZBG,ZBu hi];rfl
theorem Zzk(hp:p.V w):((Zf2 p (alV w):Nat):Int)=p.ls.sum:=by
 have e:p.ls=(alV w).map (lP p):=by
  unfold alV;rw[ZBz,<-hp.ll];refine List.ext_getElem? λi=>?_;rw[ZBG]
  by_cases h:i<p.ls.length
  ·rw[List.getElem?_range h,ZBu h]
   show _=Z (lP p (i:Int));unfold lP;rw[ZCd,ZBu h];rfl
  ·rw[ZD5 (by omega),ZD5 (by rw[ZCv]; omega)]
   rfl
 have key:∀ks:List Int,(∀l∈ks,0<=lP p l)->((Zf2 p ks:Nat):Int)=(ks.map (lP p)).sum:=by
  intro ks
  induction ks with
  | nil=>intro _; rfl
  | cons l ks ih=>intro h;have h1:=h l (ZBf ..);show(((lP p l).toNat+Zf2 p ks:Nat):Int)=lP p l+(ks.map (lP p)).sum;rw[<-ih λx hx=>h x (ZBi _ hx)];omega
 rw[key (alV w) λl hl=>by obtain⟨l0,l1⟩:=ZmT hl; have:=ZjQ hp l0 l1; omega,<-e]
theorem Zri{p:Pr}:∀ds:List Int,(∀d∈ds,0<=dP p d)->(((ds.map λd=>(dP p d).toNat).sum:Nat):Int)=(ds.map (dP p)).sum
 | [],_=>rfl
 | d::ds,h=>by have h1:=h d (ZBf ..);have ih:=Zri ds λx hx=>h x (ZBi _ hx);show(((dP p d).toNat+(ds.map λd=>(dP p d).toNat).sum:Nat):Int)=dP p d+(ds.map (dP p)).sum;rw[<-ih];omega
theorem ZvL(hv:Wk.V w)(hp:p.V w):(∃n,Buy w (wfB w p) n w.beg)↔∃n,Zga w (alV w) n:=by
 constructor
 ·rintro ⟨n,h⟩
  refine⟨n / 1,λq hq=>?_⟩;obtain⟨s,hs,rfl⟩:=ZaM.mp hq;exact ZpM (mn:=1) (ZBl _) (λd h0 h1=>(Zfl hp h0 h1).1) h _ (λx hx=>(ZBF.mp hx).1) λl hl=>ZiJ hl
 ·rintro ⟨n,h⟩
  exact⟨_,Zi0 hp hv (mx:=20) (λd h0 h1=>(Zfl hp h0 h1).2) n (alV w) (λ_ h=>h) w.beg ⟨hv.bc,hv.b1⟩ (λl hl hn=>absurd hl hn) λs hs=>h _ (ZaM.mpr ⟨s,hs,rfl⟩)⟩
theorem Zp2:ApB ap:=⟨⟨λ_=>rfl,λ_ _=>rfl⟩,λ_=>rfl,λ_ _=>rfl⟩
theorem ZAH:ApP ap:=⟨⟨λ_=>rfl,λ_ _=>rfl⟩,λ_=>rfl⟩
section
variable{w:Wk}(hv:Wk.V w){p:Pr}(hp:p.V w){n:Nat}(hn:Zgo w (wfB w p) w.beg n)
include hv hp hn
theorem low(f:Zga w (alV w) m/\∀j,j<m->¬Zga w (alV w) j)(h0:1<=mn)(hmn:∀d,0<=d->d<(w.deeds.length:Int)->(mn:Int)<=dP p d):m*mn<=n:=by
 have:Zga w (alV w) (n / mn):=λq hq=>by obtain⟨s,hs,rfl⟩:=ZaM.mp hq;exact ZpM h0 hmn hn.1 _ (λx hx=>(ZBF.mp hx).1) λl hl=>ZiJ hl
 have hle:m<=n / mn:=ZDr λh=>f.2 _ h this;exact(Nat.le_div_iff_mul_le (by omega)).mp hle
theorem high{mx:Nat}(f:Zga w (alV w) m)(hmx:∀d,0<=d->d<(w.deeds.length:Int)->dP p d<=(mx:Int)):n<=m*mx+(m+1)*Zf2 p (alV w):=by have:=hn.min (Zi0 hp hv hmx m (alV w) (λ_ h=>h) w.beg ⟨hv.bc,hv.b1⟩ (λl hl hn=>absurd hl hn) λs hs=>f _ (ZaM.mpr ⟨s,hs,rfl⟩));rw[Nat.add_mul,Nat.one_mul];omega
theorem Zxw{d:Nat}(hd:d<w.deeds.length)(h9:∀x∈p.ds,x<=19):(ZdW p d).V w/\∀D,Chp w (ZdW p d) D->∃n':Nat,D=.int n'/\n<=n'/\n'<=n*2:=by
 have hdl:d<p.ds.length:=by rw[hp.dl]; exact hd
 have hV:(ZdW p d).V w:=by
  refine⟨?_,hp.ll,λx hx=>?_,hp.lb⟩
  ·show(p.ds.take d++[dP p (d:Int)+1]++p.ds.drop (d+1)).length=_
   rw[ZBv,ZBv,ZB1,ZCB,ZCs,<-hp.dl];omega
  ·have hb:=Zfl hp (show(0:Int)<=(d:Int) by omega) (by omega)
   have hm:=(ZfS (xs:=p.ds) (i:=(d:Int)) (by omega) (by omega)).2;have:=h9 _ hm;have e:p.ds[((d:Nat):Int).toNat]?.getD 1=dP p (d:Int):=rfl;rcases ZBI.mp hx with hx | hx
   ·rcases ZBI.mp hx with hx | hx
    ·exact hp.db x (ZE8 hx)
    ·rw[ZBk.mp hx]; omega
   ·exact hp.db x (List.mem_of_mem_drop hx)
 have hat:∀i:Int,0<=i->dP (ZdW p d) i=if i.toNat=d then dP p i+1 else dP p i:=λi h0=>by have:=Zxv p hdl i.toNat;rw[ZCr h0]at this;exact this
 refine⟨hV,λD hD=>?_⟩;have hex:Buy w (wfB w (ZdW p d)) (2*n) w.beg:=Zmw hp hV (λk=>2*k) (λi h0 h1 k=>by have:=Zfl hp h0 h1; rw[hat i h0]; split<;>omega) (λl h0 h1 k=>by have:=ZjQ hp h0 h1; have e:lP (ZdW p d) l=lP p l:=rfl; rw[e]; omega) hn.1;rcases hD with⟨n',rfl,h'⟩ | ⟨rfl,h'⟩
 ·refine⟨n',rfl,?_,by have:=h'.min hex; omega⟩
  refine hn.min (Zmw hV hp (λk=>k) (λi h0 h1 k=>?_) (λl h0 h1 k=>?_) h'.1)
  ·have:=Zfl hp h0 h1
   rw[hat i h0];split<;>omega
  ·exact ZBl _
 ·exact absurd hex (h' _)
theorem Zvu(h9:∀x∈p.ds,x<=10)(h9':∀x∈p.ls,x<=10):(ZfR p).V w/\∀D,Chp w (ZfR p) D->D=.int ((2*n:Nat):Int):=by
 have hV:(ZfR p).V w:=by
  refine⟨by show(p.ds.map (2*·)).length=_; rw[ZBb]; exact hp.dl,by show(p.ls.map (2*·)).length=_; rw[ZBb]; exact hp.ll,λx hx=>?_,λx hx=>?_⟩
  ·obtain⟨y,hy,rfl⟩:=ZBh.mp hx
   have:=hp.db y hy;have:=h9 y hy;omega
  ·obtain⟨y,hy,rfl⟩:=ZBh.mp hx
   have:=hp.lb y hy;have:=h9' y hy;omega
 have hd:∀i:Int,0<=i->i<(w.deeds.length:Int)->dP (ZfR p) i=2*dP p i:=λi h0 h1=>Zqf p.ds (by rw[hp.dl]; omega);have hl:∀i:Int,0<=i->i<(w.looks.length:Int)->lP (ZfR p) i=2*lP p i:=λi h0 h1=>Zqf p.ls (by rw[hp.ll]; omega);refine⟨hV,λD hD=>?_⟩;have hex:Buy w (wfB w (ZfR p)) (2*n) w.beg:=Zmw hp hV (λk=>2*k) (λi h0 h1 k=>by have:=Zfl hp h0 h1; rw[hd i h0 h1]; omega) (λi h0 h1 k=>by have:=ZjQ hp h0 h1; rw[hl i h0 h1]; omega) hn.1;rcases hD with⟨n',rfl,h'⟩ | ⟨rfl,h'⟩
 ·have h1:=h'.min hex
  have h2:=hn.min (Zmw hV hp (λk=>k / 2) (λi h0 h1 k=>by have:=Zfl hp h0 h1; rw[hd i h0 h1]; omega) (λi h0 h1 k=>by have:=ZjQ hp h0 h1; rw[hl i h0 h1]; omega) h'.1);rw[show n'=2*n by omega]
 ·exact absurd hex (h' _)
theorem Zxm(hl:l<w.looks.length):∀D,Chp (lsV w l) (lsP p l) D->D=.none\/∃n':Nat,D=.int n'/\n<=n':=λD hD=>by
 rcases hD with⟨n',rfl,h'⟩ | ⟨rfl,_⟩
 ·exact .inr ⟨n',rfl,hn.min (ZxX hl hp h'.1)⟩
 ·exact .inl rfl
end
end
section
theorem or_false{a b:TF}(h1:a r=Z ZGI)(h2:b r=Z ZGI):tOr a b r=Z ZGI:=by unfold tOr;rw[h1];exact h2
theorem and_false{a b:TF}{x:Bool}(h:a r=Z x)(h':x=ZGH->b r=Z ZGI):ZlF a b r=Z ZGI:=by
 unfold ZlF;rw[h];cases x with
 | false=>rfl
 | true=>exact h' rfl
theorem ZsO{g':D->D->Option D}{c:EF}(ha:a r=Z x)(hb:b r=Z y)(g1:g x y=Z (.bool ZGH))(hc:c r=Z z)(g2:g' y z=Z (.bool ZGH)):Zde (tV (Zec g g' a b c)) r=Z ZGI:=by
 have:Zec g g' a b c r=Z (.bool ZGH):=by unfold Zec;rw[ha,hb];dsimp only;rw[g1];dsimp only;rw[hc];exact g2
 unfold Zde tV;rw[this];rfl
theorem ZuH:∀xs:List Int,(∀x∈xs,1<=x/\x<=20)->0<=xs.sum/\xs.sum<=20*(xs.length:Int)
 | [],_=>⟨ZFk _,ZFk _⟩
 | x::xs,h=>by
  have h1:=h x (ZBf ..);have ih:=ZuH xs λy hy=>h y (ZBi _ hy);rw[List.sum_cons,ZBy]
  constructor<;>omega
theorem Zzc{a b:Int}(h:a<=b):gLe (.int a) (.int b)=Z (.bool ZGH):=by show Z (ZCl (decide (a<=b)))=_;rw[decide_eq_true h]
theorem ZAL{a b:Int}(h:b<=a):gLt (.int a) (.int b)=Z (.bool ZGI):=by show Z (ZCl (decide (a<b)))=_;rw[decide_eq_false (by omega)]
theorem Zye{a b:Int}(h:a<=b):gGt (.int a) (.int b)=Z (.bool ZGI):=by show Z (ZCl (decide (b<a)))=_;rw[decide_eq_false (by omega)]
theorem Ztf(ls:List (List Int)):gEq (.tuple (ls.map tupI)) (.tuple [])=Z (.bool ls.isEmpty):=by
 have nb:nbD 2 (.tuple (ls.map tupI))=ZGH:=Zuy λd hd=>by obtain⟨x,_,rfl⟩:=ZBh.mp hd;exact ZmM 0 x
 cases ls with
 | nil=>exact ZiC (n:=2) nb (by decide)
 | cons x ls=>exact ZjY nb (Zuy (n:=1) λd hd=>by simp at hd) (by decide) (by decide) λz=>by injection z with z; cases z
theorem ZyP{c:Int}{k:Nat}(hk:0<k):Zm4 (.int c) (.int (k:Int))=Z (.int (((c % (k:Int)).toNat:Nat):Int))/\(c % (k:Int)).toNat<k:=by have h1:=Int.emod_nonneg c (show(k:Int)≠0 by omega);have h2:=Int.emod_lt_of_pos c (show(0:Int)<(k:Int) by omega);refine⟨?_,by omega⟩;show(if(0:Int)<(k:Int)then Z (ZBO (c % (k:Int)))else Z_)=_;rw[if_pos (by omega),ZCr h1]
theorem ZlD(ns:List Int)(h:ns.length<=63):ZgF ap [.list (ns.map dI)]=Z (.bool ZGH):=by
 have hv:=Wk.Ok.v (Zyg ns 2);have h7:(wkV ns 2).many<=7:=by have:(wkV ns 2).many=ZU ns 2:=rfl;have:=(ZkE ns 2).2;omega
 have hw:=ZvO ns 2 h;have hc0:=ZdY ns 0;have hc1:=ZdY ns 1;have hpr:=Zn8 hv (Zv ns 0);have hp:=ZzG (wkV ns 2) (Zv ns 0);have hpb:=Zs2 (wkV ns 2) (Zv ns 0);generalize wkV ns 2=w at *;generalize prV w (Zv ns 0)=p at *;have hw':Zbs [.list (ns.map dI),.int 2]=Z w.d:=hw;have hc0':Z3 [.list (ns.map dI),.int 0]=Z (.int (Zv ns 0)):=hc0;have hc1':Z3 [.list (ns.map dI),.int 1]=Z (.int (Zv ns 1)):=hc1;have hal:=Zqn hv;obtain⟨d3,e3,f3⟩:=ZfG hv h7 hp Zp2;obtain⟨d4,e4,f4⟩:=ZtE hv h7 (Zj5 w) Zp2.d;have hbf:=ZvL hv hp;show ZG (Zov ap [Z (.pl (.list (ns.map dI))),Z_,Z_,Z_,Z_,Z_,Z_,Z_,Z_,Z_,Z_,Z_])=_
 clear hw hc0 hc1
 generalize ZGk (ns.map dI)=S at *;unfold Zov;refine ZO (P:=λq=>ZG q=_) (r':=[Z (.pl S),Z (.pl w.d),Z_,Z_,Z_,Z_,Z_,Z_,Z_,Z_,Z_,Z_]) (by simp[hw']) ?_;refine ZO (P:=λq=>ZG q=_) (r':=[Z (.pl S),Z (.pl w.d),Z (.pl p.d),Z_,Z_,Z_,Z_,Z_,Z_,Z_,Z_,Z_]) (by simp[hc0',hpr]) ?_;refine ZO (P:=λq=>ZG q=_) (r':=[Z (.pl S),Z (.pl w.d),Z (.pl p.d),Z (.pl d3),Z_,Z_,Z_,Z_,Z_,Z_,Z_,Z_]) (by simp[e3]) ?_;refine ZO (P:=λq=>ZG q=_) (r':=[Z (.pl S),Z (.pl w.d),Z (.pl p.d),Z (.pl d3),Z (.pl d4),Z_,Z_,Z_,Z_,Z_,Z_,Z_]) (by simp[hal,e4]) ?_;rcases f3 with⟨n,rfl,hn⟩ | ⟨rfl,hno⟩
 ·obtain⟨m,rfl,hm1,hm2⟩:∃m:Nat,d4=.int m/\Zga w (alV w) m/\∀j,j<m->¬Zga w (alV w) j:=by
   rcases f4 with⟨m,e,h1,h2⟩ | ⟨_,h2⟩
   ·exact⟨m,e,h1,h2⟩
   ·obtain⟨j,hj⟩:=hbf.mp ⟨n,hn.1⟩
    exact absurd hj (h2 j)
  refine ZO (P:=λq=>ZG q=_) (r':=[Z (.pl S),Z (.pl w.d),Z (.pl p.d),Z (.pl (.int (n:Int))),Z (.pl (.int (m:Int))),Z_,Z_,Z_,Z_,Z_,Z_,Z_]) rfl ?_;have hdl:0<p.ds.length:=by rw[hp.dl]; have:=hv.d1; omega
  obtain⟨mn,hmn⟩:∃x,p.ds.min?=Z x:=by
   cases hq:p.ds.min? with
   | some x=>exact⟨x,rfl⟩
   | none=>rw[ZDC]at hq; rw[hq]at hdl; simp at hdl
  obtain⟨mx,hmx⟩:∃x,p.ds.max?=Z x:=by
   cases hq:p.ds.max? with
   | some x=>exact⟨x,rfl⟩
   | none=>rw[ZEb]at hq; rw[hq]at hdl; simp at hdl
  obtain⟨mn1,mn2⟩:=ZCt.mp hmn;obtain⟨mx1,mx2⟩:=ZDB.mp hmx;have bn:=hpb.1 mn mn1;have bx:=hpb.1 mx mx1;have hlow:=low hv hp hn ⟨hm1,hm2⟩ (mn:=mn.toNat) (by omega) λd h0 h1=>by have:=mn2 _ (ZfS (xs:=p.ds) h0 (by rw[hp.dl]; exact h1)).2;have e:p.ds[d.toNat]?.getD 1=dP p d:=rfl;omega
  have hhigh:=high hv hp hn hm1 (mx:=mx.toNat) λd h0 h1=>by have:=mx2 _ (ZfS (xs:=p.ds) h0 (by rw[hp.dl]; exact h1)).2;have e:p.ds[d.toNat]?.getD 1=dP p d:=rfl;omega
  have hS:=Zzk hp;have hSl:=ZuH p.ls hp.lb;have hS9:Zf2 p (alV w)<1000:=by rw[hp.ll]at hSl; have:=hv.l2; omega
  have t1:∀r:HM.Env,r[2]?=Z (Z (.pl p.d))->r[4]?=Z (Z (.pl (.int (m:Int))))->op2 Za0 (Zc 4) (Zmo (eIx (Zo 2) (eC (.int 0)))) r=Z (.int ((m*mn.toNat:Nat):Int)):=λr r2 r4=>by
   refine Zek (x:=.int (m:Int)) (y:=.int ((mn.toNat:Nat):Int)) (by simp[r4]) ?_ (ZsZ _ _ (by omega));have a0:eIx (Zo 2) (eC (.int 0)) r=Z (tupI p.ds):=by simp[r2,Pr.d]
   unfold Zmo;rw[a0];show(match Zap (p.ds.map dI)with | some ns=>ns.min?.map λi=>ZBO i | none=>Z_)=_;rw[ZcR];dsimp only;rw[hmn,ZCr (by omega)];rfl
  have t2:∀r:HM.Env,r[2]?=Z (Z (.pl p.d))->r[4]?=Z (Z (.pl (.int (m:Int))))->op2 Z9 (op2 Za0 (Zc 4) (Zms (eIx (Zo 2) (eC (.int 0))))) (op2 Za0 (op2 Z9 (Zc 4) (eC (.int 1))) (Zmk (eIx (Zo 2) (eC (.int 1))))) r=Z (.int ((m*mx.toNat:Nat)+((m+1)*Zf2 p (alV w):Nat))):=λr r2 r4=>by
   have a0:eIx (Zo 2) (eC (.int 0)) r=Z (tupI p.ds):=by simp[r2,Pr.d]
   have a1:eIx (Zo 2) (eC (.int 1)) r=Z (tupI p.ls):=by simp[r2,Pr.d]
   have v4:Zc 4 r=Z (.int (m:Int)):=by simp[r4]
   refine Zek (Zek v4 (y:=.int ((mx.toNat:Nat):Int)) ?_ (ZsZ _ _ (by omega))) (Zek (Zek v4 (y:=.int 1) rfl (z:=.int ((m+1:Nat):Int)) rfl) (y:=.int ((Zf2 p (alV w):Nat):Int)) ?_ (ZsZ _ _ hS9)) rfl
   ·unfold Zms
    rw[a0];show(match Zap (p.ds.map dI)with | some ns=>ns.max?.map λi=>ZBO i | none=>Z_)=_;rw[ZcR];dsimp only;rw[hmx,ZCr (by omega)];rfl
   ·unfold Zmk
    rw[a1];show(match Zap (p.ls.map dI)with | some ns=>Z (ZBO ns.sum) | none=>Z_)=_;rw[ZcR,hS]
  refine ZO (P:=λq=>ZG q=_) (if_false (or_false (Zmh (x:=.int (n:Int)) rfl (t1 _ rfl rfl) (ZAL (by omega))) (Zmh (x:=.int (n:Int)) rfl (t2 _ rfl rfl) (Zye (by omega))))) ?_
  clear t1 t2
  obtain⟨g5,hd5⟩:=ZyP (c:=Zv ns 1) (k:=w.deeds.length) (by have:=hv.d1; omega);generalize hdd:(Zv ns 1 % (w.deeds.length:Int)).toNat=d at *;refine ZO (P:=λq=>ZG q=_) (r':=[Z (.pl S),Z (.pl w.d),Z (.pl p.d),Z (.pl (.int (n:Int))),Z (.pl (.int (m:Int))),Z (.pl (.int (d:Int))),Z_,Z_,Z_,Z_,Z_,Z_]) (Zif (Zek (call2 (x:=S) (y:=.int 1) rfl rfl hc1') (y:=.int (w.deeds.length:Int)) (by show Z (ZBO (((w.deeds.map Z0).length:Nat):Int))=_; rw[ZBb]) g5)) ?_;obtain⟨hV1,hD1⟩:=Zxw hv hp hn hd5 λx hx=>by have:=hpb.1 x hx; omega
  obtain⟨d6,e6,f6⟩:=ZfG hv h7 hV1 Zp2;obtain⟨n',rfl,l1,l2⟩:=hD1 d6 f6;have hd2:=hv.d2;have hpl:=hp.dl;refine ZO (P:=λq=>ZG q=_) (r':=[Z (.pl S),Z (.pl w.d),Z (.pl p.d),Z (.pl (.int (n:Int))),Z (.pl (.int (m:Int))),Z (.pl (.int (d:Int))),Z (.pl (ZdW p d).d),Z_,Z_,Z_,Z_,Z_]) ?_ ?_
  ·have hat:=(ZfS (xs:=p.ds) (i:=(d:Int)) (by omega) (by omega)).1
   have hx:=Zqc (r:=[Z (.pl S),Z (.pl w.d),Z (.pl p.d),Z (.pl (.int (n:Int))),Z (.pl (.int (m:Int))),Z (.pl (.int (d:Int))),Z_,Z_,Z_,Z_,Z_,Z_]) (Zqc (ZsL (a:=eIx (Zo 2) (eC (.int 0))) (k:=Zc 5) (xs:=p.ds.map dI) (i:=d) rfl rfl) (Zzb (a:=op2 Z9 (eIx (bOf (eIx (Zo 2) (eC (.int 0)))) (Zc 5)) (eC (.int 1))) (x:=.int (dP p (d:Int)+1)) (Zek (x:=.int (dP p (d:Int))) (y:=.int 1) hat rfl rfl)) (by rw[ZB1,ZBb]; simp; omega)) (Zsg (a:=eIx (Zo 2) (eC (.int 0))) (k:=op2 Z9 (Zc 5) (eC (.int 1))) (xs:=p.ds.map dI) (i:=d+1) rfl rfl) (by rw[ZBv,ZB1,ZCB,ZBb]; simp; omega);have hy:=Zif (i:=6) (Zvj hx (b:=eIx (Zo 2) (eC (.int 1))) (y:=tupI p.ls) rfl);refine hy.trans ?_;show Z (Out.nx [_,_,_,_,_,_,Z (B.pl (ZBL [ZBL ((p.ds.map dI).take d++[ZBO (dP p (d:Int)+1)]++(p.ds.map dI).drop (d+1)),tupI p.ls])),_,_,_,_,_])=_;have e:ZBL ((p.ds.map dI).take d++[ZBO (dP p (d:Int)+1)]++(p.ds.map dI).drop (d+1))=tupI (ZdW p d).ds:=by unfold tupI ZdW;show _=ZBL ((p.ds.take d++[dP p (d:Int)+1]++p.ds.drop (d+1)).map dI);rw[ZBJ,ZBJ,ZFu,ZFv];rfl
   rw[e];rfl
  refine ZO (P:=λq=>ZG q=_) (if_false (ZsO (x:=.int (n:Int)) (y:=.int (n':Int)) (z:=.int ((n*2:Nat):Int)) rfl (call2 rfl rfl e6) (Zzc (by omega)) (Zek (x:=.int (n:Int)) (y:=.int ((2:Nat):Int)) rfl rfl (ZsZ n 2 (by decide))) (Zzc (by omega)))) ?_;obtain⟨hV2,hD2⟩:=Zvu hv hp hn (λx hx=>by have:=hpb.1 x hx; omega) λx hx=>by have:=hpb.2 x hx; omega
  obtain⟨d7,e7,f7⟩:=ZfG hv h7 hV2 Zp2;have:=hD2 d7 f7;subst this;have h2x:∀x:Int,Za0 (.int 2) (.int x)=Z (.int (2*x)):=λx=>by show(if ZS 2||ZS x then Z (ZBO (2*x))else Z_)=_;rw[show ZS 2=ZGH from rfl,Bool.true_or,if_pos rfl]
  have hlk:=hv.l2;have hlp:=hp.ll;refine ZO (P:=λq=>ZG q=_) (r':=[Z (.pl S),Z (.pl w.d),Z (.pl p.d),Z (.pl (.int (n:Int))),Z (.pl (.int (m:Int))),Z (.pl (.int (d:Int))),Z (.pl (ZdW p d).d),Z (.pl (ZfR p).d),Z_,Z_,Z_,Z_]) ?_ ?_
  ·have tw:∀(r:HM.Env) (E:EF) (xs:List Int),E r=Z (tupI xs)->xs.length<1000->Z2 (ZP (Zaa (bOf E)) ZW (op2 Za0 (eC (.int 2)) (Zc 0))) r=Z (tupI (xs.map (2*·))):=λr E xs hE hl=>by
    have hc:=Zg6 (I:=Zaa (bOf E)) (c:=ZW) (e:=op2 Za0 (eC (.int 2)) (Zc 0)) (r:=r) (ds:=xs.map dI) (by unfold Zaa bOf; rw[hE]; rfl) (by rw[ZBb]; omega) (ZaY dI (λx=>dI (2*x)) xs λx _=>Zek (x:=.int 2) (y:=.int x) rfl rfl (h2x x));unfold Z2;rw[hc];unfold tupI;rw[ZBz];rfl
   exact Zif (Zvj (tw _ _ p.ds rfl (by omega)) (tw _ _ p.ls rfl (by omega)))
  refine ZO (P:=λq=>ZG q=_) (if_false (Zmh (call2 rfl rfl e7) (Zek (x:=.int 2) (y:=.int (n:Int)) (z:=.int ((2*n:Nat):Int)) rfl rfl (by rw[h2x,Int.natCast_mul]; rfl)) (Zvb (ZdM 1 _) (by decide)))) ?_;obtain⟨L,M,hcr,hL,F,hbL,hrow⟩:=HG21.Zvx hv h7 ZAH;obtain⟨d8,e8,h8⟩:∃d8,HG21.Zcz ap [w.d]=Z d8/\((d8=.none/\Zj M w.beg=Z_)\/∃k:Nat,k<=128/\Zj M w.beg=Z (k:Int)/\d8=.list ((HG21.Za9 M w k w.beg).map dI)):=by
   rcases hrow with⟨h1,h2⟩ | ⟨k,hk,h1,h2⟩
   ·exact⟨_,h2,.inl ⟨rfl,h1⟩⟩
   ·exact⟨_,h2,.inr ⟨k,hk,h1,rfl⟩⟩
  generalize (Z (.pl (ZdW p d).d):Option B)=s6;generalize (Z (.pl (ZfR p).d):Option B)=s7;refine ZO (P:=λq=>ZG q=_) (r':=[Z (.pl S),Z (.pl w.d),Z (.pl p.d),Z (.pl (.int (n:Int))),Z (.pl (.int (m:Int))),Z (.pl (.int (d:Int))),s6,s7,Z (.pl d8),Z_,Z_,Z_]) (by simp[e8]) ?_;refine ZO (P:=λq=>ZG q=_) (r':=[Z (.pl S),Z (.pl w.d),Z (.pl p.d),Z (.pl (.int (n:Int))),Z (.pl (.int (m:Int))),Z (.pl (.int (d:Int))),s6,s7,Z (.pl d8),Z_,Z_,Z_]) ?_ ?_
  ·rcases h8 with⟨rfl,_⟩ | ⟨k,hk,hkk,rfl⟩
   ·rfl
   ·refine if_false (and_false (x:=ZGH) rfl λ_=>?_)
    obtain⟨hb,hbd⟩:=ZrG hv hp hcr hL F k w.beg hkk;have hsr:=Zri (p:=p) (HG21.Za9 M w k w.beg) λd hd=>by have:=hbd d hd; have:=Zfl hp this.1 this.2; omega
    have hmin:=hn.min hb;have hc:=Zg6 (I:=Zaa (bOf (Zc 8))) (c:=ZW) (e:=eIx (bOf (eIx (Zo 3) (eC (.int 0)))) (Zc 0)) (r:=[Z (.pl S),Z (.pl w.d),Z (.pl p.d),Z (.pl (.int (n:Int))),Z (.pl (.int (m:Int))),Z (.pl (.int (d:Int))),s6,s7,Z (.pl (.list ((HG21.Za9 M w k w.beg).map dI))),Z_,Z_,Z_]) (ds:=(HG21.Za9 M w k w.beg).map dI) rfl (by rw[ZBb,HG21.Zo6]; omega) (ZaY dI (λx=>dI (dP p x)) _ λx hx=>(ZfS (xs:=p.ds) (hbd x hx).1 (by have:=(hbd x hx).2; omega)).1);refine Zmh (x:=.int (n:Int)) (y:=.int ((HG21.Za9 M w k w.beg).map (dP p)).sum) rfl ?_ (Zye (by omega));unfold Zoe;rw[hc];show(match Zap ((HG21.Za9 M w k w.beg).map λx=>dI (dP p x))with | some ns=>Z (ZBO ns.sum) | none=>Z_)=_;rw[show((HG21.Za9 M w k w.beg).map λx=>dI (dP p x))=((HG21.Za9 M w k w.beg).map (dP p)).map dI by rw[ZBz]; rfl,ZcR]
  have ht:tV (op2 gEq (eIx (Zo 1) (eC (.int 2))) (Zal Zi)) [Z (.pl S),Z (.pl w.d),Z (.pl p.d),Z (.pl (.int (n:Int))),Z (.pl (.int (m:Int))),Z (.pl (.int (d:Int))),s6,s7,Z (.pl d8),Z_,Z_,Z_]=Z w.looks.isEmpty:=Zmh (x:=.tuple (w.looks.map tupI)) (y:=.tuple []) rfl rfl (Ztf _);cases hle:w.looks.isEmpty with
  | true =>
   rw[hle]at ht;have hl0:w.looks=[]:=List.isEmpty_iff.mp hle;have hal0:alV w=[]:=by unfold alV; rw[hl0]; rfl
   rw[hal0]at hm1;have hh:=F.all hL hbL ((HG21.Zu1 hv m).mp hm1);rcases h8 with⟨_,h1⟩ | ⟨k,hk,hkk,rfl⟩
   ·unfold Zz at hh
    rw[h1]at hh;cases hh
   ·unfold Zs sIf
    rw[ht];rfl
  | false =>
   rw[hle]at ht;refine ZO (P:=λq=>ZG q=_) (if_false ht) ?_;have hlpos:0<w.looks.length:=by
    cases hq:w.looks with
    | nil=>rw[hq]at hle; cases hle
    | cons _ _=>simp
   obtain⟨g9,hl9⟩:=ZyP (c:=Zv ns 1) (k:=w.looks.length) hlpos;generalize (Zv ns 1 % (w.looks.length:Int)).toNat=l at *;generalize (Z (.pl d8):Option B)=s8;refine ZO (P:=λq=>ZG q=_) (r':=[Z (.pl S),Z (.pl w.d),Z (.pl p.d),Z (.pl (.int (n:Int))),Z (.pl (.int (m:Int))),Z (.pl (.int (d:Int))),s6,s7,s8,Z (.pl (.int (l:Int))),Z_,Z_]) (Zif (Zek (call2 (x:=S) (y:=.int 1) rfl rfl hc1') (y:=.int (w.looks.length:Int)) (by show Z (ZBO (((w.looks.map tupI).length:Nat):Int))=_; rw[ZBb]) g9)) ?_;have cutE:∀(r:HM.Env) (E:EF) (xs:List D),E r=Z (.tuple xs)->r[9]?=Z (Z (.pl (.int (l:Int))))->xs.length<1000->ZdE (ZbV E Z_ (Z (Zc 9))) (ZbV E (Z (op2 Z9 (Zc 9) (eC (.int 1)))) Z_) r=Z (.tuple (ZdL xs l)):=λr E xs hE h9 hl=>by
    have v9:Zc 9 r=Z (.int (l:Int)):=by simp[h9]
    refine Zqc (ZsL hE v9) (Zsg hE (i:=l+1) (Zek v9 (y:=.int 1) rfl rfl)) ?_;rw[ZB1,ZCB];omega
   have cutM:∀{α:Type} (f:α->D) (xs:List α),ZdL (xs.map f) l=(ZdL xs l).map f:=λf xs=>by unfold ZdL;rw[ZBJ,ZFu,ZFv]
   refine ZO (P:=λq=>ZG q=_) (r':=[Z (.pl S),Z (.pl w.d),Z (.pl p.d),Z (.pl (.int (n:Int))),Z (.pl (.int (m:Int))),Z (.pl (.int (d:Int))),s6,s7,s8,Z (.pl (.int (l:Int))),Z (.pl (lsV w l).d),Z_]) ?_ ?_
   ·have hx:=Zqc (Zqc (ZsL (a:=Zc 1) (k:=eC (.int 2)) (r:=[Z (.pl S),Z (.pl w.d),Z (.pl p.d),Z (.pl (.int (n:Int))),Z (.pl (.int (m:Int))),Z (.pl (.int (d:Int))),s6,s7,s8,Z (.pl (.int (l:Int))),Z_,Z_]) (xs:=[.int w.many,.tuple (w.deeds.map Z0),.tuple (w.looks.map tupI),tupI w.beg,tupI w.goal]) (i:=2) rfl rfl) (Zzb (cutE _ (eIx (Zo 1) (eC (.int 2))) (w.looks.map tupI) rfl rfl (by rw[ZBb]; omega))) (by simp)) (Zsg (a:=Zc 1) (k:=eC (.int 3)) (xs:=[.int w.many,.tuple (w.deeds.map Z0),.tuple (w.looks.map tupI),tupI w.beg,tupI w.goal]) (i:=3) rfl rfl) (by simp)
    refine(Zif (i:=10) hx).trans ?_;rw[cutM];rfl
   obtain⟨d11,e11,f11⟩:=ZfG (ZAG hl9 hv) h7 (ZzE hl9 hp) Zp2;refine ZO (P:=λq=>ZG q=_) (r':=[Z (.pl S),Z (.pl w.d),Z (.pl p.d),Z (.pl (.int (n:Int))),Z (.pl (.int (m:Int))),Z (.pl (.int (d:Int))),s6,s7,s8,Z (.pl (.int (l:Int))),Z (.pl (lsV w l).d),Z (.pl d11)]) ?_ ?_
   ·have hx:=Zvj (r:=[Z (.pl S),Z (.pl w.d),Z (.pl p.d),Z (.pl (.int (n:Int))),Z (.pl (.int (m:Int))),Z (.pl (.int (d:Int))),s6,s7,s8,Z (.pl (.int (l:Int))),Z (.pl (lsV w l).d),Z_]) (a:=eIx (Zo 2) (eC (.int 0))) (x:=tupI p.ds) rfl (cutE _ (eIx (Zo 2) (eC (.int 1))) (p.ls.map dI) rfl rfl (by rw[ZBb]; omega))
    rw[cutM]at hx;exact Zif (call2 (a:=Zc 10) (x:=(lsV w l).d) (y:=(lsP p l).d) rfl hx e11)
   rcases Zxm hv hp hn hl9 d11 f11 with rfl | ⟨n'',rfl,hge⟩
   ·rfl
   ·show ZG (ZCJ Out.rt (Z (ZCl (decide ((n:Int)<=(n'':Int))))))=_
    rw[decide_eq_true (by omega)];rfl
 ·have hd:d4=.none:=by
   rcases f4 with⟨m,rfl,h1,_⟩ | ⟨e,_⟩
   ·obtain⟨k,hk⟩:=hbf.mpr ⟨m,h1⟩
    exact absurd hk (hno k)
   ·exact e
  subst hd;rfl
end
end HG26
namespace HT
open PySem PySem.Spec PyProof.Rows L2 HP HM
open HG
open HG4
open HG5
open HG6
open HG21
open HG23
open HG26
variable{Tl c f:Addr}{osl:Array (Option Value)}{fd:FuncData}{h:Heap}{ps:List Str}{an od:Option Addr}{st:Stmt}{n x:Str}{cdv ct doc oc pm:Value}
def top(i:Nat):Stmt:=PySem.Challenge.pw_halfseen_k26_whole_what_looks_cost.main.body.getD i (.Pass ⟨0,0,0,0⟩)
abbrev ZgG:Stmt:=top 10
abbrev Zjt:Stmt:=top 11
abbrev ZgH:Stmt:=top 12
abbrev Zge:Stmt:=top 13
abbrev Zgf:Stmt:=top 14
abbrev ZeT:Stmt:=top 15
abbrev ZeU:Stmt:=top 16
abbrev Zhz:Stmt:=top 17
abbrev ZgI:Stmt:=top 18
abbrev ZhA:Stmt:=top 19
abbrev ZhB:Stmt:=top 20
abbrev ZhC:Stmt:=top 21
abbrev Zin:Stmt:=top 22
abbrev Zio:Stmt:=top 23
abbrev Zep:Stmt:=top 24
abbrev ZgJ:Stmt:=top 25
abbrev Zgg:Stmt:=top 26
abbrev ZdN:Stmt:=top 28
abbrev Zeg:Stmt:=top 29
abbrev Zju:Stmt:=top 30
abbrev Zhi:Stmt:=top 31
abbrev Zfy:Stmt:=top 32
abbrev ZcA:Stmt:=top 35
abbrev ZeV:Stmt:=top 36
abbrev ZcY:Stmt:=top 37
abbrev ZfX:Stmt:=top 38
abbrev Zc8:Stmt:=top 39
abbrev Zfz:Stmt:=top 40
abbrev ZhD:Stmt:=top 41
abbrev ZcO:Stmt:=top 42
abbrev ZeW:Stmt:=top 43
abbrev ZZ:Stmt:=top 44
abbrev ZfA:Stmt:=top 45
abbrev ZgK:Stmt:=top 46
abbrev Zgh:Stmt:=top 47
abbrev Zgi:Stmt:=top 48
abbrev Zjv:Stmt:=top 49
abbrev Zjw:Stmt:=top 50
abbrev Zdi:Stmt:=top 54
abbrev Zd0:Stmt:=top 55
abbrev Zdj:Stmt:=top 56
abbrev Zcj:Stmt:=top 57
abbrev Zff:Stmt:=top 58
abbrev ZfB:Stmt:=top 59
abbrev ZI:Stmt:=top 60
abbrev ZhE:Stmt:=top 61
abbrev ZgL:Stmt:=top 63
abbrev ZhF:Stmt:=top 65
abbrev Zip:Stmt:=top 66
abbrev ZeX:Stmt:=top 67
abbrev ZhG:Stmt:=top 68
abbrev ZhH:Stmt:=top 69
abbrev ZeY:Stmt:=top 70
abbrev ZcZ:Stmt:=top 71
abbrev Zea:Stmt:=top 72
structure Def(K:ZBd)(mg:Str->Option Value)(x:Str)(st:Stmt)(ps:List Str):Prop where
 ex:∃f fd,Fun K x x st f fd/\mg x=Z (.ref f)/\Binds K fd ps []
structure Txt(K:ZBd)(mg:Str->Option Value):Prop where
 n_len:mg "len" = Z_
 n_tuple:mg "tuple" = Z_
 n_list:mg "list" = Z_
 n_set:mg "set" = Z_
 n_sorted:mg "sorted" = Z_
 n_range:mg "range" = Z_
 n_all:mg "all" = Z_
 n_isinstance:mg "isinstance" = Z_
 n_int:mg "int" = Z_
 n_bool:mg "bool" = Z_
 n_max:mg "max" = Z_
 n_min:mg "min" = Z_
 n_sum:mg "sum" = Z_
 n_enumerate:mg "enumerate" = Z_
 c_MOST_STATES:∃t,mg "MOST_STATES" = Z (.int 8 t)
 c_MOST_DEEDS:∃t,mg "MOST_DEEDS" = Z (.int 5 t)
 c_MOST_LOOKS:∃t,mg "MOST_LOOKS" = Z (.int 4 t)
 c_MOST_SEEN:∃t,mg "MOST_SEEN" = Z (.int 9 t)
 c_LEAST_PRICE:∃t,mg "LEAST_PRICE" = Z (.int 1 t)
 c_MOST_PRICE:∃t,mg "MOST_PRICE" = Z (.int 20 t)
 c_DONE:∃a,mg "DONE" = Z (.ref a)/\Zo5 K a [.str "done"]
section
variable[FX]{P:Program}{w:World}{K:ZBd}{mg:Str->Option Value}{base:Heap}{k:Nat}
set_option maxHeartbeats 8000000
theorem scM{N:List Str}{sc:Scope}(a:sc.kind=.function:=by rfl)(b:sc.isCoroutine=ZGI:=by rfl)(c:sc.isGenerator=ZGI:=by rfl)(d:N.Nodup:=by decide +kernel)(e:N.take ps.length=ps:=by rfl)(f:∀x∈ps,sc.names.lookup x=Z .local\/sc.names.lookup x=Z .cell:=by decide +kernel)(g:∀y∈sc.names,y.2≠.free:=by decide +kernel):Zr N ps sc:=⟨a,b,c,d,e,f,g⟩
theorem Def.ok{x:Str}{st:Stmt}{N ps:List Str}{g:HM.SF}(D:Def K mg x st ps)(S:Zr N ps (Ze st))(body:∀(f:Addr) (cdv:Value) (A:Around) (outer:List PySem.Env) (s:Shared) (H:Hp) (E:XK),Zav k (A.deeper (envOfC x (Ze st) s.heap.objs.size f cdv))->XSs (Zf8 CX0 P w K mg base N x (Ze st) f cdv A outer s H E).nox (ZaS st) g):Callee P w K mg base (k+1) x (HM.fnOf ps.length N.length g):=by obtain⟨f,fd,F,m,b⟩:=D.ex;exact Zto F S m b (body f)
theorem Cup{j:Nat}{M:List PyData->Option PyData}(C:Callee P w K mg base j x M)(h:j<=k:=by decide):Callee P w K mg base k x M:=C.mono h
theorem Zow:Zr ["_law_script","_law_k"] ["_law_script","_law_k"] (Ze ZhF):=scM
theorem Zox(T:Txt K mg)(D:Def K mg "_law_cell" ZhF ["_law_script","_law_k"]):Callee P w K mg base (k+1) "_law_cell" Z3 :=
 D.ok Zow λ_ cdv A outer s H E hr=>by
  exact(Zk (ZaU (Zag cLt (Zd 1) (Zbb T.n_len (Zp 0))) (Zn (Zw (ZF (Zp 0) (Zd 1)))) Z5)
  (Zn (Zw Zh)))
theorem Zqy:Zr ["_law_cell_here","_law_prime","_law_many"] ["_law_cell_here","_law_prime","_law_many"] (Ze Zip):=scM
theorem Zqz(T:Txt K mg)(D:Def K mg "_law_mix" Zip ["_law_cell_here","_law_prime","_law_many"]):Callee P w K mg base (k+1) "_law_mix" ZL :=
 D.ok Zqy λ_ cdv A outer s H E hr=>by exact(Zn (Zw (Zy oMod (Zy oMod (Zy Zcu (Zd 0) Zh) (Zd 1)) (Zd 2))))
abbrev Zg5:List Str:=["_law_cell_here","_law_many","_law_least","_law_found"]
theorem ZfY:Zr Zg5 ["_law_cell_here","_law_many","_law_least"] (Ze ZeX):=scM
theorem ZnI(T:Txt K mg)(ZQ:Callee P w K mg base k "_law_mix" ZL)(D:Def K mg "_law_crowd" ZeX ["_law_cell_here","_law_many","_law_least"]):Callee P w K mg base (k+1) "_law_crowd" Zb3 :=
 D.ok ZfY λ_ cdv A outer s H E hr=>by
  exact(Zk (ZeJ 3 ZfY.nd rfl rfl (N:="_law_state" :: Zg5) (ZJ (sc:=Ze ZeX) (XN:=Zg5)) (Zch T.n_range (Zd 1)) (λ_ _ _ _ _=>(Zey (Zag cLt (Zl ZQ hr (Zb (Zy Za5 (Zy Za5 (Zd 1) (Zy Zcu (Zy Zcu Zh (Zd 0)) (Zd 0))) (Zy Zcu Zh (Zd 0))) (Zb Zh (Zb Zh Zf)))) Zh))) (λ_ _ _ _ _=>(Zd 0)))
  (Zk (ZaU (Zag cLt (Zbb T.n_len (Zp 3)) (Zd 2)) (Zn (Zbj 3 ZfY.nd (Zdn (Zb (Zl ZQ hr (Zb (Zd 0) (Zb Zh (Zb (Zd 1) Zf)))) Zf)))) Z5)
  (Zn (Zw (Zah T.n_tuple (Zp 3))))))
theorem ZcB:Zr ["_law_cell_here","_law_many","_law_found","_law_state","_law_seed","_law_way","_law_row"] ["_law_cell_here","_law_many"] (Ze ZhG):=scM
theorem Zoy(T:Txt K mg)(ZQ:Callee P w K mg base k "_law_mix" ZL)(D:Def K mg "_law_deed" ZhG ["_law_cell_here","_law_many"]):Callee P w K mg base (k+1) "_law_deed" Zd6 :=
 D.ok ZcB λ_ cdv A outer s H E hr=>by
  have hu:=Zej hr;exact(Zk (Zbj 2 ZcB.nd (Zdn Zf))
  (Zk (ZcV 3 ZcB.nd rfl rfl (Zch T.n_range (Zd 1)) (Zk (ZK 4 ZcB.nd (Zy Za5 (Zy Za5 (Zd 0) (Zy Zcu (Zy Zcu Zh (Zd 3)) (Zd 3))) (Zy Zcu Zh (Zd 3))))
  (Zk (ZK 5 ZcB.nd (Zl ZQ hr (Zb (Zd 4) (Zb Zh (Zb Zh Zf)))))
  (Zk (Zbj 6 ZcB.nd (ZuK (Zl ZQ hr (Zb (Zd 4) (Zb Zh (Zb (Zd 1) Zf)))) Zb0))
  (Zk (ZaU (Zag cLt (Zd 5) Zh) (Zn (ZgC hu 6 (Zl ZQ hr (Zb (Zd 4) (Zb Zh (Zb (Zd 1) Zf)))) Zb0)) Z5)
  (Zk (Zex 2 (Zah T.n_tuple (ZaT (Zjk T.n_sorted rfl (Zp 6)))))
  (Zn (ZaU (Zag (cEq hr) (Zd 5) Zh) (Zn (Zwp 2 ZxM (Za7 Zf))) Z5))))))))
  (Zn (Zw (Zah T.n_tuple (Zp 2))))))
theorem Zb6:Zr ["_law_cell_here","_law_many","_law_left","_law_right","_law_state","_law_ahead","_law_behind","_law_slips"] ["_law_cell_here","_law_many"] (Ze ZhH):=scM
theorem Zoz(T:Txt K mg)(ZQ:Callee P w K mg base k "_law_mix" ZL)(D:Def K mg "_law_walk" ZhH ["_law_cell_here","_law_many"]):Callee P w K mg base (k+1) "_law_walk" Zd7 :=
 D.ok Zb6 λ_ cdv A outer s H E hr=>by
  exact(Zk (Zbj 2 Zb6.nd (Zdn Zf))
  (Zk (Zbj 3 Zb6.nd (Zdn Zf))
  (Zk (ZcV 4 Zb6.nd rfl rfl (Zch T.n_range (Zd 1)) (Zk (ZK 5 Zb6.nd (ZxO T.n_max rfl (Zy Zvl (Zd 4) Zh) Zh))
  (Zk (ZK 6 Zb6.nd (ZxP T.n_min rfl (Zy Za5 (Zd 4) Zh) (Zy Zvl (Zd 1) Zh)))
  (Zk (ZK 7 Zb6.nd (ZgA (cEq hr) (Zl ZQ hr (Zb (Zy Za5 (Zd 0) (Zy Zcu Zh (Zd 4))) (Zb Zh (Zb Zh Zf)))) Zh))
  (Zk (Zex 2 (Zah T.n_tuple (ZaT (Zos T.n_sorted T.n_set rfl (ZaT (Zs6 (ZaT (Zdn (Zb (Zd 5) Zf))) (ZaT (ZxQ (ZaT (Zdn (Zb (Zd 4) Zf))) (ZuJ T.n_int (Zd 7))))))))))
  (Zn (Zex 3 (Za7 (Zb (Zd 6) Zf)))))))))
  (Zn (Zw (Za7 (Zb (Zah T.n_tuple (Zp 2)) (Zb (Zah T.n_tuple (Zp 3)) Zf))))))))
abbrev ZgX:List Str:=["_law_script","_law_at","_law_cell_here","_law_many","_law_deeds","_law_k","_law_looks","_law_seed","_law_most","_law_begin","_law_goal"]
theorem Z7:Zr ZgX ["_law_script","_law_at"] (Ze ZeY):=scM
theorem ZnJ(T:Txt K mg)(ZaJ:Callee P w K mg base k "_law_cell" Z3)(ZeZ:Callee P w K mg base k "_law_crowd" Zb3)(ZQ:Callee P w K mg base k "_law_mix" ZL)(ZhI:Callee P w K mg base k "_law_deed" Zd6)(ZhJ:Callee P w K mg base k "_law_walk" Zd7)(D:Def K mg "_law_works" ZeY ["_law_script","_law_at"]):Callee P w K mg base (k+1) "_law_works" Zbs :=
 D.ok Z7 λ_ cdv A outer s H E hr=>by
  exact(Zk (ZK 2 Z7.nd (Zl ZaJ hr (Zb (Zd 0) (Zb (Zd 1) Zf))))
  (Zk (ZK 3 Z7.nd (Zy Za5 Zh (Zl ZQ hr (Zb (Zd 2) (Zb Zh (Zb Zh Zf))))))
  (Zk (ZaU (Zag cGt (Zbb T.n_len (Zp 0)) Zh) (Zn (ZK 3 Z7.nd (Zy Za5 Zh (Zl ZQ hr (Zb (Zd 2) (Zb Zh (Zb Zh Zf))))))) Z5)
  (Zk (Zbj 4 Z7.nd (Zdn Zf))
  (Zk (ZcV 5 Z7.nd rfl rfl (Zch T.n_range (Zy Za5 Zh (Zl ZQ hr (Zb (Zd 2) (Zb Zh (Zb Zh Zf)))))) (Zn (Zex 4 (Zl ZhI hr (Zb (Zy Za5 (Zl ZaJ hr (Zb (Zd 0) (Zb (Zy Za5 (Zy Za5 (Zd 1) Zh) (Zd 5)) Zf))) (Zy Zcu Zh (Zd 5))) (Zb (Zd 3) Zf))))))
  (Zk (ZaU (Zag (cEq hr) (Zl ZQ hr (Zb (Zd 2) (Zb Zh (Zb Zh Zf)))) Zh) (Zn (Zbj 4 Z7.nd (Zs6 (ZaT (Znc T.n_list (Zaf (Zl ZhJ hr (Zb (Zl ZaJ hr (Zb (Zd 0) (Zb (Zy Za5 (Zd 1) Zh) Zf))) (Zb (Zd 3) Zf)))))) (ZaT (ZxR (Zp 4) ZdS (ZdR Zh)))))) Z5)
  (Zk (Zbj 6 Z7.nd (Zdn Zf))
  (Zk (ZcV 5 Z7.nd rfl rfl (Zch T.n_range (Zl ZQ hr (Zb (Zd 2) (Zb Zh (Zb Zh Zf))))) (Zk (ZK 7 Z7.nd (Zy Za5 (Zl ZaJ hr (Zb (Zd 0) (Zb (Zy Za5 (Zy Za5 (Zd 1) Zh) (Zd 5)) Zf))) (Zy Zcu Zh (Zd 5))))
  (Zk (ZK 8 Z7.nd (Zy Za5 Zh (Zl ZQ hr (Zb (Zd 7) (Zb Zh (Zb Zh Zf))))))
  (Zn (Zex 6 (Zah T.n_tuple (ZaT (Zaq rfl rfl (N:="_law_state" :: ZgX) (ZJ (sc:=Ze ZeY) (XN:=ZgX)) (Zch T.n_range (Zd 3)) (λ_ _ _ _ _=>ZaW) (λ_ _ _ _ _=>(Zl ZQ hr (Zb (Zy Za5 (Zd 8) (Zy Zcu (Zy Zcu Zh (Zd 0)) (Zd 0))) (Zb Zh (Zb (Zd 9) Zf)))))))))))))
  (Zk (ZK 9 Z7.nd (Zl ZeZ hr (Zb (Zl ZaJ hr (Zb (Zd 0) (Zb (Zy Za5 (Zd 1) Zh) Zf))) (Zb (Zd 3) (Zb Zh Zf)))))
  (Zk (ZaU (Zag (cEq hr) (Zl ZQ hr (Zb (Zd 2) (Zb Zh (Zb Zh Zf)))) Zh) (Zn (ZK 9 Z7.nd (ZkO T.n_tuple T.n_range rfl (Zd 3)))) Z5)
  (Zk (ZK 10 Z7.nd (Zl ZeZ hr (Zb (Zl ZaJ hr (Zb (Zd 0) (Zb (Zy Za5 (Zd 1) Zh) Zf))) (Zb (Zd 3) (Zb Zh Zf)))))
  (Zn (Zw (Za7 (Zb (Zd 3) (Zb (Zah T.n_tuple (Zp 4)) (Zb (Zah T.n_tuple (Zp 6)) (Zb (Zd 9) (Zb (Zd 10) Zf)))))))))))))))))))
abbrev Zc7:List Str:=["_law_works_here","_law_cell_here","_law_deeds","_law_looks"]
theorem Zfg:Zr Zc7 ["_law_works_here","_law_cell_here"] (Ze ZcZ):=scM
theorem Zmy(T:Txt K mg)(ZQ:Callee P w K mg base k "_law_mix" ZL)(D:Def K mg "_law_prices" ZcZ ["_law_works_here","_law_cell_here"]):Callee P w K mg base (k+1) "_law_prices" Zef :=
 D.ok Zfg λ_ cdv A outer s H E hr=>by
  exact(Zk (ZK 2 Zfg.nd (Zah T.n_tuple (ZaT (Zaq rfl rfl (N:="_law_k" :: Zc7) (ZJ (sc:=Ze ZcZ) (XN:=Zc7)) (Zch T.n_range (Zbb T.n_len (Zaf (ZF (Zp 0) Zh)))) (λ_ _ _ _ _=>ZaW) (λ_ _ _ _ _=>(Zy Za5 Zh (Zl ZQ hr (Zb (Zy Za5 (Zd 2) (Zy Zcu Zh (Zd 0))) (Zb Zh (Zb Zh Zf))))))))))
  (Zk (ZK 3 Zfg.nd (Zah T.n_tuple (ZaT (Zaq rfl rfl (N:="_law_k" :: Zc7) (ZJ (sc:=Ze ZcZ) (XN:=Zc7)) (Zch T.n_range (Zbb T.n_len (Zaf (ZF (Zp 0) Zh)))) (λ_ _ _ _ _=>ZaW) (λ_ _ _ _ _=>(Zy Za5 Zh (Zl ZQ hr (Zb (Zy Za5 (Zy Za5 (Zd 2) (Zy Zcu Zh (Zd 0))) Zh) (Zb Zh (Zb Zh Zf))))))))))
  (Zn (Zw (Za7 (Zb (Zd 2) (Zb (Zd 3) Zf)))))))
theorem ZnK:Zr ["thing","least","most"] ["thing","least","most"] (Ze ZgG):=scM
theorem ZnL(T:Txt K mg)(D:Def K mg "is_number" ZgG ["thing","least","most"]):Callee P w K mg base (k+1) "is_number" ZaC :=
 D.ok ZnK λ_ cdv A outer s H E hr=>by
  exact(Zk (ZaU (Zmx (ZlI (Zb2 (Zqw T.n_isinstance T.n_bool (Zd 0))) (Zji (Zcx (Zb2 (ZrU T.n_isinstance T.n_int (Zd 0))))))) (Zn (Zw Zb0)) Z5)
  (Zn (Zw (Zoo cLe cLe (Zd 1) (Zd 0) (Zd 2)))))
theorem Zeh:Zr ["thing","many","least","number"] ["thing","many"] (Ze ZgH):=scM
theorem ZnM(T:Txt K mg)(ZaE:Callee P w K mg base k "is_number" ZaC)(D:Def K mg "is_rising" ZgH ["thing","many"]):Callee P w K mg base (k+1) "is_rising" Zai :=
 D.ok Zeh λ_ cdv A outer s H E hr=>by
  exact(Zk (ZaU (Zcx (Zb2 (Zjj T.n_isinstance T.n_tuple (Zd 0)))) (Zn (Zw Zb0)) Z5)
  (Zk (ZK 2 Zeh.nd Zh)
  (Zk (ZcV 3 Zeh.nd rfl rfl (Zac (Zd 0)) (Zk (ZaU (Zcx (Zb2 (Zl ZaE hr (Zb (Zd 3) (Zb (Zd 2) (Zb (Zy Zvl (Zd 1) Zh) Zf)))))) (Zn (Zw Zb0)) Z5)
  (Zn (ZK 2 Zeh.nd (Zy Za5 (Zd 3) Zh)))))
  (Zn (Zw Zb0)))))
theorem ZoA:Zr ["thing","many"] ["thing","many"] (Ze Zhz):=scM
theorem ZoB(T:Txt K mg)(ZaF:Callee P w K mg base k "is_rising" Zai)(D:Def K mg "is_crowd" Zhz ["thing","many"]):Callee P w K mg base (k+1) "is_crowd" Zd5 :=
 D.ok ZoA λ_ cdv A outer s H E hr=>by exact(Zn (Zw (ZfL (Zl ZaF hr (Zb (Zd 0) (Zb (Zd 1) Zf))) (ZeH (ZgA cGt (Zbb T.n_len (Zp 0)) Zh)))))
theorem ZrX:Zr ["thing","least","most"] ["thing","least","most"] (Ze Zjt):=scM
theorem ZrY(T:Txt K mg)(D:Def K mg "is_row" Zjt ["thing","least","most"]):Callee P w K mg base (k+1) "is_row" Zaw :=
 D.ok ZrX λ_ cdv A outer s H E hr=>by exact(Zn (Zw (ZfL (Zjj T.n_isinstance T.n_tuple (Zd 0)) (ZeH (Zoo cLe cLe (Zd 1) (Zbb T.n_len (Zp 0)) (Zd 2))))))
theorem ZqA:Zr ["thing","many"] ["thing","many"] (Ze Zge):=scM
theorem ZqB(T:Txt K mg)(Z4:Callee P w K mg base k "is_row" Zaw)(ZaF:Callee P w K mg base k "is_rising" Zai)(D:Def K mg "is_deed" Zge ["thing","many"]):Callee P w K mg base (k+1) "is_deed" ZcM :=
 D.ok ZqA λ_ cdv A outer s H E hr=>by exact(Zn (Zw (ZfL (Zl Z4 hr (Zb (Zd 0) (Zb (Zd 1) (Zb (Zd 1) Zf)))) (ZeH (ZgB T.n_all rfl (ZaT (Zaq rfl rfl (N:=["crowd","thing","many"]) (ZJ (sc:=Ze Zge) (XN:=["thing","many"])) (Zac (Zd 0)) (λ_ _ _ _ _=>ZaW) (λ_ _ _ _ _=>(Zl ZaF hr (Zb (Zd 0) (Zb (Zd 2) Zf)))))))))))
theorem ZnN:Zr ["thing","many"] ["thing","many"] (Ze ZeT):=scM
theorem ZnO(T:Txt K mg)(Z4:Callee P w K mg base k "is_row" Zaw)(Ziq:Callee P w K mg base k "is_deed" ZcM)(D:Def K mg "are_deeds" ZeT ["thing","many"]):Callee P w K mg base (k+1) "are_deeds" Zdp :=
 D.ok ZnN λ_ cdv A outer s H E hr=>by exact(Zn (Zw (ZfL (Zl Z4 hr (Zb (Zd 0) (Zb Zh (Zb (Zgu T.c_MOST_DEEDS) Zf)))) (ZeH (ZgB T.n_all rfl (ZaT (Zaq rfl rfl (N:=["deed","thing","many"]) (ZJ (sc:=Ze ZeT) (XN:=["thing","many"])) (Zac (Zd 0)) (λ_ _ _ _ _=>ZaW) (λ_ _ _ _ _=>(Zl Ziq hr (Zb (Zd 0) (Zb (Zd 2) Zf)))))))))))
theorem ZqC:Zr ["thing","many"] ["thing","many"] (Ze Zgf):=scM
theorem ZqD(T:Txt K mg)(Z4:Callee P w K mg base k "is_row" Zaw)(ZaE:Callee P w K mg base k "is_number" ZaC)(D:Def K mg "is_look" Zgf ["thing","many"]):Callee P w K mg base (k+1) "is_look" ZcN :=
 D.ok ZqC λ_ cdv A outer s H E hr=>by exact(Zn (Zw (ZfL (Zl Z4 hr (Zb (Zd 0) (Zb (Zd 1) (Zb (Zd 1) Zf)))) (ZeH (ZgB T.n_all rfl (ZaT (Zaq rfl rfl (N:=["told","thing","many"]) (ZJ (sc:=Ze Zgf) (XN:=["thing","many"])) (Zac (Zd 0)) (λ_ _ _ _ _=>ZaW) (λ_ _ _ _ _=>(Zl ZaE hr (Zb (Zd 0) (Zb Zh (Zb (Zgu T.c_MOST_SEEN) Zf))))))))))))
theorem ZnP:Zr ["thing","many"] ["thing","many"] (Ze ZeU):=scM
theorem ZnQ(T:Txt K mg)(Z4:Callee P w K mg base k "is_row" Zaw)(Zir:Callee P w K mg base k "is_look" ZcN)(D:Def K mg "are_looks" ZeU ["thing","many"]):Callee P w K mg base (k+1) "are_looks" Zdq :=
 D.ok ZnP λ_ cdv A outer s H E hr=>by exact(Zn (Zw (ZfL (Zl Z4 hr (Zb (Zd 0) (Zb Zh (Zb (Zgu T.c_MOST_LOOKS) Zf)))) (ZeH (ZgB T.n_all rfl (ZaT (Zaq rfl rfl (N:=["look","thing","many"]) (ZJ (sc:=Ze ZeU) (XN:=["thing","many"])) (Zac (Zd 0)) (λ_ _ _ _ _=>ZaW) (λ_ _ _ _ _=>(Zl Zir hr (Zb (Zd 0) (Zb (Zd 2) Zf)))))))))))
theorem Zi9:Zr ["thing","many"] ["thing"] (Ze ZgI):=scM
theorem ZnR(T:Txt K mg)(ZhK:Callee P w K mg base k "is_crowd" Zd5)(ZaF:Callee P w K mg base k "is_rising" Zai)(Z4:Callee P w K mg base k "is_row" Zaw)(ZaE:Callee P w K mg base k "is_number" ZaC)(ZgM:Callee P w K mg base k "are_deeds" Zdp)(ZgN:Callee P w K mg base k "are_looks" Zdq)(D:Def K mg "are_works" ZgI ["thing"]):Callee P w K mg base (k+1) "are_works" Zdr :=
 D.ok Zi9 λ_ cdv A outer s H E hr=>by
  exact(Zk (ZaU (Zmx (ZlI (Zcx (Zb2 (Zl Z4 hr (Zb (Zd 0) (Zb Zh (Zb Zh Zf)))))) (Zji (Zcx (Zb2 (Zl ZaE hr (Zb (ZF (Zp 0) Zh) (Zb Zh (Zb (Zgu T.c_MOST_STATES) Zf))))))))) (Zn (Zw Zb0)) Z5)
  (Zk (ZK 1 Zi9.nd (ZF (Zp 0) Zh))
  (Zk (ZaU (Zmx (ZlI (Zcx (Zb2 (Zl ZgM hr (Zb (ZF (Zp 0) Zh) (Zb (Zd 1) Zf))))) (Zji (Zcx (Zb2 (Zl ZgN hr (Zb (ZF (Zp 0) Zh) (Zb (Zd 1) Zf)))))))) (Zn (Zw Zb0)) Z5)
  (Zn (Zw (ZfL (Zl ZhK hr (Zb (ZF (Zp 0) Zh) (Zb (Zd 1) Zf))) (ZeH (Zl ZaF hr (Zb (ZF (Zp 0) Zh) (Zb (Zd 1) Zf))))))))))
theorem ZqE:Zr ["works"] ["works"] (Ze Zio):=scM
theorem ZqF(T:Txt K mg)(ZgO:Callee P w K mg base k "are_works" Zdr)(D:Def K mg "checked" Zio ["works"]):Callee P w K mg base (k+1) "checked" Zbr :=
 D.ok ZqE λ_ cdv A outer s H E hr=>by
  exact(Zk (ZaU (Zcx (Zb2 (Zl ZgO hr (Zb (Zd 0) Zf)))) (Zn Zij) Z5)
  (Zn (Zw (Zd 0))))
theorem Zk9:Zr ["thing","many"] ["thing","many"] (Ze Zdi):=scM
theorem Zla(T:Txt K mg)(Z4:Callee P w K mg base k "is_row" Zaw)(ZaE:Callee P w K mg base k "is_number" ZaC)(D:Def K mg "is_price_row" Zdi ["thing","many"]):Callee P w K mg base (k+1) "is_price_row" ZbP :=
 D.ok Zk9 λ_ cdv A outer s H E hr=>by exact(Zn (Zw (ZfL (Zl Z4 hr (Zb (Zd 0) (Zb (Zd 1) (Zb (Zd 1) Zf)))) (ZeH (ZgB T.n_all rfl (ZaT (Zaq rfl rfl (N:=["price","thing","many"]) (ZJ (sc:=Ze Zdi) (XN:=["thing","many"])) (Zac (Zd 0)) (λ_ _ _ _ _=>ZaW) (λ_ _ _ _ _=>(Zl ZaE hr (Zb (Zd 0) (Zb (Zgu T.c_LEAST_PRICE) (Zb (Zgu T.c_MOST_PRICE) Zf))))))))))))
theorem ZoC:Zr ["works"] ["works"] (Ze ZhA):=scM
theorem ZoD(T:Txt K mg)(D:Def K mg "deeds_of" ZhA ["works"]):Callee P w K mg base (k+1) "deeds_of" Zbc :=
 D.ok ZoC λ_ cdv A outer s H E hr=>by exact(Zn (Zw (ZF (Zp 0) Zh)))
theorem ZoE:Zr ["works"] ["works"] (Ze ZhB):=scM
theorem ZoF(T:Txt K mg)(D:Def K mg "looks_of" ZhB ["works"]):Callee P w K mg base (k+1) "looks_of" Zbd :=
 D.ok ZoE λ_ cdv A outer s H E hr=>by exact(Zn (Zw (ZF (Zp 0) Zh)))
theorem Zjx:Zr ["works","prices"] ["works","prices"] (Ze Zd0):=scM
theorem Zjy(T:Txt K mg)(Z4:Callee P w K mg base k "is_row" Zaw)(Zdk:Callee P w K mg base k "is_price_row" ZbP)(Za2:Callee P w K mg base k "deeds_of" Zbc)(Za3:Callee P w K mg base k "looks_of" Zbd)(D:Def K mg "checked_prices" Zd0 ["works","prices"]):Callee P w K mg base (k+1) "checked_prices" Zcv :=
 D.ok Zjx λ_ cdv A outer s H E hr=>by
  exact(Zk (ZaU (Zcx (Zb2 (Zl Z4 hr (Zb (Zd 1) (Zb Zh (Zb Zh Zf)))))) (Zn Zij) Z5)
  (Zk (ZaU (Zmx (ZlI (Zcx (Zb2 (Zl Zdk hr (Zb (ZF (Zp 1) Zh) (Zb (Zbb T.n_len (Zaf (Zl Za2 hr (Zb (Zd 0) Zf)))) Zf))))) (Zji (Zcx (Zb2 (Zl Zdk hr (Zb (ZF (Zp 1) Zh) (Zb (Zbb T.n_len (Zaf (Zl Za3 hr (Zb (Zd 0) Zf)))) Zf)))))))) (Zn Zij) Z5)
  (Zn (Zw (Zd 1)))))
theorem Zja:Zr ["rows"] ["rows"] (Ze ZcA):=scM
theorem Zmz(T:Txt K mg)(Fn:Fun K "crowds_in" "crowds_in" ZcA f fd)(hm:mg "crowds_in" = Z (.ref f))(hb:Binds K fd ["rows"] []):ZeB P w K mg base (k+1) "crowds_in" ZX :=
 Zsh Fn Zja hm hb rfl (λr b h=>ZvW _ _ _ r b h) λcdv A outer s H E hr=>by exact(Zaq rfl rfl (N:=["row","rows"]) (ZJ (sc:=Ze ZcA) (XN:=["rows"])) (Zac (Zd 0)) (λ_ _ _ _ _=>ZaW) (λ_ _ _ _ _=>(ZF (Zp 0) Zh)))
theorem ZnS(T:Txt K mg)(D:Def K mg "crowds_in" ZcA ["rows"]):Callee P w K mg base (k+1) "crowds_in" ZX :=
 D.ok Zja λ_ cdv A outer s H E hr=>by exact(Zn (Zw (Zgd (Zaq rfl rfl (N:=["row","rows"]) (ZJ (sc:=Ze ZcA) (XN:=["rows"])) (Zac (Zd 0)) (λ_ _ _ _ _=>ZaW) (λ_ _ _ _ _=>(ZF (Zp 0) Zh))))))
theorem Zgc:Zr ["rows","costs","known"] ["rows","costs"] (Ze ZcO):=scM
theorem ZkF(T:Txt K mg)(ZbL:Callee P w K mg base k "crowds_in" ZX)(D:Def K mg "cost_at_worst" ZcO ["rows","costs"]):Callee P w K mg base (k+1) "cost_at_worst" ZH :=
 D.ok Zgc λ_ cdv A outer s H E hr=>by
  have hu:=Zej hr;exact(Zk (ZeJ 2 Zgc.nd rfl rfl (N:=["part","rows","costs","known"]) (ZJ (sc:=Ze ZcO) (XN:=["rows","costs","known"])) (Zac (Zl ZbL hr (Zb (Zd 0) Zf))) (λ_ _ _ _ _=>(Zey (ZxV hu (Zd 0) (Zp 2)))) (λ_ _ _ _ _=>(Zez hu (Zp 2) (Zd 0))))
  (Zn (Zw (ZrT (Zag (cEq hr) (Zbb T.n_len (Zp 2)) (Zbb T.n_len (Zp 0))) (Zwq T.n_max rfl (Zp 2)) Zbx))))
theorem Zjz:Zr ["way","depths","most"] ["way","depths"] (Ze ZfA):=scM
theorem ZoG(T:Txt K mg)(Z1:Callee P w K mg base k "cost_at_worst" ZH)(D:Def K mg "deeds_by" ZfA ["way","depths"]):Callee P w K mg base (k+1) "deeds_by" Zd8 :=
 D.ok Zjz λ_ cdv A outer s H E hr=>by
  exact(Zk (ZK 2 Zjz.nd (Zl Z1 hr (Zb (ZF (Zp 0) Zh) (Zb (Zd 1) Zf))))
  (Zn (Zw (ZrT (Zag ZlC (Zd 2) Zbx) Zbx (Zy Za5 (Zd 2) Zh)))))
theorem ZqG:Zr ["rows","steps"] ["rows","steps"] (Ze Zgh):=scM
theorem ZqH(T:Txt K mg)(D:Def K mg "plan_of" Zgh ["rows","steps"]):Callee P w K mg base (k+1) "plan_of" Zci :=
 D.ok ZqG λ_ cdv A outer s H E hr=>by have hu:=Zej hr;exact(Zn (Zw (Zah T.n_tuple (ZaT (Zor rfl rfl (N:=["seen","part","rows","steps"]) (ZJ (sc:=Ze Zgh) (XN:=["rows","steps"])) (Zac (Zd 0)) (λ_ _ _ _ _=>ZaW) (λ_ _ _ _ _=>(Za7 (Zb (Zd 0) (Zb (Zez hu (Zp 3) (Zd 1)) Zf)))))))))
theorem ZqI:Zr ["way","steps"] ["way","steps"] (Ze Zgi):=scM
theorem ZqJ(T:Txt K mg)(ZdO:Callee P w K mg base k "plan_of" Zci)(D:Def K mg "do_step" Zgi ["way","steps"]):Callee P w K mg base (k+1) "do_step" ZeQ :=
 D.ok ZqI λ_ cdv A outer s H E hr=>by exact(Zn (Zw (Za7 (Zb Zon (Zb (ZF (Zp 0) Zh) (Zb (Zl ZdO hr (Zb (ZF (Zp 0) Zh) (Zb (Zd 1) Zf))) Zf))))))
theorem ZjA:Zr ["way","costs","most"] ["way","costs"] (Ze ZfB):=scM
theorem ZoH(T:Txt K mg)(Z1:Callee P w K mg base k "cost_at_worst" ZH)(D:Def K mg "price_by" ZfB ["way","costs"]):Callee P w K mg base (k+1) "price_by" Zd9 :=
 D.ok ZjA λ_ cdv A outer s H E hr=>by
  exact(Zk (ZK 2 ZjA.nd (Zl Z1 hr (Zb (ZF (Zp 0) Zh) (Zb (Zd 1) Zf))))
  (Zn (Zw (ZrT (Zag ZlC (Zd 2) Zbx) Zbx (Zy Za5 (Zd 2) (ZF (Zaf (ZF (Zp 0) Zh)) Zh))))))
theorem ZqK:Zr ["works","looks","state"] ["works","looks","state"] (Ze Zgg):=scM
theorem ZqL(T:Txt K mg)(Za3:Callee P w K mg base k "looks_of" Zbd)(D:Def K mg "seen_in" Zgg ["works","looks","state"]):Callee P w K mg base (k+1) "seen_in" ZeL :=
 D.ok ZqK λ_ cdv A outer s H E hr=>by exact(Zn (Zw (Zah T.n_tuple (ZaT (Zaq rfl rfl (N:=["look","works","looks","state"]) (ZJ (sc:=Ze Zgg) (XN:=["works","looks","state"])) (Zac (Zd 1)) (λ_ _ _ _ _=>ZaW) (λ_ _ _ _ _=>(ZF (Zaf (ZF (Zaf (Zl Za3 hr (Zb (Zd 1) Zf))) (Zd 0))) (Zd 3))))))))
abbrev ZjK:List Str:=["works","looks","crowd","found","state"]
theorem Zis:Zr ZjK ["works","looks","crowd"] (Ze Zhi):=scM
theorem ZrZ(T:Txt K mg)(Zit:Callee P w K mg base k "seen_in" ZeL)(D:Def K mg "parted" Zhi ["works","looks","crowd"]):Callee P w K mg base (k+1) "parted" Zaj :=
 D.ok Zis λ_ cdv A outer s H E hr=>by
  have hu:=Zej hr;exact(Zk (Zbj 3 Zis.nd ZxS)
  (Zk (ZcV 4 Zis.nd rfl rfl (Zac (Zd 2)) (Zn (ZuL hu 3 (Zl Zit hr (Zb (Zd 0) (Zb (Zd 1) (Zb (Zd 4) Zf)))) (Zd 4) ⟨rfl,rfl,rfl,rfl⟩)))
  (Zn (Zw (Zgd (Zaq rfl rfl (N:="seen" :: ZjK) (ZJ (sc:=Ze Zhi) (XN:=ZjK)) (Zac (Zgd (Zjk T.n_sorted rfl (Zp 3)))) (λ_ _ _ _ _=>ZaW) (λ_ _ _ _ _=>(Za7 (Zb (Zd 0) (Zb (Zah T.n_tuple (ZxT hu 4 (Zd 0))) Zf))))))))))
theorem Zhj:Zr ["works","crowd","deed","leads"] ["works","crowd","deed"] (Ze ZdN):=scM
theorem ZlO(T:Txt K mg)(Za2:Callee P w K mg base k "deeds_of" Zbc)(D:Def K mg "can_be_done" ZdN ["works","crowd","deed"]):Callee P w K mg base (k+1) "can_be_done" Zcy :=
 D.ok Zhj λ_ cdv A outer s H E hr=>by
  exact(Zk (ZK 3 Zhj.nd (ZF (Zaf (Zl Za2 hr (Zb (Zd 0) Zf))) (Zd 2)))
  (Zn (Zw (ZgB T.n_all rfl (ZaT (Zaq rfl rfl (N:=["state","works","crowd","deed","leads"]) (ZJ (sc:=Ze ZdN) (XN:=["works","crowd","deed","leads"])) (Zac (Zd 1)) (λ_ _ _ _ _=>ZaW) (λ_ _ _ _ _=>(ZgA cGt (Zbb T.n_len (Zaf (ZF (Zp 4) (Zd 0)))) Zh))))))))
theorem ZmA:Zr ["works","crowd"] ["works","crowd"] (Ze Zeg):=scM
theorem ZmB(T:Txt K mg)(Zfh:Callee P w K mg base k "can_be_done" Zcy)(Za2:Callee P w K mg base k "deeds_of" Zbc)(D:Def K mg "deeds_with" Zeg ["works","crowd"]):Callee P w K mg base (k+1) "deeds_with" ZcW :=
 D.ok ZmA λ_ cdv A outer s H E hr=>by exact(Zn (Zw (Zgd (Zaq rfl rfl (N:=["deed","works","crowd"]) (ZJ (sc:=Ze Zeg) (XN:=["works","crowd"])) (Zch T.n_range (Zbb T.n_len (Zaf (Zl Za2 hr (Zb (Zd 0) Zf))))) (λ_ _ _ _ _=>(Zey (Zb2 (Zl Zfh hr (Zb (Zd 1) (Zb (Zd 2) (Zb (Zd 0) Zf))))))) (λ_ _ _ _ _=>(Zd 0))))))
theorem Ze0:Zr ["works","crowd","deed","leads","found","state","target"] ["works","crowd","deed"] (Ze Zju):=scM
theorem Zr0(T:Txt K mg)(Za2:Callee P w K mg base k "deeds_of" Zbc)(D:Def K mg "led_to" Zju ["works","crowd","deed"]):Callee P w K mg base (k+1) "led_to" ZeA :=
 D.ok Ze0 λ_ cdv A outer s H E hr=>by
  have hu:=Zej hr;exact(Zk (ZK 3 Ze0.nd (ZF (Zaf (Zl Za2 hr (Zb (Zd 0) Zf))) (Zd 2)))
  (Zk (Zbj 4 Ze0.nd Zzx)
  (Zk (ZcV 5 Ze0.nd rfl rfl (Zac (Zd 1)) (Zn (ZcV 6 Ze0.nd rfl rfl (Zac (ZF (Zp 3) (Zd 5))) (Zn (ZgC hu 4 (Zd 6) Zb0)))))
  (Zn (Zw (Zah T.n_tuple (ZaT (Zjk T.n_sorted rfl (Zp 4)))))))))
theorem ZnT:Zr ["works","looks","crowd"] ["works","looks","crowd"] (Ze ZeW):=scM
theorem ZnU(T:Txt K mg)(ZaX:Callee P w K mg base k "parted" Zaj)(ZfZ:Callee P w K mg base k "deeds_with" ZcW)(ZjB:Callee P w K mg base k "led_to" ZeA)(D:Def K mg "ways_with" ZeW ["works","looks","crowd"]):Callee P w K mg base (k+1) "ways_with" Zar :=
 D.ok ZnT λ_ cdv A outer s H E hr=>by exact(Zn (Zw (Zgd (Zaq rfl rfl (N:=["deed","works","looks","crowd"]) (ZJ (sc:=Ze ZeW) (XN:=["works","looks","crowd"])) (Zac (Zl ZfZ hr (Zb (Zd 0) (Zb (Zd 2) Zf)))) (λ_ _ _ _ _=>ZaW) (λ_ _ _ _ _=>(Za7 (Zb (Zd 0) (Zb (Zl ZaX hr (Zb (Zd 1) (Zb (Zd 2) (Zb (Zl ZjB hr (Zb (Zd 1) (Zb (Zd 3) (Zb (Zd 0) Zf)))) Zf)))) Zf))))))))
theorem Zlb:Zr ["works","prices","crowd"] ["works","prices","crowd"] (Ze Zdj):=scM
theorem Zlc(T:Txt K mg)(ZbM:Callee P w K mg base k "ways_with" Zar)(D:Def K mg "deeds_to_buy" Zdj ["works","prices","crowd"]):Callee P w K mg base (k+1) "deeds_to_buy" Zdg :=
 D.ok Zlb λ_ cdv A outer s H E hr=>by exact(Zn (Zw (Zgd (Zor rfl rfl (N:=["deed","rows","works","prices","crowd"]) (ZJ (sc:=Ze Zdj) (XN:=["works","prices","crowd"])) (Zac (Zl ZbM hr (Zb (Zd 0) (Zb (Za7 Zf) (Zb (Zd 2) Zf))))) (λ_ _ _ _ _=>ZaW) (λ_ _ _ _ _=>(Za7 (Zb (Za7 (Zb Zon (Zb (Zd 0) (Zb (ZF (Zaf (ZF (Zp 3) Zh)) (Zd 0)) Zf)))) (Zb (Zd 1) Zf))))))))
abbrev Zcl:List Str:=["works","prices","crowd","found"]
theorem ZgP:Zr Zcl ["works","prices","crowd"] (Ze Zcj):=scM
theorem Zld(T:Txt K mg)(ZaX:Callee P w K mg base k "parted" Zaj)(D:Def K mg "looks_to_buy" Zcj ["works","prices","crowd"]):Callee P w K mg base (k+1) "looks_to_buy" Zdh :=
 D.ok ZgP λ_ cdv A outer s H E hr=>by
  exact(Zk (Zou 3 ZgP.nd rfl rfl (N:="look" :: "price" :: Zcl) (ZJ (sc:=Ze Zcj) (XN:=Zcl)) (Zws T.n_enumerate (ZF (Zp 1) Zh)) (λ_ _ _ _ _=>ZaW) (λ_ _ _ _ _=>(Za7 (Zb (Za7 (Zb Zon (Zb (Zd 0) (Zb (Zd 1) Zf)))) (Zb (Zl ZaX hr (Zb (Zd 2) (Zb (Za7 (Zb (Zd 0) Zf)) (Zb (Zd 4) Zf)))) Zf)))))
  (Zn (ZeI 3 (Zw (Zgd (Zaq rfl rfl (N:="way" :: Zcl) (ZJ (sc:=Ze Zcj) (XN:=Zcl)) (Zac (Zd 3)) (λ_ _ _ _ _=>(Zey (Zag cGt (Zbb T.n_len (Zaf (ZF (Zp 0) Zh))) Zh))) (λ_ _ _ _ _=>(Zd 0))))))))
theorem ZlP:Zr ["works","prices","crowd"] ["works","prices","crowd"] (Ze Zff):=scM
theorem ZlQ(T:Txt K mg)(Ze1:Callee P w K mg base k "deeds_to_buy" Zdg)(Ze2:Callee P w K mg base k "looks_to_buy" Zdh)(D:Def K mg "ways_to_buy" Zff ["works","prices","crowd"]):Callee P w K mg base (k+1) "ways_to_buy" Za4 :=
 D.ok ZlP λ_ cdv A outer s H E hr=>by exact(Zn (Zw (Zgd (Zwt (Zaf (Zl Ze1 hr (Zb (Zd 0) (Zb (Zd 1) (Zb (Zd 2) Zf))))) (Zaf (Zl Ze2 hr (Zb (Zd 0) (Zb (Zd 1) (Zb (Zd 2) Zf)))))))))
abbrev Zc1:List Str:=["ways","costs","cost_by","told"]
theorem Zh8:Zr Zc1 ["ways","costs","cost_by"] (Ze ZcY):=scM
theorem ZmC(T:Txt K mg)(CV:ZcH P w K mg base k ap)(D:Def K mg "least_cost" ZcY ["ways","costs","cost_by"]):Callee P w K mg base (k+1) "least_cost" (Zbf ap) :=
 D.ok Zh8 λ_ cdv A outer s H E hr=>by
  exact(Zk (ZeJ 3 Zh8.nd rfl rfl (N:="way" :: Zc1) (ZJ (sc:=Ze ZcY) (XN:=Zc1)) (Zac (Zd 0)) (λ_ _ _ _ _=>ZaW) (λ_ _ _ _ _=>(Zk8 CV hr 3 (Zb (Zd 0) (Zb (Zd 2) Zf)))))
  (Zn (ZeI 3 (Zw (Zrg T.n_min rfl (ZaT (Zaq rfl rfl (N:="cost" :: Zc1) (ZJ (sc:=Ze ZcY) (XN:=Zc1)) (Zac (Zd 3)) (λ_ _ _ _ _=>(Zey (Zag Zok (Zd 0) Zbx))) (λ_ _ _ _ _=>(Zd 0)))))))))
theorem ZdP:Zr ["reach","costs","cost_by","found","crowd","cost"] ["reach","costs","cost_by"] (Ze ZfX):=scM
theorem Zmq(T:Txt K mg)(Zce:Callee P w K mg base k "least_cost" (Zbf ap))(Fn:Fun K "next_costs" "next_costs" ZfX f fd)(hm:mg "next_costs" = Z (.ref f))(hb:Binds K fd ["reach","costs","cost_by"] []):ZeC P w K mg base (k+1) "next_costs" (Zby ap) :=
 ZsU Fn ZdP hm hb λcdv A outer s H E hr=>by
  have hu:=Zej hr;exact(Zo4 (Zbj 3 ZdP.nd Zod)
  (Zo4 (Zh4 0 (ZcV 4 ZdP.nd rfl rfl (Zh5 0) (Zn (ZaU (Znd hu (Zd 4) (Zp 1)) (Zk (ZK 5 ZdP.nd (Zl Zce hr (Zb (Zez hu (Zp 0) (Zd 4)) (Zb (Zd 1) (Zb (Zd 2) Zf)))))
  (Zn (ZaU (Zag Zok (Zd 5) Zbx) (Zn (ZgC hu 3 (Zd 4) (Zd 5))) Z5))) Z5))))
  (Zxr 3)))
theorem ZqM:Zr ["works"] ["works"] (Ze Zin):=scM
theorem ZqN(T:Txt K mg)(D:Def K mg "goal_of" Zin ["works"]):Callee P w K mg base (k+1) "goal_of" ZeP :=
 D.ok ZqM λ_ cdv A outer s H E hr=>by exact(Zn (Zw (ZF (Zp 0) Zh)))
theorem ZoI:Zr ["works","crowd"] ["works","crowd"] (Ze Zfy):=scM
theorem ZoJ(T:Txt K mg)(Ziu:Callee P w K mg base k "goal_of" ZeP)(D:Def K mg "is_there" Zfy ["works","crowd"]):Callee P w K mg base (k+1) "is_there" ZbY :=
 D.ok ZoI λ_ cdv A outer s H E hr=>by exact(Zn (Zw (ZgB T.n_all rfl (ZaT (Zaq rfl rfl (N:=["state","works","crowd"]) (ZJ (sc:=Ze Zfy) (XN:=["works","crowd"])) (Zac (Zd 1)) (λ_ _ _ _ _=>ZaW) (λ_ _ _ _ _=>(ZxU (Zd 0) (Zaf (Zl Ziu hr (Zb (Zd 1) Zf))))))))))
abbrev ZfF:List Str:=["works","reach","cost_by","costs","cost","found","crowd","offered"]
theorem ZbN:Zr ZfF ["works","reach","cost_by"] (Ze Zc8):=scM
theorem ZoK(T:Txt K mg)(ZhL:Callee P w K mg base k "is_there" ZbY)(Gf_next_costs:ZeC P w K mg base k "next_costs" (Zby ap))(D:Def K mg "costs_of" Zc8 ["works","reach","cost_by"]):Callee P w K mg base (k+1) "costs_of" (ZbH ap) :=
 D.ok ZbN λ_ cdv A outer s H E hr=>by
  have hu:=Zej hr;exact(Zk (Zbj 3 ZbN.nd Zod)
  (Zk (ZK 4 ZbN.nd Zh)
  (Zk (Zh4 1 (ZeJ 5 ZbN.nd rfl rfl (N:=["crowd","works","reach","cost_by","costs","cost","found"," ","offered"]) (ZJ (sc:=Ze Zc8) (XN:=ZfF)) (Zh5 1) (λ_ _ _ _ _=>(Zey (Zb2 (Zl ZhL hr (Zb (Zd 1) (Zb (Zd 0) Zf)))))) (λ_ _ _ _ _=>(Zd 0))))
  (Zk (Zk6 100000 rfl (Zag cGt (Zbb T.n_len (Zp 5)) Zh) (Zk (ZeI 5 (ZcV 6 ZbN.nd rfl rfl (Zac (Zd 5)) (Zn (ZgC hu 3 (Zd 6) (Zd 4)))))
  (Zk (Zbj 7 ZbN.nd (ZuQ Gf_next_costs hr (Zk7 (Zd 1) (Zot (Zp 3) (Zk7 (Zd 2) (Zs7 Zf))))))
  (Zk (ZeI 7 (Zh4 7 (ZK 4 ZbN.nd (Zrg T.n_min rfl (ZaT (Zaq rfl rfl (N:=["crowd","works","reach","cost_by","costs","cost","found"," ","offered"]) (ZJ (sc:=Ze Zc8) (XN:=ZfF)) (Zh5 7) (λ_ _ _ _ _=>ZaW) (λ_ _ _ _ _=>(Zez hu (Zp 8) (Zd 0)))))))))
  (Zn (ZeI 7 (Zh4 7 (ZeJ 5 ZbN.nd rfl rfl (N:=["crowd","works","reach","cost_by","costs","cost","found"," ","offered"]) (ZJ (sc:=Ze Zc8) (XN:=ZfF)) (Zh5 7) (λ_ _ _ _ _=>(Zey (Zag (cEq hr) (Zez hu (Zp 8) (Zd 0)) (Zd 5)))) (λ_ _ _ _ _=>(Zd 0))))))))))
  (Zn (ZeI 3 (Zw (Zd 3))))))))
theorem Zb7:Zr ["crowds","ways_for","reach","waiting","crowd","way"] ["crowds","ways_for"] (Ze ZeV):=scM
theorem Zle(T:Txt K mg)(ZbL:Callee P w K mg base k "crowds_in" ZX)(ZgQ:ZeB P w K mg base k "crowds_in" ZX)(CV:ZcH P w K mg base k ap)(D:Def K mg "reached_from" ZeV ["crowds","ways_for"]):Callee P w K mg base (k+1) "reached_from" (Zba ap) :=
 D.ok Zb7 λ_ cdv A outer s H E hr=>by
  have hu:=Zej hr;exact(Zk (Zbj 2 Zb7.nd Zod)
  (Zk (Zbj 3 Zb7.nd (Znc T.n_list (Zp 0)))
  (Zk (Zk6 100000 rfl (Zag cGt (Zbb T.n_len (Zp 3)) Zh) (Zk (ZxW 4 3 Zb7.nd)
  (Zn (ZaU (Znd hu (Zd 4) (Zp 2)) (Zk (ZgC hu 2 (Zd 4) (Zk8 CV hr 1 (Zb (Zd 4) Zf)))
  (Zn (ZcV 5 Zb7.nd rfl rfl (Zac (Zez hu (Zp 2) (Zd 4))) (Zn (Zs8 3 (ZaT (ZuN ZgQ hr (Zb (ZF (Zp 5) Zh) Zf)))))))) Z5))))
  (Zn (ZeI 2 (Zw (Zd 2)))))))
theorem ZoL:Zr ["works"] ["works"] (Ze ZhC):=scM
theorem ZoM(T:Txt K mg)(D:Def K mg "begin_of" ZhC ["works"]):Callee P w K mg base (k+1) "begin_of" Za1 :=
 D.ok ZoL λ_ cdv A outer s H E hr=>by exact(Zn (Zw (ZF (Zp 0) Zh)))
theorem Zjf:Zr ["works","prices"] ["works","prices"] (Ze ZI):=scM
theorem ZyC:Zom ["works","prices"] (Ze ZI) (Zf6 ZI) ["works","prices"] [0,1]=ZGH:=by decide +kernel
theorem Zjg(T:Txt K mg)(ZbQ:Callee P w K mg base k "reached_from" (Zba ap))(ZaK:Callee P w K mg base k "begin_of" Za1)(ZcC:Callee P w K mg base k "ways_to_buy" Za4)(hc:ZCM K c Tl=ZGH)(ht:(Tl,("reach_by_buying.<locals>.<lambda>":Str))∈FX.tl)(hq:∀q,(Tl,q)∈FX.tl->q=("reach_by_buying.<locals>.<lambda>":Str))(bm:BMod base mg)(good:∀F p cs,Clo K F p (Zsb ZI) (ZmX ZI) (Zf6 ZI) ["works","prices"] cs->FX.fv 6 cs F p)(Fn:ZpI K "reach_by_buying" "reach_by_buying" ZI f fd c)(hm:mg "reach_by_buying" = Z (.ref f))(hb:Binds K fd ["works","prices"] []):Callee P w K mg base (k+1) "reach_by_buying" (Zbk ap) :=
 Zmc Fn Zjf hm hb λA outer s H E hr=>by exact(Zn (Zw (ZlK ZbQ hr (Zqt ZyC hc ht hq bm good) (Zgd (Zdn (Zb (Zl ZaK hr (Zb (Zd 0) Zf)) Zf))))))
theorem ZjC:Zr ["works","prices","costs"] ["works","prices"] (Ze ZhE):=scM
theorem ZoN(T:Txt K mg)(Zbg:Callee P w K mg base k "checked" Zbr)(Zd1:Callee P w K mg base k "checked_prices" Zcv)(Zc9:Callee P w K mg base k "costs_of" (ZbH ap))(ZdA:Callee P w K mg base k "reach_by_buying" (Zbk ap))(ZaK:Callee P w K mg base k "begin_of" Za1)(Vff_price_by:GFn mg "price_by" 5)(D:Def K mg "cheapest" ZhE ["works","prices"]):Callee P w K mg base (k+1) "cheapest" (Zcq ap) :=
 D.ok ZjC λ_ cdv A outer s H E hr=>by
  have hu:=Zej hr;exact(Zk (Zgv (Zl Zbg hr (Zb (Zd 0) Zf)))
  (Zk (Zgv (Zl Zd1 hr (Zb (Zd 0) (Zb (Zd 1) Zf))))
  (Zk (ZK 2 ZjC.nd (Zl Zc9 hr (Zb (Zd 0) (Zb (Zl ZdA hr (Zb (Zd 0) (Zb (Zd 1) Zf))) (Zb (ZlJ Vff_price_by) Zf)))))
  (Zn (Zw (ZuO hu (Zp 2) (Zl ZaK hr (Zb (Zd 0) Zf)) ⟨rfl,rfl,rfl,rfl⟩))))))
theorem ZkG:Zr ["works","looks"] ["works","looks"] (Ze Zep):=scM
theorem ZkH(T:Txt K mg)(ZaF:Callee P w K mg base k "is_rising" Zai)(Za3:Callee P w K mg base k "looks_of" Zbd)(D:Def K mg "checked_looks" Zep ["works","looks"]):Callee P w K mg base (k+1) "checked_looks" Zbh :=
 D.ok ZkG λ_ cdv A outer s H E hr=>by
  exact(Zk (ZaU (Zcx (Zb2 (Zl ZaF hr (Zb (Zd 1) (Zb (Zbb T.n_len (Zaf (Zl Za3 hr (Zb (Zd 0) Zf)))) Zf))))) (Zn Zij) Z5)
  (Zn (Zw (Zd 1))))
theorem ZnV:Zr ["works","coming"] ["works","coming"] (Ze ZgK):=scM
theorem ZnW(T:Txt K mg)(Zc9:Callee P w K mg base k "costs_of" (ZbH ap))(Vff_deeds_by:GFn mg "deeds_by" 0)(D:Def K mg "depths_of" ZgK ["works","coming"]):Callee P w K mg base (k+1) "depths_of" (ZbJ ap) :=
 D.ok ZnV λ_ cdv A outer s H E hr=>by exact(Zn (Zw (Zl Zc9 hr (Zb (Zd 0) (Zb (Zd 1) (Zb (ZlJ Vff_deeds_by) Zf))))))
theorem ZlR:Zr ["works","looks","crowd"] ["works","looks","crowd"] (Ze ZZ):=scM
theorem Zzl:Zom ["works","looks","crowd"] (Ze ZZ) (Zf6 ZZ) ["works","looks"] [0,1]=ZGH:=by decide +kernel
theorem ZlS(T:Txt K mg)(ZbQ:Callee P w K mg base k "reached_from" (Zba ap))(ZbL:Callee P w K mg base k "crowds_in" ZX)(ZaX:Callee P w K mg base k "parted" Zaj)(ZbM:Callee P w K mg base k "ways_with" Zar)(hc:ZCM K c Tl=ZGH)(ht:(Tl,("coming_from.<locals>.<lambda>":Str))∈FX.tl)(hq:∀q,(Tl,q)∈FX.tl->q=("coming_from.<locals>.<lambda>":Str))(bm:BMod base mg)(good:∀F p cs,Clo K F p (Zsb ZZ) (ZmX ZZ) (Zf6 ZZ) ["works","looks"] cs->FX.fv 1 cs F p)(Fn:ZpI K "coming_from" "coming_from" ZZ f fd c)(hm:mg "coming_from" = Z (.ref f))(hb:Binds K fd ["works","looks","crowd"] []):Callee P w K mg base (k+1) "coming_from" (ZbC ap) :=
 Zmc Fn ZlR hm hb λA outer s H E hr=>by exact(Zn (Zw (ZlK ZbQ hr (Zqt Zzl hc ht hq bm good) (Zl ZbL hr (Zb (Zl ZaX hr (Zb (Zd 0) (Zb (Zd 1) (Zb (Zd 2) Zf)))) Zf)))))
theorem Ziv:Zr ["works","looks","begin","depths"] ["works","looks"] (Ze Zjv):=scM
theorem Zr1(T:Txt K mg)(Zbg:Callee P w K mg base k "checked" Zbr)(ZbD:Callee P w K mg base k "checked_looks" Zbh)(ZaK:Callee P w K mg base k "begin_of" Za1)(ZcD:Callee P w K mg base k "depths_of" (ZbJ ap))(Z1:Callee P w K mg base k "cost_at_worst" ZH)(Zb1:Callee P w K mg base k "coming_from" (ZbC ap))(ZaX:Callee P w K mg base k "parted" Zaj)(D:Def K mg "fewest" Zjv ["works","looks"]):Callee P w K mg base (k+1) "fewest" (Zhf ap) :=
 D.ok Ziv λ_ cdv A outer s H E hr=>by
  exact(Zk (Zgv (Zl Zbg hr (Zb (Zd 0) Zf)))
  (Zk (Zgv (Zl ZbD hr (Zb (Zd 0) (Zb (Zd 1) Zf))))
  (Zk (ZK 2 Ziv.nd (Zl ZaK hr (Zb (Zd 0) Zf)))
  (Zk (ZK 3 Ziv.nd (Zl ZcD hr (Zb (Zd 0) (Zb (Zl Zb1 hr (Zb (Zd 0) (Zb (Zd 1) (Zb (Zd 2) Zf)))) Zf))))
  (Zn (Zw (Zl Z1 hr (Zb (Zl ZaX hr (Zb (Zd 0) (Zb (Zd 1) (Zb (Zd 2) Zf)))) (Zb (Zd 3) Zf)))))))))
abbrev ZhW:List Str:=["ways","costs","cost_by","least"]
theorem ZjD:Zr ZhW ["ways","costs","cost_by"] (Ze Zfz):=scM
theorem ZoO(T:Txt K mg)(Zce:Callee P w K mg base k "least_cost" (Zbf ap))(CV:ZcH P w K mg base k ap)(D:Def K mg "best_way" Zfz ["ways","costs","cost_by"]):Callee P w K mg base (k+1) "best_way" (Zbp ap) :=
 D.ok ZjD λ_ cdv A outer s H E hr=>by
  exact(Zk (ZK 3 ZjD.nd (Zl Zce hr (Zb (Zd 0) (Zb (Zd 1) (Zb (Zd 2) Zf)))))
  (Zn (Zw (ZF (ZaT (Zaq rfl rfl (N:="way" :: ZhW) (ZJ (sc:=Ze Zfz) (XN:=ZhW)) (Zac (Zd 0)) (λ_ _ _ _ _=>(Zey (Zag (cEq hr) (Zk8 CV hr 3 (Zb (Zd 0) (Zb (Zd 2) Zf))) (Zd 4)))) (λ_ _ _ _ _=>(Zd 0)))) Zh))))
theorem ZgR:Zr ["reach","costs","cost_by","step_by","steps","crowd"] ["reach","costs","cost_by","step_by"] (Ze ZhD):=scM
theorem ZoP(T:Txt K mg)(ZhM:Callee P w K mg base k "best_way" (Zbp ap))(CV:ZcH P w K mg base k ap)(D:Def K mg "steps_of" ZhD ["reach","costs","cost_by","step_by"]):Callee P w K mg base (k+1) "steps_of" (Zfx ap) :=
 D.ok ZgR λ_ cdv A outer s H E hr=>by
  have hu:=Zej hr;exact(Zk (Zbj 4 ZgR.nd Zod)
  (Zk (Zh4 1 (ZcV 5 ZgR.nd rfl rfl (Zh5 1) (Zn (ZaU (Zag (cEq hr) (Zez hu (Zp 1) (Zd 5)) Zh) (Zn (ZgC hu 4 (Zd 5) (ZuP T.c_DONE))) (Zn (ZgC hu 4 (Zd 5) (Zs9 CV hr 3 (Zk7 (Zl ZhM hr (Zb (Zez hu (Zp 0) (Zd 5)) (Zb (Zzy 1) (Zb (Zd 2) Zf)))) (Zot (Zp 4) (Zs7 Zf))))))))))
  (Zn (ZeI 4 (Zw (Zd 4))))))
theorem Zgj:Zr ["works","looks","rows","coming","depths"] ["works","looks"] (Ze Zjw):=scM
theorem Zr2(T:Txt K mg)(Zbg:Callee P w K mg base k "checked" Zbr)(ZbD:Callee P w K mg base k "checked_looks" Zbh)(ZaX:Callee P w K mg base k "parted" Zaj)(Zb1:Callee P w K mg base k "coming_from" (ZbC ap))(ZcD:Callee P w K mg base k "depths_of" (ZbJ ap))(ZdO:Callee P w K mg base k "plan_of" Zci)(ZaK:Callee P w K mg base k "begin_of" Za1)(Z1:Callee P w K mg base k "cost_at_worst" ZH)(ZhN:Callee P w K mg base k "steps_of" (Zfx ap))(Vff_deeds_by:GFn mg "deeds_by" 0)(Vff_do_step:GFn mg "do_step" 2)(D:Def K mg "a_plan" Zjw ["works","looks"]):Callee P w K mg base (k+1) "a_plan" (ZcK ap) :=
 D.ok Zgj λ_ cdv A outer s H E hr=>by
  exact(Zk (Zgv (Zl Zbg hr (Zb (Zd 0) Zf)))
  (Zk (Zgv (Zl ZbD hr (Zb (Zd 0) (Zb (Zd 1) Zf))))
  (Zk (ZK 2 Zgj.nd (Zl ZaX hr (Zb (Zd 0) (Zb (Zd 1) (Zb (Zl ZaK hr (Zb (Zd 0) Zf)) Zf)))))
  (Zk (ZK 3 Zgj.nd (Zl Zb1 hr (Zb (Zd 0) (Zb (Zd 1) (Zb (Zl ZaK hr (Zb (Zd 0) Zf)) Zf)))))
  (Zk (ZK 4 Zgj.nd (Zl ZcD hr (Zb (Zd 0) (Zb (Zd 3) Zf))))
  (Zk (ZaU (Zag ZlC (Zl Z1 hr (Zb (Zd 2) (Zb (Zd 4) Zf))) Zbx) (Zn (Zw Zbx)) Z5)
  (Zn (Zw (Zl ZdO hr (Zb (Zd 2) (Zb (Zl ZhN hr (Zb (Zd 3) (Zb (Zd 4) (Zb (ZlJ Vff_deeds_by) (Zb (ZlJ Vff_do_step) Zf))))) Zf)))))))))))
theorem Zc0:Zr ["works","plan","told","step"] ["works"] (Ze ZgL):=scM
theorem ZnX(T:Txt K mg)(ZjE:Callee P w K mg base k "a_plan" (ZcK ap))(D:Def K mg "blind_row" ZgL ["works"]):Callee P w K mg base (k+1) "blind_row" (Zcz ap) :=
 D.ok Zc0 λ_ cdv A outer s H E hr=>by
  exact(Zk (ZK 1 Zc0.nd (Zl ZjE hr (Zb (Zd 0) (Zb (Za7 Zf) Zf))))
  (Zk (ZaU (Zag ZlC (Zd 1) Zbx) (Zn (Zw Zbx)) Z5)
  (Zk (Zbj 2 Zc0.nd (Zdn Zf))
  (Zk (ZK 3 Zc0.nd (ZF (Zaf (ZF (Zp 1) Zh)) Zh))
  (Zk (Zk6 100000 rfl (Zag cGt (Zbb T.n_len (Zp 3)) Zh) (Zk (Zex 2 (ZF (Zp 3) Zh))
  (Zn (ZK 3 Zc0.nd (ZF (Zaf (ZF (Zaf (ZF (Zp 3) Zh)) Zh)) Zh)))))
  (Zn (ZeI 2 (Zw (Zd 2)))))))))
theorem ZnY:Zr ["works"] ["works"] (Ze ZgJ):=scM
theorem ZnZ(T:Txt K mg)(Za3:Callee P w K mg base k "looks_of" Zbd)(Zbg:Callee P w K mg base k "checked" Zbr)(D:Def K mg "all_looks" ZgJ ["works"]):Callee P w K mg base (k+1) "all_looks" Zdu :=
 D.ok ZnY λ_ cdv A outer s H E hr=>by exact(Zn (Zw (ZkO T.n_tuple T.n_range rfl (Zbb T.n_len (Zaf (Zl Za3 hr (Zb (Zl Zbg hr (Zb (Zd 0) Zf)) Zf)))))))
abbrev Zg1:List Str:=["_law_script","_law_works_here","_law_prices_here","_law_least","_law_many","_law_deed_here","_law_dearer","_law_twice","_law_blind","_law_look","_law_less","_law_told"]
theorem Zcf:Zr Zg1 ["_law_script"] (Ze Zea):=scM
theorem Zwx(T:Txt K mg)(ZgS:Callee P w K mg base k "_law_works" Zbs)(Zf0:Callee P w K mg base k "_law_prices" Zef)(Zda:Callee P w K mg base k "cheapest" (Zcq ap))(ZjF:Callee P w K mg base k "fewest" (Zhf ap))(ZgT:Callee P w K mg base k "blind_row" (Zcz ap))(ZaJ:Callee P w K mg base k "_law_cell" Z3)(ZgU:Callee P w K mg base k "all_looks" Zdu)(Fn:Fun K "law" "law" Zea f fd):ZdH P w K mg base CX0 (k+1) f fd ["_law_script"] (spD K 1 (ZgF ap)) :=
 Zrj Fn Zcf λcdv A outer s H E hr=>by
  exact(Zk (ZK 1 Zcf.nd (Zl ZgS hr (Zb (Zd 0) (Zb Zh Zf))))
  (Zk (ZK 2 Zcf.nd (Zl Zf0 hr (Zb (Zd 1) (Zb (Zl ZaJ hr (Zb (Zd 0) (Zb Zh Zf))) Zf))))
  (Zk (ZK 3 Zcf.nd (Zl Zda hr (Zb (Zd 1) (Zb (Zd 2) Zf))))
  (Zk (ZK 4 Zcf.nd (Zl ZjF hr (Zb (Zd 1) (Zb (Zl ZgU hr (Zb (Zd 1) Zf)) Zf))))
  (Zk (ZaU (Zag ZlC (Zd 3) Zbx) (Zn (Zw (ZgA ZlC (Zd 4) Zbx))) Z5)
  (Zk (ZaU (Zmx (ZlI (Zag cLt (Zd 3) (Zy Zcu (Zd 4) (Zwv T.n_min rfl (ZF (Zp 2) Zh)))) (Zji (Zag cGt (Zd 3) (Zy Za5 (Zy Zcu (Zd 4) (Zwu T.n_max rfl (ZF (Zp 2) Zh))) (Zy Zcu (Zy Za5 (Zd 4) Zh) (Zww T.n_sum rfl (ZF (Zp 2) Zh)))))))) (Zn (Zw Zb0)) Z5)
  (Zk (ZK 5 Zcf.nd (Zy oMod (Zl ZaJ hr (Zb (Zd 0) (Zb Zh Zf))) (Zbb T.n_len (Zaf (ZF (Zp 1) Zh)))))
  (Zk (ZK 6 Zcf.nd (Za7 (Zb (Zfd (Zfd (Zdo (ZF (Zp 2) Zh) ZdS (ZdR (Zd 5))) (Za7 (Zb (Zy Za5 (ZF (Zaf (ZF (Zp 2) Zh)) (Zd 5)) Zh) Zf))) (Zdo (ZF (Zp 2) Zh) (ZdR (Zy Za5 (Zd 5) Zh)) ZdS)) (Zb (ZF (Zp 2) Zh) Zf))))
  (Zk (ZaU (Zcx (ZuM cLe cLe (Zd 3) (Zl Zda hr (Zb (Zd 1) (Zb (Zd 6) Zf))) (Zy Zcu (Zd 3) Zh))) (Zn (Zw Zb0)) Z5)
  (Zk (ZK 7 Zcf.nd (Za7 (Zb (Zah T.n_tuple (ZaT (Zaq rfl rfl (N:="_law_price" :: Zg1) (ZJ (sc:=Ze Zea) (XN:=Zg1)) (Zac (ZF (Zp 2) Zh)) (λ_ _ _ _ _=>ZaW) (λ_ _ _ _ _=>(Zy Zcu Zh (Zd 0)))))) (Zb (Zah T.n_tuple (ZaT (Zaq rfl rfl (N:="_law_price" :: Zg1) (ZJ (sc:=Ze Zea) (XN:=Zg1)) (Zac (ZF (Zp 2) Zh)) (λ_ _ _ _ _=>ZaW) (λ_ _ _ _ _=>(Zy Zcu Zh (Zd 0)))))) Zf))))
  (Zk (ZaU (Zag (cNe hr) (Zl Zda hr (Zb (Zd 1) (Zb (Zd 7) Zf))) (Zy Zcu Zh (Zd 3))) (Zn (Zw Zb0)) Z5)
  (Zk (ZK 8 Zcf.nd (Zl ZgT hr (Zb (Zd 1) Zf)))
  (Zk (ZaU (Zmx (ZxN (Zag Zok (Zd 8) Zbx) (Zwo (Zag cGt (Zd 3) (Zwr T.n_sum rfl (ZaT (Zaq rfl rfl (N:="_law_one" :: Zg1) (ZJ (sc:=Ze Zea) (XN:=Zg1)) (Zac (Zd 8)) (λ_ _ _ _ _=>ZaW) (λ_ _ _ _ _=>(ZF (Zaf (ZF (Zp 3) Zh)) (Zd 0)))))))))) (Zn (Zw Zb0)) Z5)
  (Zk (ZaU (Zag (cEq hr) (ZF (Zp 1) Zh) (Za7 Zf)) (Zn (Zw (ZgA Zok (Zd 8) Zbx))) Z5)
  (Zk (ZK 9 Zcf.nd (Zy oMod (Zl ZaJ hr (Zb (Zd 0) (Zb Zh Zf))) (Zbb T.n_len (Zaf (ZF (Zp 1) Zh)))))
  (Zk (ZK 10 Zcf.nd (Zfd (Zfd (Zdo (Zd 1) ZdS (ZdR Zh)) (Za7 (Zb (Zfd (Zdo (ZF (Zp 1) Zh) ZdS (ZdR (Zd 9))) (Zdo (ZF (Zp 1) Zh) (ZdR (Zy Za5 (Zd 9) Zh)) ZdS)) Zf))) (Zdo (Zd 1) (ZdR Zh) ZdS)))
  (Zk (ZK 11 Zcf.nd (Zl Zda hr (Zb (Zd 10) (Zb (Za7 (Zb (ZF (Zp 2) Zh) (Zb (Zfd (Zdo (ZF (Zp 2) Zh) ZdS (ZdR (Zd 9))) (Zdo (ZF (Zp 2) Zh) (ZdR (Zy Za5 (Zd 9) Zh)) ZdS)) Zf))) Zf))))
  (Zn (Zw (Zzw (ZgA ZlC (Zd 11) Zbx) (ZeH (ZgA cGe (Zd 11) (Zd 3)))))))))))))))))))))))
def FvI(K:ZBd)(t:Nat)(cs:List PyData)(F:Hp)(a:Addr):Prop :=
 (t=0/\cs=[]/\ZC0 K ZBT "deeds_by" = Z (Z (.ref a)))\/(t=2/\cs=[]/\ZC0 K ZBT "do_step" = Z (Z (.ref a)))\/(t=5/\cs=[]/\ZC0 K ZBT "price_by" = Z (Z (.ref a)))\/(t=1/\Clo K F a (Zsb ZZ) (ZmX ZZ) (Zf6 ZZ) ["works","looks"] cs)\/(t=6/\Clo K F a (Zsb ZI) (ZmX ZI) (Zf6 ZI) ["works","prices"] cs)
theorem ZxY:Zi6 (Zf6 ZZ) "part" ["works","looks"]:=⟨rfl,rfl,rfl,by decide +kernel,rfl,by decide +kernel,by decide +kernel⟩
theorem Zy1(T:Txt K mg)(ZbM:Callee P w K mg base k "ways_with" Zar)(qual:Str)(f:Addr)(cd:Value)(clos:List (Str × Addr))(A:Around)(outer:List PySem.Env)(s:Shared)(H:Hp)(hr:Zav k (A.deeper (ZD9 qual (Zf6 ZZ) s.heap.objs.size f cd clos))) :
  XE (ZlY P w K mg base ["part","works","looks"] qual (Zf6 ZZ) f cd clos A outer s H) (ZmX ZZ) (Zm Zar (Za (Zc 1) (Za (Zc 2) (Za (Zc 0) Zi)))):=by
 have hu:=Zej hr;exact(Zl ZbM hr (Zb (Zd 1) (Zb (Zd 2) (Zb (Zd 0) Zf))))
theorem Zzs:Zi6 (Zf6 ZI) "crowd" ["works","prices"]:=⟨rfl,rfl,rfl,by decide +kernel,rfl,by decide +kernel,by decide +kernel⟩
theorem ZyZ(T:Txt K mg)(ZcC:Callee P w K mg base k "ways_to_buy" Za4)(qual:Str)(f:Addr)(cd:Value)(clos:List (Str × Addr))(A:Around)(outer:List PySem.Env)(s:Shared)(H:Hp)(hr:Zav k (A.deeper (ZD9 qual (Zf6 ZI) s.heap.objs.size f cd clos))) :
  XE (ZlY P w K mg base ["crowd","works","prices"] qual (Zf6 ZI) f cd clos A outer s H) (ZmX ZI) (Zm Za4 (Za (Zc 1) (Za (Zc 2) (Za (Zc 0) Zi)))):=by
 have hu:=Zej hr;exact(Zl ZcC hr (Zb (Zd 1) (Zb (Zd 2) (Zb (Zd 0) Zf))))
theorem ZzL(T:Txt K mg)(V:∀t cs F a,FX.fv t cs F a->FvI K t cs F a){f0:Addr}{fd0:FuncData}(Fn0:Fun K "deeds_by" "deeds_by" ZfA f0 fd0)(hm0:mg "deeds_by" = Z (.ref f0))(hn0:∀a,ZC0 K ZBT "deeds_by" = Z (Z (.ref a))->mg "deeds_by" = Z (.ref a))(ZhO:Callee P w K mg base (k+1) "deeds_by" Zd8){f1:Addr}{fd1:FuncData}(Fn1:Fun K "do_step" "do_step" Zgi f1 fd1)(hm1:mg "do_step" = Z (.ref f1))(hn1:∀a,ZC0 K ZBT "do_step" = Z (Z (.ref a))->mg "do_step" = Z (.ref a))(Ziw:Callee P w K mg base (k+1) "do_step" ZeQ){f2:Addr}{fd2:FuncData}(Fn2:Fun K "price_by" "price_by" ZfB f2 fd2)(hm2:mg "price_by" = Z (.ref f2))(hn2:∀a,ZC0 K ZBT "price_by" = Z (Z (.ref a))->mg "price_by" = Z (.ref a))(ZhP:Callee P w K mg base (k+1) "price_by" Zd9)(Lf_ways_with:Callee P w K mg base k "ways_with" Zar)(Lf_ways_to_buy:Callee P w K mg base k "ways_to_buy" Za4):ZcH P w K mg base (k+1) ap:=by
 constructor
 ·intro t cs F a h A outer s H e0 sub
  rcases V t cs F a h with⟨rfl,rfl,hn⟩ | ⟨rfl,rfl,hn⟩ | ⟨rfl,rfl,hn⟩ | ⟨rfl,hC⟩ | ⟨rfl,hC⟩
  ·exact ZmO Fn0 hm0 (hn0 a hn) e0
  ·exact ZmO Fn1 hm1 (hn1 a hn) e0
  ·exact ZmO Fn2 hm2 (hn2 a hn) e0
  ·exact Ztv hC e0 sub
  ·exact Ztv hC e0 sub
 ·intro t cs F a h A outer s H e0 sub us vs ds d Q hr tb nt rv rs hap kk
  rcases V t cs F a h with⟨rfl,rfl,hn⟩ | ⟨rfl,rfl,hn⟩ | ⟨rfl,rfl,hn⟩ | ⟨rfl,hC⟩ | ⟨rfl,hC⟩
  ·exact ZlB ZhO (hn0 a hn) e0 sub hr tb nt rv rs hap kk
  ·exact ZlB Ziw (hn1 a hn) e0 sub hr tb nt rv rs hap kk
  ·exact ZlB ZhP (hn2 a hn) e0 sub hr tb nt rv rs hap kk
  ·exact Zrn ZxY (λ_ _ _ _ _ _=>rfl) (Zy1 T Lf_ways_with) hC e0 sub hr tb nt rv rs hap kk
  ·exact Zrn Zzs (λ_ _ _ _ _ _=>rfl) (ZyZ T Lf_ways_to_buy) hC e0 sub hr tb nt rv rs hap kk
def tlI:List (Addr × Str):=[(253,"coming_from.<locals>.<lambda>"),(336,"reach_by_buying.<locals>.<lambda>")]
@[reducible] def fxI(K:ZBd):FX where
 tl:=tlI
 fv:=FvI K
 sw:=λhF hob h=>by
  rcases h with h | h | h | h | h
  ·exact ZBZ (h)
  ·exact ZBC (ZBZ (h))
  ·exact ZBC (ZBC (ZBZ (h)))
  ·exact ZBC (ZBC (ZBC (ZBZ (⟨h.1,h.2.sw hF hob⟩))))
  ·exact ZBC (ZBC (ZBC (ZBC ((⟨h.1,h.2.sw hF hob⟩)))))
 drop:=λh=>by
  rcases h with h | h | h | h | h
  ·exact ZBZ (h)
  ·exact ZBC (ZBZ (h))
  ·exact ZBC (ZBC (ZBZ (h)))
  ·exact ZBC (ZBC (ZBC (ZBZ (⟨h.1,h.2.drop⟩))))
  ·exact ZBC (ZBC (ZBC (ZBC ((⟨h.1,h.2.drop⟩)))))
 mono:=λh s=>by
  rcases h with h | h | h | h | h
  ·exact ZBZ (h)
  ·exact ZBC (ZBZ (h))
  ·exact ZBC (ZBC (ZBZ (h)))
  ·exact ZBC (ZBC (ZBC (ZBZ (⟨h.1,h.2.mono s⟩))))
  ·exact ZBC (ZBC (ZBC (ZBC ((⟨h.1,h.2.mono s⟩)))))
theorem Zyv{kV:Value}(X:K.In h)(G:h.Ns ZBT mg)(a:ZC0 K ZBT x=Z (Z (.ref f)))
  (l:K.lookup f=Z ⟨oc,od,.func (ZCK x x (Zcg st) (ZaS st) (Ze st) .none kV doc pm an cdv ct),osl⟩) (c:ZDq K cdv x=ZGH) (kp:ZCO K (.ref f)=ZGH)
  (b:∀(kV doc pm:Value) (an:Option Addr) (cdv ct:Value) (us:List Value),us.length=ps.length->bindArgs (ZCK x x (Zcg st) (ZaS st) (Ze st) .none kV doc pm an cdv ct) ⟨us,[]⟩=pure (ps.zip us)):Def K mg x st ps :=
 ⟨f,_,Zpe l c kp,ZEi X G a,(Zpe l c kp).binds b⟩
structure Zu9(K:ZBd)(mg:Str->Option Value)(x:Str)(st:Stmt)(ps:List Str)(c T:Addr):Prop where
 ex:∃f fd,ZpI K x x st f fd c/\mg x=Z (.ref f)/\Binds K fd ps []/\ZCM K c T=ZGH
theorem ZwW{T:Addr}{kV:Value}(X:K.In h)(G:h.Ns ZBT mg)(a:ZC0 K ZBT x=Z (Z (.ref f)))
  (l:K.lookup f=Z ⟨oc,od,.func (ZCK x x (Zcg st) (ZaS st) (Ze st) .none kV doc pm an cdv ct),osl⟩) (cc:ZDq K cdv x=ZGH) (kp:ZCO K (.ref f)=ZGH)
  (b:∀(kV doc pm:Value) (an:Option Addr) (cdv ct:Value) (us:List Value),us.length=ps.length->bindArgs (ZCK x x (Zcg st) (ZaS st) (Ze st) .none kV doc pm an cdv ct) ⟨us,[]⟩=pure (ps.zip us)) (e:cdv=.ref c) (hc:ZCM K c T=ZGH):Zu9 K mg x st ps c T:=by
 subst e;exact⟨f,_,Zw0 l cc kp,ZEi X G a,.all (b kV doc pm an _ ct),hc⟩
def NsV(K:ZBd)(mg:Str->Option Value)(x:Str):Prop:=(∀a,ZC0 K ZBT x=Z (Z (.ref a))->mg x=Z (.ref a))/\∃f,ZC0 K ZBT x=Z (Z (.ref f))
theorem Zym(X:K.In h)(G:h.Ns ZBT mg)(a:ZC0 K ZBT x=Z (Z (.ref f))):NsV K mg x:=⟨λ_ e=>ZEi X G e,f,a⟩
end
structure Ds(K:ZBd)(mg:Str->Option Value):Prop where
 ZqO:Def K mg "_law_cell" ZhF ["_law_script","_law_k"]
 Zr3:Def K mg "_law_mix" Zip ["_law_cell_here","_law_prime","_law_many"]
 ZoQ:Def K mg "_law_crowd" ZeX ["_law_cell_here","_law_many","_law_least"]
 ZqP:Def K mg "_law_deed" ZhG ["_law_cell_here","_law_many"]
 ZqQ:Def K mg "_law_walk" ZhH ["_law_cell_here","_law_many"]
 ZoR:Def K mg "_law_works" ZeY ["_law_script","_law_at"]
 Zn0:Def K mg "_law_prices" ZcZ ["_law_works_here","_law_cell_here"]
 ZoS:Def K mg "is_number" ZgG ["thing","least","most"]
 ZoT:Def K mg "is_rising" ZgH ["thing","many"]
 ZqR:Def K mg "is_crowd" Zhz ["thing","many"]
 Zta:Def K mg "is_row" Zjt ["thing","least","most"]
 Zr4:Def K mg "is_deed" Zge ["thing","many"]
 ZoU:Def K mg "are_deeds" ZeT ["thing","many"]
 Zr5:Def K mg "is_look" Zgf ["thing","many"]
 ZoV:Def K mg "are_looks" ZeU ["thing","many"]
 ZoW:Def K mg "are_works" ZgI ["thing"]
 Zr6:Def K mg "checked" Zio ["works"]
 ZlT:Def K mg "is_price_row" Zdi ["thing","many"]
 ZqS:Def K mg "deeds_of" ZhA ["works"]
 ZqT:Def K mg "looks_of" ZhB ["works"]
 ZkI:Def K mg "checked_prices" Zd0 ["works","prices"]
 ZjG:Def K mg "crowds_in" ZcA ["rows"]
 Zlf:Def K mg "cost_at_worst" ZcO ["rows","costs"]
 ZkW:Def K mg "deeds_by" ZfA ["way","depths"]
 Zr7:Def K mg "plan_of" Zgh ["rows","steps"]
 ZlU:Def K mg "do_step" Zgi ["way","steps"]
 ZkX:Def K mg "price_by" ZfB ["way","costs"]
 Zr8:Def K mg "seen_in" Zgg ["works","looks","state"]
 Ztb:Def K mg "parted" Zhi ["works","looks","crowd"]
 ZmD:Def K mg "can_be_done" ZdN ["works","crowd","deed"]
 Zn1:Def K mg "deeds_with" Zeg ["works","crowd"]
 Ztc:Def K mg "led_to" Zju ["works","crowd","deed"]
 ZoX:Def K mg "ways_with" ZeW ["works","looks","crowd"]
 ZlV:Def K mg "deeds_to_buy" Zdj ["works","prices","crowd"]
 ZlW:Def K mg "looks_to_buy" Zcj ["works","prices","crowd"]
 ZmE:Def K mg "ways_to_buy" Zff ["works","prices","crowd"]
 Zn2:Def K mg "least_cost" ZcY ["ways","costs","cost_by"]
 Zn3:Def K mg "next_costs" ZfX ["reach","costs","cost_by"]
 Zr9:Def K mg "goal_of" Zin ["works"]
 ZqU:Def K mg "is_there" Zfy ["works","crowd"]
 ZqV:Def K mg "costs_of" Zc8 ["works","reach","cost_by"]
 ZlX:Def K mg "reached_from" ZeV ["crowds","ways_for"]
 ZqW:Def K mg "begin_of" ZhC ["works"]
 ZjH:Zu9 K mg "reach_by_buying" ZI ["works","prices"] 340 336
 ZqX:Def K mg "cheapest" ZhE ["works","prices"]
 Zlg:Def K mg "checked_looks" Zep ["works","looks"]
 ZoY:Def K mg "depths_of" ZgK ["works","coming"]
 ZmF:Zu9 K mg "coming_from" ZZ ["works","looks","crowd"] 257 253
 Ztd:Def K mg "fewest" Zjv ["works","looks"]
 ZqY:Def K mg "best_way" Zfz ["ways","costs","cost_by"]
 ZqZ:Def K mg "steps_of" ZhD ["reach","costs","cost_by","step_by"]
 Zte:Def K mg "a_plan" Zjw ["works","looks"]
 ZoZ:Def K mg "blind_row" ZgL ["works"]
 Zo0:Def K mg "all_looks" ZgJ ["works"]
 Nf_deeds_by:NsV K mg "deeds_by"
 Nf_do_step:NsV K mg "do_step"
 Nf_price_by:NsV K mg "price_by"
section
variable[FX]{P:Program}{w:World}{K:ZBd}{mg:Str->Option Value}{base:Heap}{k:Nat}
theorem ZyM(T:Txt K mg)(hV:∀t cs F a,FX.fv t cs F a↔FvI K t cs F a)(hTL:FX.tl=tlI)(Dd:Ds K mg)(bm:BMod base mg){f:Addr}{fd:FuncData}(Fn:Fun K "law" "law" Zea f fd):ZdH P w K mg base CX0 14 f fd ["_law_script"] (spD K 1 (ZgF ap)):=by
 have Vff_deeds_by:GFn mg "deeds_by" 0:=by obtain⟨h1,g,h2⟩:=Dd.Nf_deeds_by;exact⟨g,h1 g h2,λF=>(hV _ _ _ _).mpr (ZBZ (⟨rfl,rfl,h2⟩))⟩
 have Vff_do_step:GFn mg "do_step" 2:=by obtain⟨h1,g,h2⟩:=Dd.Nf_do_step;exact⟨g,h1 g h2,λF=>(hV _ _ _ _).mpr (ZBC (ZBZ (⟨rfl,rfl,h2⟩)))⟩
 have Vff_price_by:GFn mg "price_by" 5:=by obtain⟨h1,g,h2⟩:=Dd.Nf_price_by;exact⟨g,h1 g h2,λF=>(hV _ _ _ _).mpr (ZBC (ZBC (ZBZ (⟨rfl,rfl,h2⟩))))⟩
 have ZaJ:Callee P w K mg base 1 _ _:=Zox T Dd.ZqO;have ZQ:Callee P w K mg base 1 _ _:=Zqz T Dd.Zr3;have ZeZ:Callee P w K mg base 2 _ _:=ZnI T (Cup ZQ) Dd.ZoQ;have ZhI:Callee P w K mg base 2 _ _:=Zoy T (Cup ZQ) Dd.ZqP;have ZhJ:Callee P w K mg base 2 _ _:=Zoz T (Cup ZQ) Dd.ZqQ;have ZgS:Callee P w K mg base 3 _ _:=ZnJ T (Cup ZaJ) (Cup ZeZ) (Cup ZQ) (Cup ZhI) (Cup ZhJ) Dd.ZoR;have Zf0:Callee P w K mg base 2 _ _:=Zmy T (Cup ZQ) Dd.Zn0;have ZaE:Callee P w K mg base 1 _ _:=ZnL T Dd.ZoS;have ZaF:Callee P w K mg base 2 _ _:=ZnM T (Cup ZaE) Dd.ZoT;have ZhK:Callee P w K mg base 3 _ _:=ZoB T (Cup ZaF) Dd.ZqR;have Z4:Callee P w K mg base 1 _ _:=ZrY T Dd.Zta;have Ziq:Callee P w K mg base 3 _ _:=ZqB T (Cup Z4) (Cup ZaF) Dd.Zr4;have ZgM:Callee P w K mg base 4 _ _:=ZnO T (Cup Z4) (Cup Ziq) Dd.ZoU;have Zir:Callee P w K mg base 2 _ _:=ZqD T (Cup Z4) (Cup ZaE) Dd.Zr5;have ZgN:Callee P w K mg base 3 _ _:=ZnQ T (Cup Z4) (Cup Zir) Dd.ZoV;have ZgO:Callee P w K mg base 5 _ _:=ZnR T (Cup ZhK) (Cup ZaF) (Cup Z4) (Cup ZaE) (Cup ZgM) (Cup ZgN) Dd.ZoW;have Zbg:Callee P w K mg base 6 _ _:=ZqF T (Cup ZgO) Dd.Zr6;have Zdk:Callee P w K mg base 2 _ _:=Zla T (Cup Z4) (Cup ZaE) Dd.ZlT;have Za2:Callee P w K mg base 1 _ _:=ZoD T Dd.ZqS;have Za3:Callee P w K mg base 1 _ _:=ZoF T Dd.ZqT;have Zd1:Callee P w K mg base 3 _ _:=Zjy T (Cup Z4) (Cup Zdk) (Cup Za2) (Cup Za3) Dd.ZkI;have ZbL:Callee P w K mg base 1 _ _:=ZnS T Dd.ZjG;have ZgQ:ZeB P w K mg base 1 "crowds_in" ZX:=by obtain⟨f,fd,F,m,b⟩:=Dd.ZjG.ex;exact Zmz T  F m b
 have Z1:Callee P w K mg base 2 _ _:=ZkF T (Cup ZbL) Dd.Zlf;have ZhO:Callee P w K mg base 3 _ _:=ZoG T (Cup Z1) Dd.ZkW;have ZdO:Callee P w K mg base 1 _ _:=ZqH T Dd.Zr7;have Ziw:Callee P w K mg base 2 _ _:=ZqJ T (Cup ZdO) Dd.ZlU;have ZhP:Callee P w K mg base 3 _ _:=ZoH T (Cup Z1) Dd.ZkX;have Zit:Callee P w K mg base 2 _ _:=ZqL T (Cup Za3) Dd.Zr8;have ZaX:Callee P w K mg base 3 _ _:=ZrZ T (Cup Zit) Dd.Ztb;have Zfh:Callee P w K mg base 2 _ _:=ZlO T (Cup Za2) Dd.ZmD;have ZfZ:Callee P w K mg base 3 _ _:=ZmB T (Cup Zfh) (Cup Za2) Dd.Zn1;have ZjB:Callee P w K mg base 2 _ _:=Zr0 T (Cup Za2) Dd.Ztc;have ZbM:Callee P w K mg base 4 _ _:=ZnU T (Cup ZaX) (Cup ZfZ) (Cup ZjB) Dd.ZoX;have Ze1:Callee P w K mg base 5 _ _:=Zlc T (Cup ZbM) Dd.ZlV;have Ze2:Callee P w K mg base 4 _ _:=Zld T (Cup ZaX) Dd.ZlW;have ZcC:Callee P w K mg base 6 _ _:=ZlQ T (Cup Ze1) (Cup Ze2) Dd.ZmE;obtain⟨f0,fd0,F0,m0,b0⟩:=Dd.ZkW.ex;obtain⟨f1,fd1,F1,m1,b1⟩:=Dd.ZlU.ex;obtain⟨f2,fd2,F2,m2,b2⟩:=Dd.ZkX.ex;have CV:ZcH P w K mg base 7 ap:=ZzL (k:=6) T (λt cs F a h=>(hV t cs F a).mp h) F0 m0 Dd.Nf_deeds_by.1 (Cup ZhO) F1 m1 Dd.Nf_do_step.1 (Cup Ziw) F2 m2 Dd.Nf_price_by.1 (Cup ZhP) (Cup ZbM) (Cup ZcC);have Zce:Callee P w K mg base 8 _ _:=ZmC T (CV.mono (by decide)) Dd.Zn2;have Gf_next_costs:ZeC P w K mg base 9 "next_costs" (Zby ap):=by obtain⟨f,fd,F,m,b⟩:=Dd.Zn3.ex;exact Zmq T (Cup Zce) F m b
 have Ziu:Callee P w K mg base 1 _ _:=ZqN T Dd.Zr9;have ZhL:Callee P w K mg base 2 _ _:=ZoJ T (Cup Ziu) Dd.ZqU;have Zc9:Callee P w K mg base 10 _ _:=ZoK T (Cup ZhL) (Gf_next_costs.mono (by decide)) Dd.ZqV;have ZbQ:Callee P w K mg base 8 _ _:=Zle T (Cup ZbL) (ZgQ.mono (by decide)) (CV.mono (by decide)) Dd.ZlX;have ZaK:Callee P w K mg base 1 _ _:=ZoM T Dd.ZqW;have ZdA:Callee P w K mg base 9 "reach_by_buying" (Zbk ap):=by obtain⟨f,fd,F,m,b,hc⟩:=Dd.ZjH.ex;exact Zjg T (Cup ZbQ) (Cup ZaK) (Cup ZcC) hc (by rw[hTL]; decide) (by rw[hTL]; intro q h; simpa [tlI]using h) bm (λF p cs h=>(hV _ _ _ _).mpr (ZBC (ZBC (ZBC (ZBC ((⟨rfl,h⟩))))))) F m b
 have Zda:Callee P w K mg base 11 _ _:=ZoN T (Cup Zbg) (Cup Zd1) (Cup Zc9) (Cup ZdA) (Cup ZaK) Vff_price_by Dd.ZqX;have ZbD:Callee P w K mg base 3 _ _:=ZkH T (Cup ZaF) (Cup Za3) Dd.Zlg;have ZcD:Callee P w K mg base 11 _ _:=ZnW T (Cup Zc9) Vff_deeds_by Dd.ZoY;have Zb1:Callee P w K mg base 9 "coming_from" (ZbC ap):=by obtain⟨f,fd,F,m,b,hc⟩:=Dd.ZmF.ex;exact ZlS T (Cup ZbQ) (Cup ZbL) (Cup ZaX) (Cup ZbM) hc (by rw[hTL]; decide) (by rw[hTL]; intro q h; simpa [tlI]using h) bm (λF p cs h=>(hV _ _ _ _).mpr (ZBC (ZBC (ZBC (ZBZ (⟨rfl,h⟩)))))) F m b
 have ZjF:Callee P w K mg base 12 _ _:=Zr1 T (Cup Zbg) (Cup ZbD) (Cup ZaK) (Cup ZcD) (Cup Z1) (Cup Zb1) (Cup ZaX) Dd.Ztd;have ZhM:Callee P w K mg base 9 _ _:=ZoO T (Cup Zce) (CV.mono (by decide)) Dd.ZqY;have ZhN:Callee P w K mg base 10 _ _:=ZoP T (Cup ZhM) (CV.mono (by decide)) Dd.ZqZ;have ZjE:Callee P w K mg base 12 _ _:=Zr2 T (Cup Zbg) (Cup ZbD) (Cup ZaX) (Cup Zb1) (Cup ZcD) (Cup ZdO) (Cup ZaK) (Cup Z1) (Cup ZhN) Vff_deeds_by Vff_do_step Dd.Zte;have ZgT:Callee P w K mg base 13 _ _:=ZnX T (Cup ZjE) Dd.ZoZ;have ZgU:Callee P w K mg base 7 _ _:=ZnZ T (Cup Za3) (Cup Zbg) Dd.Zo0;exact Zwx (k:=13) T (Cup ZgS) (Cup Zf0) (Cup Zda) (Cup ZjF) (Cup ZgT) (Cup ZaJ) (Cup ZgU) Fn
end
theorem all_mk{l:ZGc}{w:World}{K:ZBd}{mg:Str->Option Value}{fa f4:Addr}{od4 an4:Option Addr}{sl4:Array (Option Value)}{oc4 kV4 dc4 pm4 cd4 ct4:Value}(X:K.In h)(G:h.Ns ZBT mg)(hfa:mg "law" = Z (.ref fa))
  (T:Txt K mg) (Dd:Ds K mg) (a4:ZC0 K ZBT "law" = Z (Z (.ref f4)))
  (l4:K.lookup f4=Z ⟨oc4,od4,.func (ZCK "law" "law" (Zcg Zea) (ZaS Zea) (Ze Zea) .none kV4 dc4 pm4 an4 cd4 ct4),sl4⟩) (c4:ZDq K cd4 "law" = ZGH) (k4:ZCO K (.ref f4)=ZGH) :
  ∃fd:FuncData,(∀(s:Shared) (v:Value),BindsTo s fd ⟨[v],[]⟩ [("_law_script",v)])/\∀base:Heap,K.In base->base.Ns ZBT mg->BMod base mg->ZdH l.prog w K mg base CX0 14 fa fd ["_law_script"] (@spD (fxI K) K 1 (ZgF ap)):=by
 have e:=hfa.symm.trans (ZEi X G a4);cases e;have fx0:FX:=FX0;exact⟨_,λs v=>.of_eq rfl,λbase _ _ bm=>@ZyM (fxI K) _ _ _ _ _ T (λ_ _ _ _=>Iff.rfl) rfl Dd bm _ _ (Zpe (st:=Zea) l4 c4 k4)⟩
theorem walk{l:ZGc}{q:Program}{loose:List Str}{XP:(Str->Option Value)->Heap->Prop}{YP:World->Heap->Prop}{d:DefRec}{K:Params->ZBd}(hn:l.most=Z 63)(hdf:d.params.defaults=[])
  (ZlD:∀ns:List Int,ns.length<=63->(ZgF ap) [.list (HM.ofInts ns)]=Z (.bool ZGH)) (hY:∀(w:World) (h:Heap),YP w h->(K w.params).In h) (hYT:∀(w:World) (h:Heap),YP w h->∀q∈([(257,253),(340,336)]:List (Addr × Addr)),h.get? q.2=Z (ZEa #[]))
  (hT:∀(w:World),∀q∈([(257,253),(340,336)]:List (Addr × Addr)),ZCM (K w.params) q.1 q.2=ZGH/\(K w.params).lookup q.2=Z_)
  (F:∀(w:World) (mg:Str->Option Value) (fa:Addr) (h:Heap),(K w.params).In h->h.Ns ZBT mg->mg d.name=Z (.ref fa) ->
   ∃fd:FuncData,(∀(s:Shared) (u:Value),BindsTo s fd ⟨[u],[]⟩ [("_law_script",u)])/\∀base:Heap,(K w.params).In base->base.Ns ZBT mg->BMod base mg->ZdH l.prog w (K w.params) mg base CX0 14 fa fd ["_law_script"] (@spD (fxI (K w.params)) (K w.params) 1 (ZgF ap))) :
  PySem.W.WalkO q loose XP YP l.row.toRowW d [] (λf vs=>PySem.call f vs) :=
 Zv8 (n:=63) (k:=14) (x:="_law_script") (sp:=λw=>@spD (fxI (K w.params)) (K w.params) 1 (ZgF ap)) (tabs:=[(257,253),(340,336)]) hn (by decide) hdf ⟨rfl,by decide,by decide⟩ hY hYT hT F λw H a ns hl hO hS=>@ZyY (fxI (K w.params)) _ _ _ _ _ _ hO (λT q h=>by
  have:∀p∈tlI,p.1∈([(257,253),(340,336)]:List (Addr × Addr)).map (·.2):=by decide
  exact this _ h) hS (ZlD ns hl)
section
variable{P:Program}{w:World}{K:ZBd}{mg:Str->Option Value}{base:Heap}{k:Nat}
abbrev ZAt{K:ZBd}(_:K.In h)(mg:Str->Option Value):Prop:=Ds K mg
abbrev Zz2{K:ZBd}(_:K.In h)(mg:Str->Option Value):Prop:=Txt K mg
theorem int_mk{mg:Str->Option Value}{v:Value}{k:Int}(h:mg n=Z v)(e:∃t,v=.int k t):∃t,mg n=Z (.int k t):=by obtain⟨t,rfl⟩:=e;exact⟨t,h⟩
abbrev ZyS{K:ZBd}(_:K.In h)(a:Addr)(ds:List L2.V):Prop:=HP.Zo5 K a ds
theorem Zy3{K:ZBd}{mg:Str->Option Value}{y:Str}{a:Addr}{o:Obj}(h:mg n=Z (.ref a))(l:K.lookup a=Z o)(e:∃t m d,o={ cls:=.type "tuple",data:=.seq #[.str y t] m,dict:=d }):∃a,mg n=Z (.ref a)/\HP.Zo5 K a [.str y]:=by obtain⟨t,m,d,rfl⟩:=e;exact⟨a,h,_,_,_,l,rfl,rfl,(show 1<=sizeLine by decide),.cons ⟨t,rfl⟩ .nil⟩
end
end HT
namespace PySem.W.Fast
theorem tw10067710292534683739:True:=⟨⟩
theorem tw10435399342037804840:True:=⟨⟩
theorem tw10784104807889222972:True:=⟨⟩
theorem tw11160230713735930332:True:=⟨⟩
theorem tw12323701775210118416:True:=⟨⟩
theorem tw13250114607379998521:True:=⟨⟩
theorem tw13691448612362337777:True:=⟨⟩
theorem tw13832748529345046479:True:=⟨⟩
theorem tw14025110877221825468:True:=⟨⟩
theorem tw14067457233971759844:True:=⟨⟩
theorem tw14362888418001370494:True:=⟨⟩
theorem tw14645778395383199156:True:=⟨⟩
theorem tw15388918694638583542:True:=⟨⟩
theorem tw15858954471037372161:True:=⟨⟩
theorem tw160960473697160449:True:=⟨⟩
theorem tw17365846363229660961:True:=⟨⟩
theorem tw17882088915643204154:True:=⟨⟩
theorem tw18338409848201571747:True:=⟨⟩
theorem tw2573753722145615380:True:=⟨⟩
theorem tw3665418787296381981:True:=⟨⟩
theorem tw4371958873372441976:True:=⟨⟩
theorem tw5989752631088857996:True:=⟨⟩
theorem tw6501701066785015714:True:=⟨⟩
theorem tw7858453020739323139:True:=⟨⟩
theorem tw9305610138149284869:True:=⟨⟩
theorem tw942504951921319727:True:=⟨⟩
theorem tw9432968180056319835:True:=⟨⟩
theorem tw947249404610426231:True:=⟨⟩
end PySem.W.Fast
open PySem PySem.W PyProof.Rows
set_option maxRecDepth 100000 in
set_option maxHeartbeats 0 in
theorem PySem.Challenge.cw_halfseen_k26_whole_what_looks_cost_holds : PySem.Challenge.rw_halfseen_k26_whole_what_looks_cost.Holds := by
 w_on; o_law; k_head; (case hw=>w_witness2)
 k_fill
 refine HT.walk (l:=PySem.Challenge.rw_halfseen_k26_whole_what_looks_cost) rfl rfl HG26.ZlD (λw h Y=>PySem.W.km_in_of Y) (λw h Y q hq=>PySem.W.km_tabs_of Y _ (by clear Y; revert q; decide)) ?Tab ?F
 case Tab =>
  intro w q hq;rcases ZBq.mp hq with e | hq
  ·cases e
   exact⟨by kernel_rfl,by kernel_rfl⟩
  cases ZBk.mp hq;exact⟨by kernel_rfl,by kernel_rfl⟩
 case F =>
  intro w mg fa h KX G hmg;have fx0:HP.FX:=HP.FX0;have c_DONE:∃a,mg "DONE" = Z (.ref a)/\HT.ZyS KX a [.str "done"]:=by
   refine' HT.Zy3 (ZEi KX G ?z) ?l ?e
   (case z=>k_is)
   (case l=>k_is)
   (case e=>exact⟨_,_,_,rfl⟩)
  have T:HT.Zz2 KX mg:=by
   refine⟨?_,?_,?_,?_,?_,?_,?_,?_,?_,?_,?_,?_,?_,?_,?_,?_,?_,?_,?_,?_,c_DONE⟩
   all_goals first
    | (refine PySem.W.mg_none_of KX G ?z; (case z=>k_is))
    | (refine' HT.int_mk (ZEi KX G ?z) ?e; (case z=>k_is); (case e=>exact⟨_,rfl⟩))
  have Dd:HT.ZAt KX mg:=by
   refine⟨?_,?_,?_,?_,?_,?_,?_,?_,?_,?_,?_,?_,?_,?_,?_,?_,?_,?_,?_,?_,?_,?_,?_,?_,?_,?_,?_,?_,?_,?_,?_,?_,?_,?_,?_,?_,?_,?_,?_,?_,?_,?_,?_,?_,?_,?_,?_,?_,?_,?_,?_,?_,?_,?_,?_,?_,?_⟩
   all_goals first
    | (refine' HT.Zyv KX G ?a ?l ?c ?k ?b; (case a=>k_is); (case l=>k_is); (case c=>k_is); (case k=>k_is); (case b=>first | exact λ_ _ _ _ _ _ us hl=>(match us,hl with | [_],_=>rfl) | exact λ_ _ _ _ _ _ us hl=>(match us,hl with | [_,_],_=>rfl) | exact λ_ _ _ _ _ _ us hl=>(match us,hl with | [_,_,_],_=>rfl) | exact λ_ _ _ _ _ _ us hl=>(match us,hl with | [_,_,_,_],_=>rfl)))
    | (refine' HT.ZwW KX G ?a ?l ?c ?k ?b ?e ?h; (case a=>k_is); (case l=>k_is); (case c=>k_is); (case k=>k_is); (case h=>kernel_rfl); (case e=>exact rfl); (case b=>first | exact λ_ _ _ _ _ _ us hl=>(match us,hl with | [_],_=>rfl) | exact λ_ _ _ _ _ _ us hl=>(match us,hl with | [_,_],_=>rfl) | exact λ_ _ _ _ _ _ us hl=>(match us,hl with | [_,_,_],_=>rfl) | exact λ_ _ _ _ _ _ us hl=>(match us,hl with | [_,_,_,_],_=>rfl)))
    | (refine' HT.Zym KX G ?z; (case z=>k_is))
  refine' HT.all_mk KX G hmg T Dd ?a4 ?l4 ?c4 ?k4
  (case a4=>k_is); (case l4=>k_is); (case c4=>k_is); (case k4=>k_is)